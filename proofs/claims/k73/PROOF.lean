import PyProof.Rows.All
import Wide.All
import Wide.FinOn
import KE.KDictOf
import KE.RegKIsAll
import KE.KEqDeep
import KE.KRevIter
import KE.KEqDict
import KE.RegKTryMore
import KE.KItem
import KE.KTurns
import KE.KFromBytes
import KE.KEqText
import PySem.Challenge.RW_bytetongue_k73_whole_parts
set_option Elab.async false
set_option linter.all false
set_option maxRecDepth 100000
theorem Z{b:Sort _}{a:b}:a=a:=rfl
def Uc:=@List.length_map
def Ud:=@List.length_append
def Ue:=@Nat.le_refl
def Uf:=@PySem.Heap.lt_size
def Ug:=@List.getElem?_map
def Uh:=@Nat.lt_of_lt_of_le
def Ui:=@PySem.boot_len
def Uj:=@PySem.Heap.get?_push_of_some
def Uk:=@List.getElem?_eq_some_iff
def Ul:=@List.length_take
def Um:=@List.size_toArray
def Uo:=@Nat.ne_of_lt
def Up:=@List.map_append
def Uq:=@List.mem_singleton
def Ur:=@List.mem_of_getElem?
def Us:=@List.mem_append
def Ut:=@Bool.false_ne_true
def Uu:=@List.mem_map
def Uv:=@List.mem_cons_self
def Uw:=@List.mem_cons_of_mem
def Ux:=@Nat.zero_le
def Uy:=@List.mem_cons
def Uz:=@Nat.lt_succ_self
def UA:=@List.mem_append_right
def UB:=@List.length_cons
def UC:=@List.append_nil
def UD:=@Bool.and_eq_true
def UE:=@Nat.le_trans
def UF:=@Array.length_toList
def UG:=@PySem.Heap.get?_push_size
def UH:=@PySem.F.plainAttrs_list
def UI:=@Nat.le_of_ble_eq_true
def UJ:=@List.take_length
def UK:=@PyProof.Rows.boot_list
def UL:=@List.getElem?_eq_getElem
def UM:=@List.map_cons
def UN:=@List.append_assoc
def UO:=@Option.some.inj
def UP:=@List.length_range
def UQ:=@List.mem_append_left
def UR:=@List.find?_cons
def US:=@Bool.false_eq_true
def UT:=@Nat.min_eq_left
def UU:=@List.take_of_length_le
def UV:=@PyProof.Rows.boot_int
def UW:=@Nat.lt_irrefl
def UX:=@PyProof.Rows.callWith_type1
def UY:=@PyProof.Rows.boot_isinstance
def UZ:=@PySem.F.slot_list_append
def U0:=@PySem.F.type_list_append
def U1:=@List.lookup_cons
def U2:=@List.any_eq_true
def U3:=@List.mem_range
def U4:=@Nat.ne_of_gt
def U5:=@List.length_drop
def U6:=@List.nil_append
def U7:=@List.getElem?_eq_none
def U8:=@List.mem_of_mem_take
def U9:=@List.find?_eq_none
def Va:=@Option.map_eq_some_iff
def Vb:=@List.flatten_cons
def Vc:=@List.range_succ
def Vd:=@List.map_map
def Ve:=@PySem.Heap.SameBut.refl
def Vf:=@Bool.eq_iff_iff
def Vg:=@PySem.Heap.size_push
def Vh:=@Nat.le_succ
def Vi:=@List.getElem?_append_right
def Vj:=@List.any_cons
def Vk:=@Option.map_some
def Vl:=@PyProof.Rows.slot_tuple_getitem
def Vm:=@List.replicate_succ
def Vn:=@List.foldl_cons
def Vo:=@Nat.add_sub_cancel_left
def Vp:=@List.drop_eq_nil_of_le
def Vq:=@List.mem_of_mem_drop
def Vr:=@List.pairwise_iff_getElem
def Vs:=@List.take_append_of_le_length
def Vt:=@Nat.le_of_eq
def Vu:=@List.nodup_cons
def Vv:=@PySem.mem_of_lookup
def Vw:=@List.getElem?_append_left
def Vx:=@PySem.F.slot_dict_get
def Vy:=@Int.toNat_natCast
def Vz:=@List.all_eq_true
def VA:=@Bool.or_eq_true
def VB:=@Int.le_of_lt
def VC:=@PySem.F.slot_list_index
def VD:=@Nat.zero_add
def VE:=@List.find?_some
def VF:=@Bool.not_true
def VG:=@PySem.Heap.SameBut.update
def VH:=@List.getD_eq_getElem?_getD
def VI:=@List.getElem?_range
def VJ:=@PyProof.Rows.boot_tuple
def VL:=@List.take_append_drop
def VM:=@Nat.mod_one
def VN:=@Option.isSome_map
def VO:=@Nat.succ_le_succ
def VP:=@Array.getElem?_toList
def VQ:=@List.length_reverse
def VR:=@Nat.succ_mul
def VS:=@List.drop_zero
def VT:=@List.drop_length
def VU:=@Nat.div_le_self
def VV:=@List.take_add_one
def VW:=@Int.ediv_nonneg
def VX:=@Int.ediv_le_self
def VY:=@Nat.not_lt_zero
def VZ:=@List.eq_nil_of_length_eq_zero
def V0:=@Array.size_map
def V1:=@Bool.not_eq_true
def V2:=@List.mem_iff_getElem
def V3:=@PyProof.Rows.boot_all
def V4:=@List.mem_of_find?_eq_some
def V5:=@List.flatMap_append
def V6:=@Nat.lt_or_ge
def V7:=@Nat.sub_self
def V8:=@Int.zero_lt_one
def V9:=@PySem.F.type_list_index
def Wa:=@List.drop_append
def Wb:=@Nat.le_of_lt
def Wc:=@List.filterMap_cons
def Wd:=@PyProof.noPylong_small
def We:=@List.of_mem_zip
def Wf:=@List.getElem?_take_of_lt
def Wg:=@List.length_replicate
def Wh:=@List.length_nil
def Wi:=@PySem.F.entry_dict_get
def Wj:=@Option.getD_none
def Wk:=@PySem.Heap.get?_update_other
def Wl:=@Bool.and_false
def Wm:=@Array.size_extract
def Wn:=@List.getElem_mem
def Wo:=@Int.toNat_of_nonneg
def Wp:=@List.take_take
def Wq:=@Nat.min_eq_right
def Wr:=@List.take_nil
def Ws:=@Array.getElem?_eq_getElem
def Wt:=@Nat.div_mul_le_self
def Wu:=@Nat.mul_succ
def Wv:=@Int.pow_add
def Ww:=@Int.add_mul
def Wx:=@Int.mul_comm
def Wz:=@Nat.succ_pos
def WA:=@Array.getD_eq_getD_getElem?
def WB:=@Int.natAbs_of_nonneg
def WC:=@Int.natCast_pow
def WD:=@Int.ofNat_lt
def WE:=@Nat.zero_lt_one
def WF:=@List.not_mem_nil
def WG:=@List.length_pos_iff
def WH:=@Nat.mod_eq_of_lt
def WI:=@Nat.mod_self
def WJ:=@Nat.mul_mod_left
def WK:=@List.drop_eq_getElem_cons
def WL:=@PySem.W.ke_canLayAll0
def WM:=@PySem.Heap.get?_none_of_le
def WN:=@List.getElem?_set_self
def WO:=@List.getElem?_set_ne
def WP:=@Int.fdiv_eq_ediv_of_nonneg
def WQ:=@Option.isSome_iff_exists
def WR:=@List.getElem?_replicate
def WS:=@PyProof.Rows.callWith_builtin1
def WT:=@PySem.F.slot_dict_getitem
def WU:=@PySem.F.args_dict_get_2
def WV:=@PySem.F.plainAttrs_dict
def WW:=@PySem.F.type_dict_get
def WX:=@Array.getElem?_eq_some_iff
def WY:=@List.getElem?_reverse
def WZ:=@Nat.ble_eq_true_of_le
def W0:=@Array.mem_toList_iff
def W1:=@List.length_eraseIdx_of_lt
def W2:=@PySem.MeetsSeq2.wpAny_forIn_array
def W3:=@Array.toList_extract
def W4:=@Option.bind_eq_some_iff
def W5:=@List.getElem?_of_mem
def W6:=@PyProof.Rows.boot_bool
def W7:=@List.filter_eq_nil_iff
def W8:=@Option.isSome_eq_false_iff
def W9:=@Option.isNone_iff_eq_none
def Xa:=@PySem.F.slot_list_extend
def Xb:=@PySem.F.type_list_extend
def Xc:=@List.mem_iff_getElem?
def Xd:=@Nat.le_mul_of_pos_left
def Xe:=@PySem.W.ke_depthAll
def Xf:=@Nat.mul_le_mul_right
def Xg:=@List.sublist_flatten_of_mem
def Xh:=@PySem.F.slot_list_clear
def Xi:=@PySem.F.type_list_clear
def Xj:=@List.forall_mem_cons
namespace L2
open PySem PySem.Spec PyProof.Rows
abbrev aR:=Sum Int Str
def mx:aR->Value->Bool
 | .inl k,v=>Value.isInt k v
 | .inr x,v=>Value.isStrOf x v
def MA(w:World):aR->Int
 | .inl k=>hashInt k
 | .inr x=>hashStr w x
theorem iG:∀ {k:aR} {v:Value},mx k v=true->(∃i t,k=Sum.inl i/\v=Value.int i t)\/(∃x t,k=Sum.inr x/\v=Value.str x t)
 | .inl i,v,h=>by
  obtain⟨t,e⟩:=Value.isInt_shape (k:=i) (v:=v) h;exact .inl ⟨i,t,Z,e⟩
 | .inr x,v,h=>by
  obtain⟨t,e⟩:=Value.isStrOf_shape (x:=x) (v:=v) h;exact .inr ⟨x,t,Z,e⟩
theorem Mz(i:Int)(t:Tok):mx (.inl i) (.int i t)=true:=by simp[mx,Value.isInt]
theorem Mx(x:Str)(t:Tok):mx (.inr x) (.str x t)=true:=by simp[mx,Value.isStrOf]
theorem Mw(a b:Int):decide ((Sum.inl a:aR)=Sum.inl b)=(a == b):=by
 by_cases e:a=b
 ·subst e;simp
 ·have h:¬(Sum.inl a:aR)=Sum.inl b:=λq=>e (Sum.inl.inj q);rw[decide_eq_false h];exact (beq_eq_false_iff_ne.mpr e).symm
theorem Ms(a b:Str):decide ((Sum.inr a:aR)=Sum.inr b)=decide (a=b):=by
 by_cases e:a=b
 ·subst e;simp
 ·have h:¬(Sum.inr a:aR)=Sum.inr b:=λq=>e (Sum.inr.inj q);rw[decide_eq_false h,decide_eq_false e]
theorem Mv(a:Int)(b:Str):decide ((Sum.inl a:aR)=Sum.inr b)=false:=decide_eq_false (λq=>nomatch q)
theorem Mu(a:Str)(b:Int):decide ((Sum.inr a:aR)=Sum.inl b)=false:=decide_eq_false (λq=>nomatch q)
def cK(prog:Program)(w:World):PySem.KeyKind prog w aR where
 is:=mx
 hash:=MA w
 inj:=λv a b ha hb=>by
  rcases iG ha with ⟨i,t,rfl,rfl⟩|⟨x,t,rfl,rfl⟩
  ·rcases iG hb with ⟨j,u,rfl,e⟩|⟨y,u,rfl,e⟩
   ·injection e with e1 _;rw[e1]
   ·exact nomatch e
  ·rcases iG hb with ⟨j,u,rfl,e⟩|⟨y,u,rfl,e⟩
   ·exact nomatch e
   ·injection e with e1 _;rw[e1]
 byValue:=λk v h=>by
  rcases iG h with ⟨i,t,rfl,rfl⟩|⟨x,t,rfl,rfl⟩<;>rfl
 pyHash:=λhv h=>by
  rcases iG hv with ⟨i,t,rfl,rfl⟩|⟨x,t,rfl,rfl⟩
  ·exact wpAny_pyHash_int h
  ·exact wpAny_pyHash_str h
 eqBool:=λhu hv h=>by
  rcases iG hu with ⟨i,t,rfl,rfl⟩|⟨x,t,rfl,rfl⟩
  ·rcases iG hv with ⟨j,u,rfl,rfl⟩|⟨y,u,rfl,rfl⟩
   ·rw[Mw]at h;exact wpAny_eqBool_int h
   ·rw[Mv]at h;exact SeqAt.EqAt.int_str i t y u _ _ _ _ h
  ·rcases iG hv with ⟨j,u,rfl,rfl⟩|⟨y,u,rfl,rfl⟩
   ·rw[Mu]at h;exact SeqAt.EqAt.str_int x t j u _ _ _ _ h
   ·rw[Ms]at h;exact wpAny_eqBool_str h
 «strs»:=λk x t v h=>by
  rcases iG h with ⟨i,u,rfl,e⟩|⟨y,u,rfl,e⟩
  ·exact nomatch e
  ·injection e with e1 _
   subst e1;cases v<;>rfl
theorem tP(prog:Program)(w:World)(i:Int)(t:Tok):(cK prog w).is (.inl i) (.int i t)=true:=Mz i t
theorem BO(prog:Program)(w:World)(x:Str)(t:Tok):(cK prog w).is (.inr x) (.str x t)=true:=Mx x t
inductive V where
 | non|bl (b:Bool)|int (i:Int)|str (x:Str)|byt (b:Array UInt8)|flt (b:UInt64)|ref (a:Addr)|ty (n:String)
 deriving DecidableEq
def aQ:V->Value->Prop
 | .non,u=>u=Value.none
 | .bl b,u=>u=Value.bool b
 | .int i,u=>∃t,u=Value.int i t
 | .str x,u=>∃t,u=Value.str x t
 | .byt b,u=>∃t,u=Value.bytes b t
 | .flt b,u=>∃t,u=Value.float b t
 | .ref a,u=>u=Value.ref a
 | .ty n,u=>u=Value.type n
abbrev aL:List V->List Value->Prop:=Paired aQ
theorem aL.length{xs:List V}{us:List Value}(r:aL xs us):xs.length=us.length:=Paired.length r
theorem aL.get:∀ {xs:List V} {us:List Value} {i:Nat} {x:V},aL xs us->xs[i]? = some x->∃u,us[i]? = some u/\aQ x u
 | _,_,_,_,.nil,e=>by simp at e
 | _,_,0,_,.cons r _,e=>by simp at e;subst e;exact⟨_,Z,r⟩
 | _,_,i+1,x,.cons _ t,e=>by
  obtain⟨u,h1,h2⟩:=aL.get (i:=i) (x:=x) t (by simpa using e);exact⟨u,by simpa using h1,h2⟩
theorem aL.append:∀ {xs ys:List V} {us ws:List Value},aL xs us->aL ys ws->aL (xs++ys) (us++ws)
 | _,_,_,_,.nil,s=>s
 | _,_,_,_,.cons r t,s=>.cons r (aL.append t s)
theorem aL.take:∀ {xs:List V} {us:List Value} (n:Nat),aL xs us->aL (xs.take n) (us.take n)
 | _,_,0,_=>.nil
 | _,_,_+1,.nil=>.nil
 | _,_,n+1,.cons r t=>.cons r (aL.take n t)
theorem aL.drop:∀ {xs:List V} {us:List Value} (n:Nat),aL xs us->aL (xs.drop n) (us.drop n)
 | _,_,0,r=>r
 | _,_,_+1,.nil=>.nil
 | _,_,n+1,.cons _ t=>aL.drop n t
def eh:Option V->Option Value->Prop
 | some v,some u=>aQ v u
 | none,none=>True
 | _,_=>False
def KV{κ:Type}:List (κ × V)->List (κ × Value)->Prop:=Paired λ(p:κ × V) (q:κ × Value)=>p.1=q.1/\aQ p.2 q.2
def kV:aR->V
 | .inl i=>.int i
 | .inr x=>.str x
inductive HO where
 | lst (xs:List V)
 | tup (xs:List V)
 | dK (kvs:List (aR × V))|dT (kvs:List (List aR × V))
 | set (S:Int->Bool) (n:Nat)
 | ins (C dx:Addr) (fs:List (Str × V))
 | own (x:Addr)
 | xd (fs:List (Str × V))
 | met (f x:Addr)
 | rng (lo hi:Int)
 | frz (o:Obj) (u:HO)
 | tbl (ps:Array Value)
 | ext (φ:Heap->Prop)
abbrev Hp:=Addr->Option HO
def upd(H:Hp)(a:Addr)(o:HO):Hp:=λb=>if b=a then some o else H b
theorem bc{H:Hp}{a:Addr}{o:HO}:upd H a o a=some o:=by unfold upd;rw[if_pos rfl]
theorem az{H:Hp}{a b:Addr}{o:HO}(h:b≠a):upd H a o b=H b:=by unfold upd;rw[if_neg h]
theorem La{H:Hp}{a b:Addr}{o u:HO}(h:H a=some o)(h':H b=some u)(d:o≠u):a≠b:=by
 intro e;subst e;rw[h]at h';exact d (UO h')
theorem aN{H:Hp}{a b:Addr}{o:HO}(h:H a=some o)(h':H b=none):a≠b:=by
 intro e;subst e;rw[h]at h';cases h'
section
variable (P:Program)(w:World)
def cg(H:Hp)(h:Heap)(a:Addr):HO->Prop
 | .lst xs=>xs.length<=sizeLine/\∃(its:List Value) (n:Nat),aL xs its/\h.get? a=some { cls:=.type "list",data:=.seq its.toArray n }
 | .tup xs=>xs.length<=sizeLine/\∃its:List Value,aL xs its/\IsTup h a its.toArray
 | .dK kvs=>kvs.length<=sizeLine/\(a == sysModules)=false/\∃vs,KV kvs vs/\h.DictOf (cK P w) a vs
 | .dT kvs=>kvs.length<=sizeLine/\(a == sysModules)=false/\∃xs:List (List aR × Addr × Value),
  Paired (λ(p:List aR × V) (q:List aR × Addr × Value)=>p.1=q.1/\H q.2.1=some (.tup (p.1.map kV))/\aQ p.2 q.2.2) kvs xs /\
  ∃o es ep,h.get? a=some o/\o.ExactDict/\o.data=.dict es ep/\es.toList=xs.map (entryOfKey (tupleKind (cK P w)))/\(xs.map (·.1)).Nodup
 | .set S n=>h.SetOf (intKind P w) a S n
 | .ins C dx fs=>H dx=some (.own a)/\fs.length<=1000/\dx≠a/\h.get? a=some (W.instObj C dx) /\
  ∃mA,h.Ns1 dx mA/\(∀f,eh (fs.lookup f) (mA f))/\PySem.Within mA (fs.map (·.1))
 | .own _=>∃o,h.get? a=some o
 | .xd fs=>∃mA,h.Ns1 a mA/\∀f,eh (fs.lookup f) (mA f)
 | .rng lo hi=>∃t u v,h.get? a=some { cls:=.type "range",data:=.fields #[.int lo t,.int hi u,.int 1 v] }
 | .frz o u=>h.get? a=some o/\cg H h a u
 | .tbl ps=>h.get? a=some { cls:=.none,data:=.fields ps }
 | .met f x=>h.get? a=some (W.methodObj (.ref f) (.ref x))
 | .ext φ=>φ h/\(∃o,h.get? a=some o)/\∀h1 h2:Heap,φ h1->(∀o,h1.get? a=some o->h2.get? a=some o)->φ h2
def bQ(H:Hp)(h:Heap):Prop:=∀a o,H a=some o->cg P w H h a o
end
section
variable {P:Program}{w:World}{H H':Hp}{h h':Heap}{a:Addr}{o:HO}
theorem cg.lt(x:cg P w H h a o):a<h.objs.size:=by
 cases o with
 | lst xs=>obtain⟨_,_,_,_,e⟩:=x;exact Uf e
 | tup xs=>obtain⟨_,_,_,p⟩:=x;exact p.lt
 | dK kvs=>obtain⟨_,_,_,_,o,_,_,e,_⟩:=x;exact Uf e
 | dT kvs=>obtain⟨_,_,_,_,o,_,_,e,_⟩:=x;exact Uf e
 | set S n=>obtain⟨o,_,_,_,e,_⟩:=x;exact Uf e
 | ins C dx fs=>obtain⟨_,_,_,e,_⟩:=x;exact Uf e
 | own y=>obtain⟨_,e⟩:=x;exact Uf e
 | xd fs=>obtain⟨_,⟨_,_,_,e,_⟩,_⟩:=x;exact Uf e
 | rng lo hi=>obtain⟨_,_,_,e⟩:=x;exact Uf e
 | frz ob u=>obtain⟨e,_⟩:=x;exact Uf e
 | tbl ps=>exact Uf (show h.get? a=some _ from x)
 | met f y=>exact Uf (show h.get? a=some _ from x)
 | ext φ=>obtain⟨_,⟨_,e⟩,_⟩:=x;exact Uf e
theorem Paired.mapP{α β:Type}{F G:α->β->Prop}:∀ {l₁:List α} {l₂:List β},Paired F l₁ l₂->(∀a b,F a b->G a b)->Paired G l₁ l₂
 | _,_,.nil,_=>.nil
 | _,_,.cons r t,f=>.cons (f _ _ r) (Paired.mapP t f)
theorem cg.stay(x:cg P w H h a o)(k:∀b u,(b=a\/H b=some (.own a))->h.get? b=some u->h'.get? b=some u)
 (ho:∀b,H b=some (.own a)->H' b=some (.own a)) (ht:∀b xs,H b=some (.tup xs)->H' b=some (.tup xs)):cg P w H' h' a o:=by
 induction o with
 | lst xs=>obtain⟨z,its,n,r,e⟩:=x;exact⟨z,its,n,r,k _ _ (.inl Z) e⟩
 | tup xs=>obtain⟨z,its,r,ob,e,c⟩:=x;exact⟨z,its,r,ob,k _ _ (.inl Z) e,c⟩
 | dK kvs=>obtain⟨z,y,vs,r,ob,es,ep,e,c⟩:=x;exact⟨z,y,vs,r,ob,es,ep,k _ _ (.inl Z) e,c⟩
 | dT kvs =>
  obtain⟨z,y,xs,r,ob,es,ep,e,c⟩:=x;exact⟨z,y,xs,Paired.mapP r λp q z=>⟨z.1,ht _ _ z.2.1,z.2.2⟩,ob,es,ep,k _ _ (.inl Z) e,c⟩
 | set S n=>obtain⟨ob,es,ep,t,e,c⟩:=x;exact⟨ob,es,ep,t,k _ _ (.inl Z) e,c⟩
 | ins C dx fs =>
  obtain⟨d,z,ne,e,mA,⟨od,es,ep,e2,c⟩,r⟩:=x;exact⟨ho _ d,z,ne,k _ _ (.inl Z) e,mA,⟨od,es,ep,k _ _ (.inr d) e2,c⟩,r⟩
 | own y=>obtain⟨ob,e⟩:=x;exact⟨ob,k _ _ (.inl Z) e⟩
 | xd fs=>obtain⟨mA,⟨od,es,ep,e,c⟩,r⟩:=x;exact⟨mA,⟨od,es,ep,k _ _ (.inl Z) e,c⟩,r⟩
 | rng lo hi=>obtain⟨t,u,v,e⟩:=x;exact⟨t,u,v,k _ _ (.inl Z) e⟩
 | frz ob u ih=>obtain⟨e,q⟩:=x;exact⟨k _ _ (.inl Z) e,ih q⟩
 | tbl ps =>
  have e:h.get? a=some { cls:=.none,data:=.fields ps }:=x;show h'.get? a=some { cls:=.none,data:=.fields ps };exact k a _ (.inl Z) e
 | met f y =>
  have e:h.get? a=some (W.methodObj (.ref f) (.ref y)):=x;show h'.get? a=some (W.methodObj (.ref f) (.ref y));exact k a _ (.inl Z) e
 | ext φ=>obtain⟨p,⟨o,e⟩,st⟩:=x;exact⟨st _ _ p λo q=>k _ _ (.inl Z) q,⟨o,k _ _ (.inl Z) e⟩,st⟩
theorem bQ.lt(x:bQ P w H h)(e:H a=some o):a<h.objs.size:=(x a o e).lt
theorem bQ.fresh(x:bQ P w H h)(e:h.objs.size<=a):H a=none:=by
 cases q:H a with
 | none=>rfl
 | some u=>exact absurd (Uh (x.lt q) e) (UW _)
theorem bQ.kept(x:bQ P w H h)(k:∀b u,h.get? b=some u->h'.get? b=some u):bQ P w H h':=λa o e =>
 (x a o e).stay (λb u _ q=>k b u q) (λ_ q=>q) λ_ _ q=>q
theorem bQ.laid(x:bQ P w H h)(k:∀b u,h.get? b=some u->h'.get? b=some u)(hp:h.objs.size<=a)(new:cg P w (upd H a o) h' a o):bQ P w (upd H a o) h':=λb u e=>by
 have hn:=x.fresh hp;by_cases hb:b=a
 ·subst hb;rw[bc]at e;cases e;exact new
 ·rw[az hb]at e;exact (x b u e).stay (λc v _ q=>k c v q) (λc q=>by rw[az (aN q hn)];exact q) λc xs q=>by rw[az (aN q hn)];exact q
end
def Rd(H:Hp)(a:Addr)(u:HO):Prop:=H a=some u\/∃o,H a=some (.frz o u)
theorem Rd.ok{P:Program}{w:World}{H:Hp}{h:Heap}{a:Addr}{u:HO}(r:Rd H a u)(x:bQ P w H h):cg P w H h a u:=by
 rcases r with r|⟨o,r⟩
 ·exact x a u r
 ·obtain⟨_,q⟩:=x a _ r;exact q
def ou:Option HO->Prop
 | some (.lst _)=>True
 | some (.dK _)=>True
 | some (.dT _)=>True
 | some (.set _ _)=>True
 | some (.ins _ _ _)=>True
 | some (.ext _)=>True
 | _=>False
section
variable {P:Program}{w:World}{H:Hp}{h h':Heap}{x e:Addr}{o':HO}
theorem bQ.write(ok:bQ P w H h)(mu:ou (H x))(he:e=x\/H e=some (.own x))(k:∀b u,b≠e->h.get? b=some u->h'.get? b=some u)(heo:∃u,h'.get? e=some u)
 (new:cg P w (upd H x o') h' x o'):bQ P w (upd H x o') h':=λb u q=>by
 have nown:∀c y,H c=some (.own y)->c≠x:=λc y r z=>by subst z;rw[r]at mu;exact mu
 have ntup:∀c xs,H c=some (.tup xs)->c≠x:=λc xs r z=>by subst z;rw[r]at mu;exact mu
 by_cases hb:b=x
 ·subst hb;rw[bc]at q;cases q;exact new
 ·rw[az hb]at q;by_cases hbe:b=e
  ·have q':H b=some (.own x):=by
    rcases he with z|z
    ·exact absurd (hbe.trans z) hb
    ·rw[hbe];exact z
   rw[q]at q';cases q';obtain⟨v,hv⟩:=heo;exact⟨v,by rw[hbe];exact hv⟩
  ·refine (ok b u q).stay (λc v hc r=>k c v ?_ r) (λc r=>by rw[az (nown c b r)];exact r) λc xs r=>by rw[az (ntup c xs r)];exact r
   rcases hc with rfl|hc
   ·exact hbe
   ·rintro rfl;rcases he with z|z
    ·exact nown c b hc z
    ·rw[hc]at z;cases z;exact hb Z
end
structure Un (fs ex:List Addr) (H H':Hp) (h h':Heap):Prop where
 keep:∀b o,h.get? b=some o->H b=none->b∉fs->b∉ex->h'.get? b=some o
 slot:∀b o,h.get? b=some o->H b=none->b∈fs->b∉ex->∃sl,h'.get? b=some { o with slots:=sl }
 free:∀b o,h.get? b=some o->H b=none->b∉ex->H' b=none
 there:∀b o,h.get? b=some o->b∉ex->∃o',h'.get? b=some o'
 tups:∀b xs,H b=some (.tup xs)->H' b=some (.tup xs)
 frzs:∀b o u,H b=some (.frz o u)->H' b=some (.frz o u)
 tbls:∀b ps,H b=some (.tbl ps)->∃more,H' b=some (.tbl (ps++more))
section
variable {fs fs' ex ex':List Addr}{H H1 H2:Hp}{h h1 h2 h':Heap}{a x e:Addr}{o:HO}
theorem Un.any(u:Un fs ex H H1 h h1){b:Addr}{ob:Obj}(q:h.get? b=some ob)(n:H b=none)(hx:b∉ex):∃sl,h1.get? b=some { ob with slots:=sl }:=by
 by_cases hb:b∈fs
 ·exact u.slot b ob q n hb hx
 ·exact⟨ob.slots,u.keep b ob q n hb hx⟩
theorem Un.kept(k:∀b u,h.get? b=some u->h'.get? b=some u):Un fs ex H H h h' :=
 ⟨λb ob q _ _ _=>k b ob q,λb ob q _ _ _=>⟨ob.slots,k b ob q⟩,λ_ _ _ n _=>n,λb ob q _=>⟨ob,k b ob q⟩,λ_ _ q=>q,λ_ _ _ q=>q,λ_ ps q=>⟨#[],by rw[q];simp⟩⟩
theorem Un.refl:Un fs ex H H h h:=Un.kept λ_ _ q=>q
theorem Un.laid(k:∀b u,h.get? b=some u->h'.get? b=some u)(hp:h.objs.size<=a)(hn:H a=none):Un fs ex H (upd H a o) h h' where
 keep:=λb u q _ _ _=>k b u q
 slot:=λb u q _ _ _=>⟨u.slots,k b u q⟩
 free:=λb u q n _=>by rw[az (Uo (Uh (Uf q) hp))];exact n
 there:=λb u q _=>⟨u,k b u q⟩
 tups:=λb xs q=>by rw[az (aN q hn)];exact q
 frzs:=λb u xs q=>by rw[az (aN q hn)];exact q
 tbls:=λb ps q=>⟨#[],by rw[az (aN q hn),q];simp⟩
theorem Un.write(mu:ou (H x))(he:e=x\/H e=some (.own x))(k:∀b u,b≠e->h.get? b=some u->h'.get? b=some u)(heo:∃u,h'.get? e=some u):Un fs ex H (upd H x o) h h':=by
 have hx:∀b,H b=none->b≠x:=λb n z=>by subst z;rw[n]at mu;exact mu
 have hb:∀b,H b=none->b≠e:=λb n z=>by
  subst z;rcases he with r|r
  ·exact hx b n r
  ·rw[n]at r;cases r
 have hm:∀b u,H b=some u->¬ou (some u)->b≠x:=λb u q nm z=>by subst z;rw[q]at mu;exact nm mu
 refine⟨λb u q n _ _=>k b u (hb b n) q,λb u q n _ _=>⟨u.slots,k b u (hb b n) q⟩,λb u q n _=>by rw[az (hx b n)];exact n,λb u q _=>?_,
  λb xs q=>by rw[az (hm b _ q λz=>z)];exact q,λb u xs q=>by rw[az (hm b _ q λz=>z)];exact q,λb ps q=>⟨#[],by rw[az (hm b _ q λz=>z),q];simp⟩⟩
 by_cases hbe:b=e
 ·subst hbe;exact heo
 ·exact⟨u,k b u hbe q⟩
end
def oI(h:Heap)(H:Hp):List Addr:=(List.range h.objs.size).filter λa=>(H a).isSome
def iJ(h:Heap)(H:Hp):Heap:=W.hideAll h (oI h H)
theorem M0(h:Heap)(H:Hp):(iJ h H).objs.size=h.objs.size:=W.hideAll_size _ _
theorem M3{h:Heap}{H:Hp}{b:Addr}{o:Obj}(e:h.get? b=some o)(n:H b=none):(iJ h H).get? b=some o :=
 W.hideAll_get _ e λhm=>by
  have q:(H b).isSome=true:=(List.mem_filter.mp hm).2;rw[n]at q;simp at q
theorem K5{h:Heap}{H:Hp}{b:Addr}{o:Obj}(e:(iJ h H).get? b=some o):h.get? b=some o/\H b=none:=by
 have e':h.get? b=some o:=W.of_hideAll (oI h H) e;refine⟨e',?_⟩;cases q:H b with
 | none=>rfl
 | some x =>
  have hm:b∈oI h H:=List.mem_filter.mpr ⟨U3.mpr (Uf e'),by simp[q]⟩;have z:(iJ h H).get? b=none:=W.hideAll_none (oI h H) hm;rw[z]at e;cases e
def Si(g h:Heap)(L:Addr):List (Addr × Obj):=(List.range h.objs.size).filterMap λa=>if a=L\/(g.get? a).isSome=true then none else (h.get? a).map λo=>(a,o)
def bH(g h:Heap)(L d:Addr):List (Addr × Obj):=(Si g h L).filter λp=>decide (p.1≠d)
structure Mod (K:W.Frag) (mg:Str->Option Value) (base:Heap):Prop where
 kin:K.In base
 glob:base.Ns mainGlobals mg
 blt:∃mb,base.Ns builtinsNs mb/\∀x:Str,x ≠ "__name__"->mb x=bootBuiltins x
 nolimit:base.NoLimit
structure Cx where
 prog:Program
 w:World
 K:W.Frag
 mg:Str->Option Value
 base:Heap
 A:Around
 N:List Str
 s₀:Shared
 H₀:Hp
 env:Env
 outer:List Env
 stack:List Env
 ex:List Addr
 fn:Str->Bool
 calm:Bool
 pn:List (Addr × Obj)
 xe:Value->Shared->Prop
def d9(l:List Env):List Addr:=l.filterMap (·.frame)
abbrev Cx.fs(X:Cx):List Addr:=d9 X.outer
def oj(sc:Scope)(x:Str):Prop:=sc.names.lookup x=some .local\/sc.names.lookup x=some .cell\/sc.names.lookup x=some .free
def jf(sc:Scope)(x:Str):Prop:=sc.names.lookup x=some .local\/sc.names.lookup x=some .cell
def Sq(env:Env)(h:Heap)(m:Str->Option Value)(x:Str)(u:Value):Prop :=
 (env.kindOf x=some .local/\m x=some u)\/((env.kindOf x=some .cell\/env.kindOf x=some .free)/\∃c,env.cells.lookup x=some c/\h.IsCell c (some u))
structure Cx.Ok (X:Cx):Prop where
 mod:Mod X.K X.mg X.base
 kind:X.env.scope.kind=.function
 glob:X.env.globals=mainGlobals
 blt:X.env.builtins=builtinsNs
 above:X.s₀.heap.objs.size<=X.env.locals
 inj:∀x y c,X.env.cells.lookup x=some c->X.env.cells.lookup y=some c->x=y
 has:∀x,(X.env.kindOf x=some .cell\/X.env.kindOf x=some .free)->∃c,X.env.cells.lookup x=some c
 cab:∀x c,X.fn x=true->X.env.cells.lookup x=some c->X.s₀.heap.objs.size<=c
 hd:X.calm=true->X.A.handled=none
 frames:X.A.frames=some X.stack
 stk:X.stack=X.outer\/(X.stack=X.env::X.outer/\X.env.frame=some X.env.locals)
 exf:∀b∈X.ex,b≠X.env.locals/\∀x c,X.env.cells.lookup x=some c->c≠b
 bs:∀b o,X.base.get? b=some o->X.s₀.heap.get? b=some o/\X.H₀ b=none
 bsz:X.base.objs.size<=X.s₀.heap.objs.size
 noex:∀b o,X.base.get? b=some o->b∉X.ex
 exfs:∀b∈X.ex,b∉X.fs
 funs:X.s₀.heap.FunFrames X.base X.outer
 frf:∀b∈X.fs,X.H₀ b=none
structure ai (X:Cx) (pins:List (Addr × Obj)) (σ:List (Option V)) (H:Hp) (s:Shared):Prop where
 ok:X.Ok
 os:s.os=X.s₀.os
 bare:AllBare s.gens
 base:Un X.fs X.ex X.H₀ H X.s₀.heap s.heap
 loc:∃m,s.heap.Ns X.env.locals m/\∀(i:Nat) (x:Str) (v:V),X.N[i]? = some x->σ[i]? = some (some v)->oj X.env.scope x->∃u,aQ v u/\Sq X.env s.heap m x u
 cell:∀x c,X.env.cells.lookup x=some c->∃v,s.heap.IsCell c v
 free:H X.env.locals=none
 freeC:∀x c,X.env.cells.lookup x=some c->H c=none
 pin:∀p∈X.pn++pins,s.heap.get? p.1=some p.2/\H p.1=none/\p.1≠X.env.locals/\p.1∉X.fs/\∀v,p.2.data ≠ .cell v
 hok:bQ X.prog X.w H s.heap
 len:σ.length=X.N.length
section
variable {X:Cx}{pins:List (Addr × Obj)}{σ:List (Option V)}{H H':Hp}{s:Shared}{h':Heap}
theorem Cx.Ok.nofr(ok:X.Ok){b:Addr}{o:Obj}(e:X.base.get? b=some o):b∉X.fs:=λhb=>by
 have:=(ok.funs.mem hb).1;rw[e]at this;cases this
theorem ai.bs(I:ai X pins σ H s):∀b o,X.base.get? b=some o->s.heap.get? b=some o/\H b=none:=λb o e =>
 ⟨I.base.keep b o (I.ok.bs b o e).1 (I.ok.bs b o e).2 (I.ok.nofr e) (I.ok.noex b o e),I.base.free b o (I.ok.bs b o e).1 (I.ok.bs b o e).2 (I.ok.noex b o e)⟩
theorem ai.bk(I:ai X pins σ H s):∀b o,X.base.get? b=some o->s.heap.get? b=some o:=λb o e=>(I.bs b o e).1
theorem ai.mod(I:ai X pins σ H s):Mod X.K X.mg X.base:=I.ok.mod
theorem ai.kIn(I:ai X pins σ H s):X.K.In s.heap:=I.ok.mod.kin.keeps I.bk
theorem ai.lt(I:ai X pins σ H s):X.env.locals<s.heap.objs.size:=let ⟨_,hn,_⟩:=I.loc;hn.lt
theorem ai.sz(I:ai X pins σ H s):X.s₀.heap.objs.size<=s.heap.objs.size:=UE I.ok.above (Wb I.lt)
theorem ai.nofs(I:ai X pins σ H s){a:Addr}(h:s.heap.objs.size<=a):a∉X.fs:=λhb=>by
 obtain⟨_,o,ho,_⟩:=I.ok.funs.mem hb;exact absurd (Uh (Uf ho) (UE I.sz h)) (UW _)
theorem ai.cne(I:ai X pins σ H s):∀x c,X.env.cells.lookup x=some c->c≠X.env.locals:=λx c e z=>by
 obtain⟨v,o,ho,hd⟩:=I.cell x c e;obtain⟨m,⟨o',es,ep,ho',hd',_⟩,_⟩:=I.loc;rw[z,ho']at ho;cases ho;rw[hd']at hd;cases hd
theorem ai.funs(I:ai X pins σ H s):s.heap.FunFrames X.base X.outer:=by
 have all:∀(l:List Env),(∀b∈d9 l,b∈X.fs)->X.s₀.heap.FunFrames X.base l->s.heap.FunFrames X.base l:=by
  intro l
  induction l with
  | nil=>intro _ _;trivial
  | cons env r ih =>
   intro hs hl;obtain⟨hk,⟨L,o,hf,hn,ho,hd⟩,hr⟩:=hl;have hL:L∈X.fs:=hs L (by unfold d9;rw[Wc,hf];exact Uv);obtain⟨sl,e⟩:=I.base.slot L o ho (I.ok.frf L hL) hL λz=>I.ok.exfs L z hL;exact⟨hk,⟨L,_,hf,hn,e,hd⟩,ih (λb hb=>hs b (by unfold d9;rw[Wc,hf];exact Uw _ hb)) hr⟩
 exact all X.outer (λ_ hb=>hb) I.ok.funs
theorem ai.stack(I:ai X pins σ H s):s.heap.FunFrames X.base X.stack:=by
 rcases I.ok.stk with e|⟨e,hf⟩
 ·rw[e];exact I.funs
 ·rw[e];obtain⟨m,hn,_⟩:=I.loc;refine .cons (by rw[I.ok.kind];decide) hf hn ?_ I.funs;exact WM (UE I.ok.bsz I.ok.above)
theorem ai.stkSub(I:ai X pins σ H s):∀b∈d9 X.stack,b∈X.env.locals::X.fs:=λb hb=>by
 rcases I.ok.stk with e|⟨e,hf⟩
 ·rw[e]at hb;exact Uw _ hb
 ·rw[e]at hb;unfold d9 at hb;rw[Wc,hf]at hb;exact hb
theorem ai.stkFree(I:ai X pins σ H s):∀b∈d9 X.stack,H b=none:=λb hb=>by
 rcases Uy.mp (I.stkSub b hb) with e|hb
 ·rw[e];exact I.free
 ·obtain⟨_,o,ho,_⟩:=I.ok.funs.mem hb;exact I.base.free b o ho (I.ok.frf b hb) λz=>I.ok.exfs b z hb
theorem ai.step{g':Array GenState}{t':Nat}{d':Drawn}{ch:List Addr}(I:ai X pins σ H s)
 (hch:∀b∈ch,(b∈X.ex\/X.s₀.heap.objs.size<=b)/\b≠X.env.locals/\(∀x c,X.env.cells.lookup x=some c->c≠b)/\∀p∈X.pn++pins,p.1≠b)
 (keep:∀b o,b≠X.env.locals->b∉X.fs->b∉ch->s.heap.get? b=some o->H b=none->h'.get? b=some o)
 (slot:∀b o,b≠X.env.locals->b∈X.fs->b∉ch->s.heap.get? b=some o->H b=none->∃sl,h'.get? b=some { o with slots:=sl }) (free:∀b o,b∉ch->s.heap.get? b=some o->H b=none->H' b=none)
 (there:∀b o,b∉ch->s.heap.get? b=some o->∃o',h'.get? b=some o')
 (tups:∀b xs,H b=some (.tup xs)->H' b=some (.tup xs)) (frzs:∀b o u,H b=some (.frz o u)->H' b=some (.frz o u)) (tbls:∀b ps,H b=some (.tbl ps)->∃more,H' b=some (.tbl (ps++more)))
 (ns:∀m,s.heap.Ns X.env.locals m->h'.Ns X.env.locals m) (hok:bQ X.prog X.w H' h') (hg:AllBare g') :
 ai X pins σ H' { s with heap:=h',gens:=g',drawn:=d',toks:=t' }:=by
 have neL:∀b o,X.s₀.heap.get? b=some o->b≠X.env.locals:=λb o e=>Uo (Uh (Uf e) I.ok.above);have neC:∀b o,X.s₀.heap.get? b=some o->b∉X.ex->b∉ch:=λb o e hx hb=>by
  rcases (hch b hb).1 with z|z
  ·exact hx z
  ·exact absurd (Uh (Uf e) z) (UW _)
 have cellK:∀x c,X.env.cells.lookup x=some c->∀v,s.heap.IsCell c v->h'.IsCell c v:=λx c e v ⟨o,ho,hd⟩=>by
  have nch:c∉ch:=λz=>(hch c z).2.2.1 x c e rfl;by_cases hc:c∈X.fs
  ·obtain⟨sl,q⟩:=slot c o (I.cne x c e) hc nch ho (I.freeC x c e);exact⟨_,q,hd⟩
  ·exact⟨o,keep c o (I.cne x c e) hc nch ho (I.freeC x c e),hd⟩
 refine⟨I.ok,I.os,hg,⟨λb o e n hb hx=>?_,λb o e n hb hx=>?_,λb o e n hx=>?_,λb o e hx=>?_,λb xs e=>tups b xs (I.base.tups b xs e),λb o xs e=>frzs b o xs (I.base.frzs b o xs e),λb ps e=>?_⟩,?_,λx c e=>?_,?_,λx c e=>?_,λp hp=>?_,hok,I.len⟩
 ·exact keep b o (neL b o e) hb (neC b o e hx) (I.base.keep b o e n hb hx) (I.base.free b o e n hx)
 ·obtain⟨sl,e1⟩:=I.base.slot b o e n hb hx;obtain⟨sl',e2⟩:=slot b _ (neL b o e) hb (neC b o e hx) e1 (I.base.free b o e n hx);exact⟨sl',e2⟩
 ·obtain⟨o',e1⟩:=I.base.there b o e hx;exact free b o' (neC b o e hx) e1 (I.base.free b o e n hx)
 ·obtain⟨o',e1⟩:=I.base.there b o e hx;exact there b o' (neC b o e hx) e1
 ·obtain⟨m1,e1⟩:=I.base.tbls b ps e;obtain⟨m2,e2⟩:=tbls b _ e1;exact⟨m1++m2,by rw[e2,Array.append_assoc]⟩
 ·obtain⟨m,hn,hl⟩:=I.loc;refine⟨m,ns m hn,λi x v e1 e2 e3=>?_⟩;obtain⟨u,r,l⟩:=hl i x v e1 e2 e3;refine⟨u,r,?_⟩;rcases l with l|⟨k,c,e,z⟩
  ·exact .inl l
  ·exact .inr ⟨k,c,e,cellK x c e _ z⟩
 ·obtain⟨v,z⟩:=I.cell x c e;exact⟨v,cellK x c e v z⟩
 ·obtain⟨m,⟨o,_,_,ho,_⟩,_⟩:=I.loc;exact free _ o (λz=>(hch _ z).2.1 Z) ho I.free
 ·obtain⟨v,o,ho,hd⟩:=I.cell x c e;exact free c o (λz=>(hch c z).2.2.1 x c e Z) ho (I.freeC x c e)
 ·obtain⟨e,n,ne,nf,d⟩:=I.pin p hp;have nch:p.1∉ch:=λz=>(hch p.1 z).2.2.2 p hp rfl;exact⟨keep p.1 p.2 ne nf nch e n,free p.1 p.2 nch e n,ne,nf,d⟩
theorem ai.un{t':Nat}(I:ai X pins σ H s)(u:Un X.fs [] H H' s.heap h')(hok:bQ X.prog X.w H' h'):ai X pins σ H' { s with heap:=h',toks:=t' }:=by
 obtain⟨m,⟨o,es,ep,ho,r⟩,_⟩:=id I.loc;obtain⟨sl,hL⟩:=u.any ho I.free (by simp);exact I.step (g':=s.gens) (d':=s.drawn) (ch:=[]) (λ_ z=>nomatch z) (λb o _ hb _ e n=>u.keep b o e n hb (by simp)) (λb o _ hb _ e n=>u.slot b o e n hb (by simp)) (λb o _ e n=>u.free b o e n (by simp)) (λb o _ e=>u.there b o e (by simp)) u.tups u.frzs u.tbls (λm' hm=>by
  obtain⟨o',es',ep',ho',r'⟩:=hm;rw[ho]at ho';cases ho';exact⟨_,es',ep',hL,r'⟩) hok I.bare
theorem ai.call{g':Array GenState}{t':Nat}{d':Drawn}{ch:List Addr}(I:ai X pins σ H s)(u:Un (d9 X.stack) ch H H' s.heap h')(hok:bQ X.prog X.w H' h')(hg:AllBare g')
 (hch:∀b∈ch,(b∈X.ex\/X.s₀.heap.objs.size<=b)/\b≠X.env.locals/\(∀x c,X.env.cells.lookup x=some c->c≠b)/\∀p∈X.pn++pins,p.1≠b) :
 ai X pins σ H' { s with heap:=h',gens:=g',drawn:=d',toks:=t' }:=by
 obtain⟨m,⟨o,es,ep,ho,r⟩,_⟩:=id I.loc;obtain⟨sl,hL⟩:=u.any ho I.free λz=>(hch _ z).2.1 rfl;exact I.step (ch:=ch) hch (λb o hL hb hc e n=>u.keep b o e n (λz=>(Uy.mp (I.stkSub b z)).elim hL hb) hc) (λb o _ _ hc e n=>u.any e n hc) (λb o hc e n=>u.free b o e n hc) (λb o hc e=>u.there b o e hc) u.tups u.frzs u.tbls (λm' hm=>by
  obtain⟨o',es',ep',ho',r'⟩:=hm;rw[ho]at ho';cases ho';exact⟨_,es',ep',hL,r'⟩) hok hg
theorem ai.turned{t':Nat}{it:Addr}(I:ai X pins σ H s)(k:∀b o,b≠it->s.heap.get? b=some o->h'.get? b=some o)(hn:H it=none)(hL:it≠X.env.locals)
 (h1:it∈X.ex\/X.s₀.heap.objs.size<=it) (h2:∀x c,X.env.cells.lookup x=some c->c≠it) (h3:∀p∈X.pn++pins,p.1≠it):ai X pins σ H { s with heap:=h',toks:=t' }:=by
 have nit:∀b u,H b=some u->b≠it:=λb u e z=>by rw[z,hn]at e;cases e
 refine I.step (g':=s.gens) (d':=s.drawn) (ch:=[it]) (λb hb=>?_) (λb o _ _ hc e _=>k b o (λz=>hc (by simp[z])) e) (λb o _ _ hc e _=>⟨o.slots,k b o (λz=>hc (by simp[z])) e⟩) (λ_ _ _ _ n=>n)
  (λb o hc e=>⟨o,k b o (λz=>hc (by simp[z])) e⟩) (λ_ _ e=>e) (λ_ _ _ e=>e) (λb ps e=>⟨#[],by rw[e];simp⟩) (λm hm=>?_) (λb u e=>?_) I.bare
 ·have e:b=it:=by simpa using hb
  subst e;exact⟨h1,hL,h2,h3⟩
 ·obtain⟨o,es,ep,ho,r⟩:=hm;exact⟨o,es,ep,k _ o (Ne.symm hL) ho,r⟩
 ·refine (I.hok b u e).stay (λc v hc q=>k c v ?_ q) (λ_ q=>q) λ_ _ q=>q;rcases hc with z|z
  ·rw[z];exact nit b u e
  ·exact nit c _ z
theorem ai.tok(I:ai X pins σ H s)(t:Nat):ai X pins σ H { s with toks:=t }:=I.un (h':=s.heap) (t':=t) Un.refl I.hok
theorem ai.kept{t':Nat}(I:ai X pins σ H s)(k:∀b u,s.heap.get? b=some u->h'.get? b=some u):ai X pins σ H { s with heap:=h',toks:=t' }:=I.un (Un.kept k) (I.hok.kept k)
theorem ai.laid{a:Addr}{o:HO}{t':Nat}(I:ai X pins σ H s)(k:∀b u,s.heap.get? b=some u->h'.get? b=some u)(hp:s.heap.objs.size<=a)(new:cg X.prog X.w (upd H a o) h' a o) :
 ai X pins σ (upd H a o) { s with heap:=h',toks:=t' }:=I.un (Un.laid k hp (I.hok.fresh hp)) (I.hok.laid k hp new)
theorem ai.write{x e:Addr}{o:HO}{t':Nat}(I:ai X pins σ H s)(mu:ou (H x))(he:e=x\/H e=some (.own x))(k:∀b u,b≠e->s.heap.get? b=some u->h'.get? b=some u)(heo:∃u,h'.get? e=some u)
 (new:cg X.prog X.w (upd H x o) h' x o):ai X pins σ (upd H x o) { s with heap:=h',toks:=t' }:=I.un (Un.write mu he k heo) (I.hok.write mu he k heo new)
theorem ai.pins_of{pins':List (Addr × Obj)}(I:ai X pins σ H s)(h:∀p∈pins',s.heap.get? p.1=some p.2/\H p.1=none/\p.1≠X.env.locals/\p.1∉X.fs/\∀v,p.2.data ≠ .cell v):ai X pins' σ H s :=
 ⟨I.ok,I.os,I.bare,I.base,I.loc,I.cell,I.free,I.freeC,λp hp=>(Us.mp hp).elim (λz=>I.pin p (UQ _ z)) (h p),I.hok,I.len⟩
theorem BG{N:List Str}(hN:N.Nodup){i j:Nat}{x:Str}(a:N[i]? = some x)(b:N[j]? = some x):i=j:=by
 obtain⟨h1,e1⟩:=Uk.mp a;obtain⟨h2,e2⟩:=Uk.mp b;exact (List.getElem_inj hN).mp (e1.trans e2.symm)
theorem Ac{M:Model}{A:Around}{E:Value->Shared->Prop}{i:Nat}{x:Str}{v:V}{u:Value}{Q:Unit->Shared->Prop}(I:ai X pins σ H s)(hN:X.N.Nodup)(hi:X.N[i]? = some x)(hx:jf X.env.scope x)(r:aQ v u)
 (h:∀s',ai X pins (σ.set i (some v)) H s'->(∃a,Heap.SameBut a s.heap s'.heap/\(a=X.env.locals\/X.env.cells.lookup x=some a))->Q () s') (hf:X.fn x=true\/X.env.scope.names.lookup x=some .local:=by first|exact .inl rfl|exact .inr rfl|assumption):wpAny M A (storeName X.env x u) Q E s:=by
 obtain⟨m,hn,hl⟩:=id I.loc;have hcls:(X.env.scope.kind == .class || (X.env.scope.kind == .module && X.env.locals != X.env.globals))=false:=by rw[I.ok.kind];rfl
 have hiσ:i<σ.length:=by rw[I.len];exact (Uk.mp hi).1
 have cne:=I.cne;have tracked:∀ {a:Addr} {h':Heap},(∃o,s.heap.get? a=some o/\H a=none)->Heap.SameBut a s.heap h'->bQ X.prog X.w H h':=λ{a h'} ha hs b ob e=>by
  obtain⟨_,_,hfree⟩:=ha;refine (I.hok b ob e).stay (λc w' hc q=>(hs.2 c ?_).trans q) (λ_ q=>q) λ_ _ q=>q;rintro rfl;rcases hc with rfl|hc
  ·rw[hfree]at e;cases e
  ·rw[hfree]at hc;cases hc
 rcases hx with hk|hk
 ·refine wpAny_storeName_local hk hn (λh' hn' hs=>?_) hcls;obtain⟨oL,_,_,hoL,_⟩:=id hn;refine h _ ⟨I.ok,I.os,I.bare,⟨λb o e n hb hx=>?_,λb o e n hb hx=>?_,I.base.free,λb o e hx=>?_,I.base.tups,I.base.frzs,I.base.tbls⟩,⟨_,hn',λj y v' e1 e2 e3=>?_⟩,λy c e=>?_,I.free,I.freeC,λp hp=>?_,tracked ⟨oL,hoL,I.free⟩ hs,by simpa using I.len⟩ ⟨_,hs,.inl rfl⟩
  ·exact (hs.2 b (Uo (Uh (Uf e) I.ok.above))).trans (I.base.keep b o e n hb hx)
  ·obtain⟨sl,e1⟩:=I.base.slot b o e n hb hx;exact⟨sl,(hs.2 b (Uo (Uh (Uf e) I.ok.above))).trans e1⟩
  ·obtain⟨o',e1⟩:=I.base.there b o e hx;exact⟨o',(hs.2 b (Uo (Uh (Uf e) I.ok.above))).trans e1⟩
  ·by_cases hj:j=i
   ·subst hj;rw[hi]at e1;cases e1;rw[WN hiσ]at e2;cases e2;exact⟨u,r,.inl ⟨hk,by simp⟩⟩
   ·rw[WO (Ne.symm hj)]at e2;obtain⟨u',r',q⟩:=hl j y v' e1 e2 e3;refine⟨u',r',?_⟩;rcases q with ⟨k,e⟩|⟨k,c,e,z⟩
    ·refine .inl ⟨k,?_⟩;have:y≠x:=λe=>hj (BG hN e1 (e ▸ hi));simp[this,e]
    ·exact .inr ⟨k,c,e,z.sameBut hs (cne y c e)⟩
  ·obtain⟨w',z⟩:=I.cell y c e;exact⟨w',z.sameBut hs (cne y c e)⟩
  ·obtain⟨e,n,ne,nf,d⟩:=I.pin p hp;exact⟨(hs.2 p.1 ne).trans e,n,ne,nf,d⟩
 ·have hfn:X.fn x=true:=by
   rcases hf with z|z
   ·exact z
   ·rw[z]at hk;cases hk
  obtain⟨c,hc⟩:=I.ok.has x (.inl hk);obtain⟨w',z⟩:=I.cell x c hc;refine wpAny_storeName_cell I.ok.kind hk hc z (λh' hc' hs=>?_);obtain⟨oc,hoc,hocd⟩:=id z;refine h { s with heap:=h' } ⟨I.ok,I.os,I.bare,⟨λb o e n hb hx=>?_,λb o e n hb hx=>?_,I.base.free,λb o e hx=>?_,I.base.tups,I.base.frzs,I.base.tbls⟩,⟨m,hn.sameBut hs (Ne.symm (cne x c hc)),λj y v' e1 e2 e3=>?_⟩,λy c' e=>?_,I.free,I.freeC,λp hp=>?_,tracked ⟨oc,hoc,I.freeC x c hc⟩ hs,by simpa using I.len⟩ ⟨c,hs,.inr hc⟩
  ·exact (hs.2 b (Uo (Uh (Uf e) (I.ok.cab x c hfn hc)))).trans (I.base.keep b o e n hb hx)
  ·obtain⟨sl,e1⟩:=I.base.slot b o e n hb hx;exact⟨sl,(hs.2 b (Uo (Uh (Uf e) (I.ok.cab x c hfn hc)))).trans e1⟩
  ·obtain⟨o',e1⟩:=I.base.there b o e hx;exact⟨o',(hs.2 b (Uo (Uh (Uf e) (I.ok.cab x c hfn hc)))).trans e1⟩
  ·by_cases hj:j=i
   ·subst hj;rw[hi]at e1;cases e1;rw[WN hiσ]at e2;cases e2;exact⟨u,r,.inr ⟨.inl hk,c,hc,hc'⟩⟩
   ·rw[WO (Ne.symm hj)]at e2;obtain⟨u',r',q⟩:=hl j y v' e1 e2 e3;refine⟨u',r',?_⟩;rcases q with q|⟨k,c',e,z'⟩
    ·exact .inl q
    ·refine .inr ⟨k,c',e,z'.sameBut hs ?_⟩;rintro rfl;exact hj (BG hN e1 (I.ok.inj _ _ _ e hc ▸ hi))
  ·by_cases hcc:c'=c
   ·subst hcc;exact⟨_,hc'⟩
   ·obtain⟨w2,z2⟩:=I.cell y c' e;exact⟨w2,z2.sameBut hs hcc⟩
  ·obtain⟨e,n,ne,nf,d⟩:=I.pin p hp;refine⟨(hs.2 p.1 ?_).trans e,n,ne,nf,d⟩;intro q;rw[q,hoc]at e;have q':oc=p.2:=UO e;exact d w' (by rw[<- q'];exact hocd)
theorem oM{M:Model}{A:Around}{E:Value->Shared->Prop}{i:Nat}{x:Str}{v:V}{u:Value}{Q:Unit->Shared->Prop}(I:ai X pins σ H s)(hN:X.N.Nodup)(hi:X.N[i]? = some x)(hx:jf X.env.scope x)(r:aQ v u)
 (h:∀s',ai X pins (σ.set i (some v)) H s'->Q () s') (hf:X.fn x=true\/X.env.scope.names.lookup x=some .local:=by first|exact .inl rfl|exact .inr rfl|assumption):wpAny M A (storeName X.env x u) Q E s :=
 Ac I hN hi hx r (λs' I' _=>h s' I') hf
theorem ai.call'{s':Shared}{ch:List Addr}(I:ai X pins σ H s)(ho:s'.os=s.os)(u:Un (d9 X.stack) ch H H' s.heap s'.heap)(hok:bQ X.prog X.w H' s'.heap)(hg:AllBare s'.gens)
 (hch:∀b∈ch,(b∈X.ex\/X.s₀.heap.objs.size<=b)/\b≠X.env.locals/\(∀x c,X.env.cells.lookup x=some c->c≠b)/\∀p∈X.pn++pins,p.1≠b):ai X pins σ H' s':=by
 obtain⟨h',g',d',t',o'⟩:=s';have e:o'=s.os:=ho;subst e;exact I.call (g':=g') (t':=t') (d':=d') u hok hg hch
end
abbrev XK:=Value->Option Addr->Hp->Prop
abbrev St:=List (Option V)
abbrev VK:=V->Hp->Prop
abbrev TE:=St->Hp->VK->Prop
abbrev TT:=St->Hp->(Bool->Hp->Prop)->Prop
abbrev TA:=St->Hp->(List V->Hp->Prop)->Prop
structure f6 where
 nx:St->Hp->Prop
 rt:VK
 bk:St->Hp->Prop:=λ_ _=>False
 ct:St->Hp->Prop:=λ_ _=>False
abbrev TS:=f6->St->Hp->Prop
def EP(X:Cx)(pins:List (Addr × Obj))(σ:St)(Q:VK)(u:Value)(s':Shared):Prop:=∃v H',ai X pins σ H' s'/\aQ v u/\Q v H'
def TP(X:Cx)(pins:List (Addr × Obj))(σ:St)(Q:Bool->Hp->Prop)(b:Bool)(s':Shared):Prop:=∃H',ai X pins σ H' s'/\Q b H'
def AP(X:Cx)(pins:List (Addr × Obj))(σ:St)(Q:List V->Hp->Prop)(us:List Value)(s':Shared):Prop:=∃vs H',ai X pins σ H' s'/\aL vs us/\Q vs H'
def SP(X:Cx)(pins:List (Addr × Obj))(D:f6)(f:Flow)(s':Shared):Prop :=
 match f with
 | .next=>∃σ' H',ai X pins σ' H' s'/\D.nx σ' H'
 | .brk=>∃σ' H',ai X pins σ' H' s'/\D.bk σ' H'
 | .cont=>∃σ' H',ai X pins σ' H' s'/\D.ct σ' H'
 | .ret u=>∃v σ' H',ai X pins σ' H' s'/\aQ v u/\D.rt v H'
def PE(X:Cx)(e:Expr)(t:TE):Prop :=
 ∀(pins:List (Addr × Obj)) (s:Shared) (σ:St) (H:Hp) (Q:VK),ai X pins σ H s->t σ H Q->wpAny (model X.prog X.w) X.A (eval e X.env) (EP X pins σ Q) X.xe s
def PT(X:Cx)(e:Expr)(t:TT):Prop :=
 ∀(pins:List (Addr × Obj)) (s:Shared) (σ:St) (H:Hp) (Q:Bool->Hp->Prop),ai X pins σ H s->t σ H Q->wpAny (model X.prog X.w) X.A (isTrue e X.env (eval e X.env)) (TP X pins σ Q) X.xe s
def PW(X:Cx)(e:Expr)(t:TT):Prop :=
 ∀(whole:Sem Value) (pins:List (Addr × Obj)) (s:Shared) (σ:St) (H:Hp) (Q:Bool->Hp->Prop),ai X pins σ H s->t σ H Q->wpAny (model X.prog X.w) X.A (isTrue e X.env whole) (TP X pins σ Q) X.xe s
theorem PW.pt{X:Cx}{e:Expr}{t:TT}(h:PW X e t):PT X e t:=h _
def PA(X:Cx)(es:List Expr)(t:TA):Prop :=
 ∀(pos:Pos) (pins:List (Addr × Obj)) (s:Shared) (σ:St) (H:Hp) (Q:List V->Hp->Prop),ai X pins σ H s->t σ H Q->wpAny (model X.prog X.w) X.A (spliced (backTo pos (starEach es X.env))) (AP X pins σ Q) X.xe s
def PS(X:Cx)(st:Stmt)(t:TS):Prop :=
 ∀(pins:List (Addr × Obj)) (s:Shared) (σ:St) (H:Hp) (D:f6),ai X pins σ H s->t D σ H->wpAny (model X.prog X.w) X.A (exec st X.env) (SP X pins D) X.xe s
def gn(X:Cx)(st:List Stmt)(t:TS):Prop :=
 ∀(pins:List (Addr × Obj)) (s:Shared) (σ:St) (H:Hp) (D:f6),ai X pins σ H s->t D σ H->wpAny (model X.prog X.w) X.A (execs st X.env) (SP X pins D) X.xe s
theorem aD{α:Type}{t:Sem α}{Q Q':α->Shared->Prop}{M:Model}{A:Around}{E:Value->Shared->Prop}{s:Shared}(h:wpAny M A t Q E s)(hQ:∀a s,Q a s->Q' a s):wpAny M A t Q' E s:=wpAny_mono h hQ λ_ _ x=>x
section
variable {X:Cx}
def zG(i:Nat):TE:=λσ H Q=>∃v,σ[i]? = some (some v)/\Q v H
def tC(v:V):TE:=λ_ H Q=>Q v H
theorem Bm {i:Nat} {x:Str} {pos:Pos} (hN:X.N[i]? = some x) (hv:oj X.env.scope x) (hd:(x == ("__debug__" : Str))=false:=by decide) (hcd:(x == ("__classdict__" : Str))=false:=by decide):PE X (.Name x pos) (zG i):=by
 intro pins s σ H Q I h;obtain⟨v,e,h⟩:=h;obtain⟨m,hn,hl⟩:=I.loc;obtain⟨u,r,l⟩:=hl i x v hN e hv;have fin:EP X pins σ Q u s:=⟨v,H,I,r,h⟩;rcases l with ⟨hk,hm⟩|⟨hk,c,hc,hcell⟩
 ·exact wpAny_Name (wpAny_loadName_local I.ok.kind hk hn hm fin) hd
 ·rcases hk with hk|hk
  ·exact wpAny_Name (wpAny_loadName_cell I.ok.kind hk hc hcell fin) hd
  ·exact wpAny_Name (wpAny_loadName_free I.ok.kind hk hc hcell fin hcd) hd
theorem pC{i j pos}:PE X (.Constant (.int i) j pos) (tC (.int i)):=λ_ _ _ H _ I h=>wpAny_Constant_int ⟨.int i,H,I.tok _,⟨_,rfl⟩,h⟩
theorem Br{b j pos}:PE X (.Constant (.bool b) j pos) (tC (.bl b)):=λ_ _ _ H _ I h=>Constant_bool ⟨.bl b,H,I,rfl,h⟩
theorem Bo{j pos}:PE X (.Constant .none j pos) (tC .non):=λ_ _ _ H _ I h=>Constant_none ⟨.non,H,I,rfl,h⟩
theorem Bn{x j pos}:PE X (.Constant (.str x) j pos) (tC (.str x)):=λ_ _ _ H _ I h=>Calls.Constant_str ⟨.str x,H,I.tok _,⟨_,rfl⟩,h⟩
def Gl(X:Cx)(x:Str):Prop:=X.env.kindOf x=some .globalImplicit
theorem pU{E:Value->Shared->Prop}{pins:List (Addr × Obj)}{s:Shared}{σ:St}{H:Hp}{x:Str}{u:Value}{pos:Pos}{Q:Value->Shared->Prop}(I:ai X pins σ H s)(hg:Gl X x)(hm:X.mg x=some u)(h:Q u s)
 (hd:(x == ("__debug__" : Str))=false:=by decide):wpAny (model X.prog X.w) X.A (eval (.Name x pos) X.env) Q E s :=
 Calls.Name_function_global I.ok.kind hg (Calls.loadGlobal_global (by rw[I.ok.glob];exact I.mod.glob.keeps I.bk) hm h) hd
theorem fW{E:Value->Shared->Prop}{pins:List (Addr × Obj)}{s:Shared}{σ:St}{H:Hp}{x:Str}{u:Value}{pos:Pos}{Q:Value->Shared->Prop}(I:ai X pins σ H s)(hg:Gl X x)(hm:X.mg x=none)(hv:bootBuiltins x=some u)(h:Q u s)
 (hn:x ≠ "__name__":=by decide) (hd:(x == ("__debug__" : Str))=false:=by decide):wpAny (model X.prog X.w) X.A (eval (.Name x pos) X.env) Q E s:=by
 obtain⟨mb,h1,h2⟩:=I.mod.blt;exact Calls.Name_function_global I.ok.kind hg (Calls.loadGlobal_builtin (by rw[I.ok.glob];exact I.mod.glob.keeps I.bk) hm (by rw[I.ok.blt];exact h1.keeps I.bk) ((h2 x hn).trans hv) h) hd
theorem Bq {x:Str} {v:V} {u:Value} {pos:Pos} (hg:Gl X x) (hm:X.mg x=some u) (r:aQ v u) (hd:(x == ("__debug__" : Str))=false:=by decide):PE X (.Name x pos) (tC v) :=
 λ_ _ _ H _ I h=>pU I hg hm ⟨v,H,I,r,h⟩ hd
theorem Kr {x:Str} {v:V} {u:Value} {pos:Pos} (hg:Gl X x) (hm:X.mg x=none) (hv:bootBuiltins x=some u) (r:aQ v u) (hn:x ≠ "__name__":=by decide) (hd:(x == ("__debug__" : Str))=false:=by decide):PE X (.Name x pos) (tC v) :=
 λ_ _ _ H _ I h=>fW I hg hm hv ⟨v,H,I,r,h⟩ hn hd
variable {a b:Expr}{ta tb:TE}{pos:Pos}
def tB(t:TE):TT:=λσ H Q=>t σ H λx H1=>∃c,x=.bl c/\Q c H1
variable {tA tB':TT}{bH:List Expr}
def Aa(t u:TT):TT:=λσ H Q=>t σ H λc H1=>if c=true then u σ H1 Q else Q false H1
def zM(t u:TT):TT:=λσ H Q=>t σ H λc H1=>if c=true then Q true H1 else u σ H1 Q
def zN(t:TT):TT:=λσ H Q=>t σ H λc H1=>Q (!c) H1
theorem Jk(ha:PT X a tA):PW X (.BoolOp .And [a] pos) tA:=by
 intro wh pins s σ H Q I h;refine isTrue_and (aD (ha pins s σ H Q I h) λc s1 e=>?_);cases c with
 | true=>exact isTrue_and_nil e
 | false=>exact e
theorem Ji(ha:PT X a tA):PW X (.BoolOp .Or [a] pos) tA:=by
 intro wh pins s σ H Q I h;refine isTrue_or (aD (ha pins s σ H Q I h) λc s1 e=>?_);cases c with
 | false=>exact isTrue_or_nil e
 | true=>exact e
theorem Jl(ha:PT X a tA)(hb:PW X (.BoolOp .And (b::bH) pos) tB'):PW X (.BoolOp .And (a::b::bH) pos) (Aa tA tB'):=by
 intro wh pins s σ H Q I h;refine isTrue_and (aD (ha pins s σ H _ I h) λc s1 ⟨H1,I1,q1⟩=>?_);cases c with
 | true=>exact hb wh pins s1 σ H1 Q I1 q1
 | false=>exact⟨H1,I1,q1⟩
theorem Jj(ha:PT X a tA)(hb:PW X (.BoolOp .Or (b::bH) pos) tB'):PW X (.BoolOp .Or (a::b::bH) pos) (zM tA tB'):=by
 intro wh pins s σ H Q I h;refine isTrue_or (aD (ha pins s σ H _ I h) λc s1 ⟨H1,I1,q1⟩=>?_);cases c with
 | true=>exact⟨H1,I1,q1⟩
 | false=>exact hb wh pins s1 σ H1 Q I1 q1
theorem Jp(ha:PT X a tA):PT X (.UnaryOp .Not a pos) (zN tA):=by
 intro pins s σ H Q I h;exact isTrue_not (ha pins s σ H (λc H1=>Q (!c) H1) I h)
theorem J7{op}{t:TE}(h:PE X a t):PE X (.BoolOp op [a] pos) t:=λpins s σ H Q I hw=>BoolOp_one (h pins s σ H Q I hw)
def zS(t:TT)(ta tb:TE):TE:=λσ H Q=>t σ H λc H1=>if c=true then ta σ H1 Q else tb σ H1 Q
theorem Kb{c:Expr}(hc:PT X c tA)(ha:PE X a ta)(hb:PE X b tb):PE X (.IfExp c a b pos) (zS tA ta tb):=by
 intro pins s σ H Q I h;refine wpAny_IfExp (aD (hc pins s σ H _ I h) λd s1 ⟨H1,I1,q1⟩=>?_);cases d with
 | true=>exact ha pins s1 σ H1 Q I1 q1
 | false=>exact hb pins s1 σ H1 Q I1 q1
end
def aF(K:W.Frag)(H:Hp)(a:Addr)(xs:List V):Prop :=
 Rd H a (.lst xs) \/
  ∃(o:Obj) (its:Array Value) (n:Nat),K.lookup a=some o/\o.cls=.type "list"/\o.dict=none/\o.data=.seq its n/\its.size<=sizeLine/\aL xs its.toList
def bo(K:W.Frag)(H:Hp)(a:Addr)(xs:List V):Prop :=
 Rd H a (.tup xs) \/
  ∃(o:Obj) (its:Array Value) (n:Nat),K.lookup a=some o/\o.cls=.type "tuple"/\o.data=.seq its n/\its.size<=sizeLine/\aL xs its.toList
def Sk:Value->Option V
 | .none=>some .non
 | .bool b=>some (.bl b)
 | .int i _=>some (.int i)
 | .str x _=>some (.str x)
 | .bytes b _=>some (.byt b)
 | .float b _=>some (.flt b)
 | .ref a=>some (.ref a)
 | .type n=>some (.ty n)
 | _=>none
theorem aQ.abs{x:V}{u:Value}(r:aQ x u):Sk u=some x:=by
 cases x with
 | non=>cases r;rfl
 | bl _=>cases r;rfl
 | int _=>obtain⟨t,rfl⟩:=r;rfl
 | str _=>obtain⟨t,rfl⟩:=r;rfl
 | byt _=>obtain⟨t,rfl⟩:=r;rfl
 | flt _=>obtain⟨t,rfl⟩:=r;rfl
 | ref _=>cases r;rfl
 | ty _=>cases r;rfl
theorem aQ.inj{x y:V}{u:Value}(r:aQ x u)(q:aQ y u):x=y:=UO (r.abs.symm.trans q.abs)
theorem aL.inj:∀ {xs ys:List V} {us:List Value},aL xs us->aL ys us->xs=ys
 | _,_,_,.nil,.nil=>rfl
 | _,_,_,.cons r t,.cons r' t'=>by rw[r.inj r',aL.inj t t']
section
variable {X:Cx}{pins:List (Addr × Obj)}{σ:St}{H:Hp}{s:Shared}{a:Addr}{xs ys:List V}
theorem aF.of{K:W.Frag}(h:H a=some (.lst xs)):aF K H a xs:=.inl (.inl h)
theorem bo.of{K:W.Frag}(h:H a=some (.tup xs)):bo K H a xs:=.inl (.inl h)
theorem ai.list(I:ai X pins σ H s)(h:aF X.K H a xs):∃its:List Value,aL xs its/\PlainL s.heap a its.toArray/\xs.length<=sizeLine:=by
 rcases h with h|⟨o,its,n,hk,hc,hd,hs,hz,r⟩
 ·obtain⟨z,its,n,r,e⟩:=h.ok I.hok;exact⟨its,r,⟨_,n,e,Z,Z,Z⟩,z⟩
 ·refine⟨its.toList,r,⟨o,n,I.kIn a o hk,hc,hd,by simpa using hs⟩,?_⟩;have e:=r.length;simp only [UF]at e;omega
theorem ai.tuple(I:ai X pins σ H s)(h:bo X.K H a xs):∃its:List Value,aL xs its/\IsTup s.heap a its.toArray/\xs.length<=sizeLine:=by
 rcases h with h|⟨o,its,n,hk,hc,hs,hz,r⟩
 ·obtain⟨z,its,r,p⟩:=h.ok I.hok;exact⟨its,r,p,z⟩
 ·refine⟨its.toList,r,⟨o,I.kIn a o hk,hc,n,by simpa using hs⟩,?_⟩;have e:=r.length;simp only [UF]at e;omega
theorem ai.list_inj(I:ai X pins σ H s)(h:aF X.K H a xs)(h':aF X.K H a ys):xs=ys:=by
 obtain⟨its,r,⟨o,n,e,_,_,d⟩,_⟩:=I.list h;obtain⟨its',r',⟨o',n',e',_,_,d'⟩,_⟩:=I.list h';rw[e]at e';cases e';rw[d]at d'
 injection d' with d1 _
 have:its=its':=by simpa using congrArg Array.toList d1
 subst this;exact r.inj r'
theorem ai.tuple_inj(I:ai X pins σ H s)(h:bo X.K H a xs)(h':bo X.K H a ys):xs=ys:=by
 obtain⟨its,r,⟨o,e,_,n,d⟩,_⟩:=I.tuple h;obtain⟨its',r',⟨o',e',_,n',d'⟩,_⟩:=I.tuple h';rw[e]at e';cases e';rw[d]at d'
 injection d' with d1 _
 have:its=its':=by simpa using congrArg Array.toList d1
 subst this;exact r.inj r'
end
abbrev Cx.wish(X:Cx)(E:Value->Shared->Prop):Cx:={ X with xe:=E }
abbrev Cx.nox(X:Cx):Cx:=X.wish λ_ _=>False
theorem Cx.Ok.wish{X:Cx}(ok:X.Ok)(E:Value->Shared->Prop):(X.wish E).Ok :=
 ⟨ok.mod,ok.kind,ok.glob,ok.blt,ok.above,ok.inj,ok.has,ok.cab,ok.hd,ok.frames,ok.stk,ok.exf,ok.bs,ok.bsz,ok.noex,ok.exfs,ok.funs,ok.frf⟩
theorem Cx.Ok.unwish{X:Cx}{E:Value->Shared->Prop}(ok:(X.wish E).Ok):X.Ok :=
 ⟨ok.mod,ok.kind,ok.glob,ok.blt,ok.above,ok.inj,ok.has,ok.cab,ok.hd,ok.frames,ok.stk,ok.exf,ok.bs,ok.bsz,ok.noex,ok.exfs,ok.funs,ok.frf⟩
section
variable {X:Cx}{pins:List (Addr × Obj)}{σ:St}{H:Hp}{s:Shared}{E:Value->Shared->Prop}
theorem ai.wish(I:ai X pins σ H s)(E:Value->Shared->Prop):ai (X.wish E) pins σ H s:=⟨I.ok.wish E,I.os,I.bare,I.base,I.loc,I.cell,I.free,I.freeC,I.pin,I.hok,I.len⟩
theorem ai.unwish(I:ai (X.wish E) pins σ H s):ai X pins σ H s:=⟨I.ok.unwish,I.os,I.bare,I.base,I.loc,I.cell,I.free,I.freeC,I.pin,I.hok,I.len⟩
theorem SP.unwish{D:f6}{f:Flow}{s':Shared}(h:SP (X.wish E) pins D f s'):SP X pins D f s':=by
 cases f with
 | next=>obtain⟨σ',H',I,q⟩:=h;exact⟨σ',H',I.unwish,q⟩
 | brk=>obtain⟨σ',H',I,q⟩:=h;exact⟨σ',H',I.unwish,q⟩
 | cont=>obtain⟨σ',H',I,q⟩:=h;exact⟨σ',H',I.unwish,q⟩
 | ret u=>obtain⟨v,σ',H',I,r,q⟩:=h;exact⟨v,σ',H',I.unwish,r,q⟩
theorem gn.nox{st:List Stmt}{t:TS}(h:gn X.nox st t):gn X st t:=λpins s σ H D I hw =>
 wpAny_mono (h pins s σ H D (I.wish _) hw) (λ_ _ q=>q.unwish) λ_ _ z=>False.elim z
end
section
variable {X:Cx}{st:Stmt}{bH:List Stmt}{t u:TS}{e:Expr}{te:TE}{pos:Pos}
def gY:TS:=λD σ H=>D.nx σ H
def oJ(t u:TS):TS:=λD σ H=>t { D with nx:=u D } σ H
theorem Jr:gn X [] gY:=λ_ _ σ H _ I h=>wpAny_execs_nil ⟨σ,H,I,h⟩
theorem Js(h1:PS X st t)(h2:gn X bH u):gn X (st::bH) (oJ t u):=by
 intro pins s σ H D I h;refine wpAny_execs_cons (aD (h1 pins s σ H { D with nx:=u D } I h) λf s1 q=>?_);cases f with
 | next =>
  obtain⟨σ',H',I',q⟩:=q;exact h2 pins s1 σ' H' D I' q
 | ret v=>exact q
 | brk=>exact q
 | cont=>exact q
theorem Jq(h1:PS X st t):gn X [st] t:=by
 intro pins s σ H D I h;refine wpAny_execs_cons (aD (h1 pins s σ H D I h) λf s1 q=>?_);cases f with
 | next=>exact wpAny_execs_nil q
 | ret v=>exact q
 | brk=>exact q
 | cont=>exact q
def zZ:TS:=λD σ H=>D.bk σ H
theorem JE:PS X (.Break pos) zZ:=λ_ _ σ H _ I h=>wpAny_Break ⟨σ,H,I,h⟩
theorem ai.quiet{pins:List (Addr × Obj)}{σ:St}{H:Hp}{s:Shared}(I:ai X pins σ H s):interactive X.env=false:=by simp[interactive,I.ok.kind]
def zV(te:TE):TS:=λD σ H=>te σ H λ_ H1=>D.nx σ H1
theorem JC(he:PE X e te)(hs:swapsWith e none pos.line X.env=pure false:=by rfl):PS X (.Expr e pos) (zV te):=by
 intro pins s σ H D I h;exact wpAny_Expr_any (aD (he pins s σ H _ I h) λv s1 ⟨x,H1,I1,r1,q1⟩=>⟨σ,H1,I1,q1⟩) I.quiet hs
def sN(te:TE):TS:=λD σ H=>te σ H D.rt
theorem Jv(he:PE X e te):PS X (.Return (some e) pos) (sN te):=by
 intro pins s σ H D I h;exact wpAny_Return_some (aD (he pins s σ H _ I h) λv s1 ⟨x,H1,I1,r1,q1⟩=>⟨x,σ,H1,I1,r1,q1⟩)
def jT(c:TT)(t u:TS):TS:=λD σ H=>c σ H λb H1=>if b=true then t D σ H1 else u D σ H1
theorem Jy{c:Expr}{a b:List Stmt}{tc:TT}(hc:PT X c tc)(ha:gn X a t)(hb:gn X b u):PS X (.If c a b pos) (jT tc t u):=by
 intro pins s σ H D I h;refine wpAny_If (aD (hc pins s σ H _ I h) λd s1 ⟨H1,I1,q1⟩=>?_);cases d with
 | true=>exact ha pins s1 σ H1 D I1 q1
 | false=>exact hb pins s1 σ H1 D I1 q1
def zP:TS:=λ_ _ _=>False
theorem Jx:PS X st zP:=λ_ _ _ _ _ _ h=>h.elim
end
abbrev TG:=V->St->Hp->(St->Hp->Prop)->Prop
abbrev ip:=List V->St->Hp->(St->Hp->Prop)->Prop
def PG(X:Cx)(target:Expr)(t:TG):Prop :=
 ∀(pins:List (Addr × Obj)) (s:Shared) (σ:St) (H:Hp) (v:V) (u:Value) (Q:St->Hp->Prop),ai X pins σ H s->aQ v u->t v σ H Q ->
  wpAny (model X.prog X.w) X.A (assign target X.env u) (λ_ s'=>∃σ' H',ai X pins σ' H' s'/\Q σ' H') X.xe s
def ot(X:Cx)(ts:List Expr)(t:ip):Prop :=
 ∀(pins:List (Addr × Obj)) (s:Shared) (σ:St) (H:Hp) (vs:List V) (us:List Value) (Q:St->Hp->Prop),ai X pins σ H s->aL vs us->t vs σ H Q ->
  wpAny (model X.prog X.w) X.A (assignInOrder ((assignEach ts X.env).map (·.2)) us) (λ_ s'=>∃σ' H',ai X pins σ' H' s'/\Q σ' H') X.xe s
section
variable {X:Cx}{pos:Pos}
def bT(i:Nat):TG:=λv σ H Q=>Q (σ.set i (some v)) H
theorem J3{i:Nat}{x:Str}(hN:X.N.Nodup)(hi:X.N[i]? = some x)(hx:jf X.env.scope x)(hf:X.fn x=true\/X.env.scope.names.lookup x=some .local:=by first|exact .inl rfl|exact .inr rfl|assumption):PG X (.Name x pos) (bT i):=by
 intro pins s σ H v u Q I r h;exact wpAny_assign_Name (oM I hN hi hx r (λs' I'=>⟨_,H,I',h⟩) hf)
def qm:ip:=λvs σ H Q=>vs=[]/\Q σ H
def jF(t:TG)(u:ip):ip:=λvs σ H Q=>∃v r,vs=v::r/\t v σ H λσ' H'=>u r σ' H' Q
theorem J0:ot X [] qm:=by
 intro pins s σ H vs us Q I r h;obtain⟨e,h⟩:=h;subst e;cases r;exact assignInOrder_nil ⟨σ,H,I,h⟩
theorem J1{e:Expr}{es:List Expr}{t:TG}{u:ip}(h1:PG X e t)(h2:ot X es u)
 (hs:(assignEach (e::es) X.env).map (·.2)=assign e X.env::(assignEach es X.env).map (·.2):=by rfl):ot X (e::es) (jF t u):=by
 intro pins s σ H vs us Q I r h;obtain⟨v,vr,e1,h⟩:=h;subst e1;cases r with
 | cons r rr =>
  rw[hs];refine assignInOrder_cons (aD (h1 pins s σ H _ _ _ I r h) λ_ s1 ⟨σ1,H1,I1,q1⟩=>?_);exact h2 pins s1 σ1 H1 _ _ Q I1 rr q1
def nE(K:W.Frag)(n:Nat)(t:ip):TG:=λv σ H Q=>∃a xs,v=.ref a/\bo K H a xs/\xs.length=n/\t xs σ H Q
theorem J2{es:List Expr}{k:Nat}{t:ip}{n:Nat}(hc:X.calm=true)(h:ot X es t)
 (hn:(assignEach es X.env).length=n:=by rfl) (hst:(assignEach es X.env).findIdx? (·.1)=none:=by rfl):PG X (.Tuple es k pos) (nE X.K n t):=by
 intro pins s σ H v u Q I r hw;obtain⟨a,xs,e1,hq,hl,hw⟩:=hw;subst e1;cases r;obtain⟨its,rv,ht,hz⟩:=I.tuple hq;refine assign_Tuple_tuple (I.ok.hd hc) ht (by simp[hn,<- hl,rv.length]) hst λh' hx=>?_;have I1:ai X pins σ H { s with heap:=h' }:=I.kept (t':=s.toks) λb o e=>hx b o (Uo (Uf e)) e;exact h pins _ σ H xs _ Q I1 (by simpa using rv) hw
def jW(te:TE)(g:TG):TS:=λD σ H=>te σ H λx H1=>g x σ H1 D.nx
theorem JF{tg e:Expr}{te:TE}{g:TG}(he:PE X e te)(hg:PG X tg g)(hs:swapsWithSole [tg] e pos.line X.env=pure false:=by rfl)(hw:swappedStores [tg] e X.env=pure none:=by rfl)
 (h1:(assignEach [tg] X.env).map (·.2)=[assign tg X.env]:=by rfl):PS X (.Assign [tg] e pos) (jW te g):=by
 intro pins s σ H D I h;refine wpAny_Assign_stores (aD (he pins s σ H _ I h) λv s1 ⟨x,H1,I1,r1,q1⟩=>?_) hs hw;rw[h1];exact aD (hg pins s1 σ H1 x v _ I1 r1 q1) λ_ s2 q=>q
theorem Ju{i:Nat}{x:Str}{e:Expr}{te:TE}{pos':Pos}(hN:X.N.Nodup)(hi:X.N[i]? = some x)(hx:jf X.env.scope x)(he:PE X e te)(hs:swapsWith e (some (.Name x pos')) pos.line X.env=pure false:=by rfl)(hf:X.fn x=true\/X.env.scope.names.lookup x=some .local:=by first|exact .inl rfl|exact .inr rfl|assumption) :
 PS X (.Assign [.Name x pos'] e pos) (jW te (bT i)):=by
 intro pins s σ H D I h;refine wpAny_Assign_Name (aD (he pins s σ H _ I h) λv s1 ⟨y,H1,I1,r1,q1⟩=>?_) hs;exact oM I1 hN hi hx r1 (λs2 I2=>⟨_,H1,I2,q1⟩) hf
def zL(i j:Nat)(ta:TA):TS:=λD σ H=>ta σ H λvs H1=>∃v w,vs=[v,w]/\D.nx ((σ.set i (some v)).set j (some w)) H1
theorem Jw{i j:Nat}{x y:Str}{a b:Expr}{ta:TA}{px py pt:Pos}{kt k2 pt2}(hc:X.calm=true)(hN:X.N.Nodup)(hi:X.N[i]? = some x)(hj:X.N[j]? = some y)(hij:i≠j)
 (hx:X.env.scope.names.lookup x=some .local) (hy:X.env.scope.names.lookup y=some .local) (ha:PA X [a,b] ta)
 (hw:swappedStores [.Tuple [.Name x px,.Name y py] kt pt] (.Tuple [a,b] k2 pt2) X.env=pure (some [x,y]))
 (hs:swapsWithSole [.Tuple [.Name x px,.Name y py] kt pt] (.Tuple [a,b] k2 pt2) pos.line X.env=pure false:=by rfl) :
 PS X (.Assign [.Tuple [.Name x px,.Name y py] kt pt] (.Tuple [a,b] k2 pt2) pos) (zL i j ta):=by
 intro pins s σ H D I h;rw[exec_Assign_arm];refine wpAny_bind (wpAny_standAt ?_);rw[hs];refine wpAny_bind (wpAny_pure ?_);rw[if_neg (by decide)];refine wpAny_bind (Tuple_ (aD (ha _ pins s σ H _ I h) λus s1 ⟨vs,H1,I1,r1,q1⟩=>?_));obtain⟨v,w,e1,q1⟩:=q1;subst e1;obtain⟨u1,u2,rfl,rv,rw'⟩:∃u1 u2,us=[u1,u2]/\aQ v u1/\aQ w u2:=by
  cases r1 with
  | cons p q =>
   cases q with
   | cons p' q' =>
    cases q';exact⟨_,_,Z,p,p'⟩
 refine wpAny_newObj_type ?_ (by show 2<=sizeLine;decide);have I2:ai X pins σ H1 { s1 with heap:=s1.heap.push { cls:=.type "tuple",data:=.seq [u1,u2].toArray } }:=I1.kept (t':=s1.toks) λb o e=>Uj _ e;rw[hw];refine wpAny_bind (wpAny_pure ?_);show wpAny (model X.prog X.w) X.A (do rule "assign.swapped-stores"; let items <- unpackItems (.ref s1.heap.objs.size) 2 none;assignInOrder [λv=>bindName X.env y v,λv=>bindName X.env x v] items.reverse;pure Flow.next) _ _ _;refine wpAny_bind (wpAny_rule (wpAny_bind (unpackItems_tuple (items:=#[u1,u2]) (I.ok.hd hc) (IsTup.new s1.heap _) λh' hx'=>?_)));have I3:=I2.kept (h':=h') (t':=s1.toks) λb o e=>hx' b o (Uo (Uf e)) e;show wpAny _ _ (assignInOrder [λv=>bindName X.env y v,λv=>bindName X.env x v] [u2,u1] >>= λ_=>pure Flow.next) _ _ _;refine wpAny_bind (assignInOrder_cons (wpAny_bindName (oM I3 hN hj (.inl hy) rw' (λs2 I4=>?_) (.inr hy))));refine assignInOrder_cons (wpAny_bindName (oM I4 hN hi (.inl hx) rv (λs3 I5=>assignInOrder_nil (wpAny_pure ?_)) (.inr hx)));rw[List.set_comm _ _ (Ne.symm hij)]at I5;exact⟨_,H1,I5,q1⟩
end
structure It where
 go:Nat->Hp->Prop
 yld:Nat->Hp->V->Hp->Prop
 stop:Nat->Hp->Prop
def gu(X:Cx)(pins:List (Addr × Obj))(H:Hp)(b:Addr):Prop :=
 H b=none/\b≠X.env.locals/\b∉X.fs/\(b∈X.ex\/X.s₀.heap.objs.size<=b)/\(∀x c,X.env.cells.lookup x=some c->c≠b)/\∀p∈X.pn++pins,p.1≠b
theorem ai.fpOk{X:Cx}{pins:List (Addr × Obj)}{σ:St}{H H':Hp}{s:Shared}{b:Addr}(I:ai X pins σ H s)(hb:s.heap.objs.size<=b)(hn:H' b=none):gu X pins H' b:=by
 refine⟨hn,U4 (Uh I.lt hb),I.nofs hb,.inr (UE I.sz hb),λx c e z=>?_,λp hp z=>?_⟩
 ·obtain⟨v,q⟩:=I.cell x c e;exact absurd (Uh q.lt (by rw[z];exact hb)) (UW _)
 ·exact absurd (Uh (Uf (I.pin p hp).1) (by rw[z];exact hb)) (UW _)
structure jc (P:Program) (w:World) (K:W.Frag) (tg:Expr) (J:It) (fp:List Addr) (it:Addr) (tn:Nat->Heap->Prop):Prop where
 mem:it∈fp
 obj:∀i h,tn i h->∀b∈fp,∃o,h.get? b=some o/\∀v,o.data ≠ .cell v
 keep:∀i h h',tn i h->(∀b∈fp,∀o,h.get? b=some o->h'.get? b=some o)->tn i h'
 item:∀(X:Cx),X.prog=P->X.w=w->X.K=K->X.calm=true->∀(i:Nat) (pins:List (Addr × Obj)) (s:Shared) (σ:St) (H:Hp) (E:Value->Shared->Prop),ai X pins σ H s->(∀b∈fp,gu X pins H b)->tn i s.heap->J.go i H ->
  wpAny (model P w) X.A (pyNext (.ref it)) (λr s1=>∃u,r=some u /\
   wpAny (model P w) X.A (letOwnedTupleGo tg (.ref it) u) (λ_ s2=>∃x H',ai X pins σ H' s2/\aQ x u/\J.yld i H x H'/\tn (i+1) s2.heap/\∀b∈fp,H' b=none) E s1) E s
 done:∀(X:Cx),X.prog=P->X.w=w->X.K=K->X.calm=true->∀(i:Nat) (pins:List (Addr × Obj)) (s:Shared) (σ:St) (H:Hp) (E:Value->Shared->Prop),ai X pins σ H s->(∀b∈fp,gu X pins H b)->tn i s.heap->J.stop i H ->
  wpAny (model P w) X.A (pyNext (.ref it)) (λr s1=>r=none/\ai X pins σ H s1) E s
 self:∀(A:Around) (i:Nat) (s:Shared) (Q:Value->Shared->Prop) (E:Value->Shared->Prop),tn i s.heap->Q (.ref it) s->wpAny (model P w) A (pyIter (.ref it)) Q E s
abbrev TI:=St->Hp->(It->Hp->Prop)->Prop
def D5(X:Cx)(pins:List (Addr × Obj))(σ:St)(tg:Expr)(R:It->Hp->Prop)(itv:Value)(s2:Shared):Prop :=
 ∃(it:Addr) (fp:List Addr) (tn:Nat->Heap->Prop) (J:It) (H':Hp),itv=.ref it/\ai X pins σ H' s2/\jc X.prog X.w X.K tg J fp it tn/\tn 0 s2.heap/\(∀b∈fp,gu X pins H' b)/\R J H'
def PI(X:Cx)(tg iter:Expr)(wi:TI):Prop :=
 ∀(pins:List (Addr × Obj)) (s:Shared) (σ:St) (H:Hp) (R:It->Hp->Prop),ai X pins σ H s->wi σ H R ->
  wpAny (model X.prog X.w) X.A (eval iter X.env) (λv s1=>wpAny (model X.prog X.w) X.A (pyIter v) (D5 X pins σ tg R) X.xe s1) X.xe s
theorem qh{M:Model}{A:Around}{E:Value->Shared->Prop}{s:Shared}{tg:Expr}{it:Addr}{u:Value}{o:Obj}{n:String}{vs:Array Value}{Q:Unit->Shared->Prop}(ho:s.heap.get? it=some o)(hc:o.cls=.type n)(hd:o.data=.fields vs)
 (hn:["enumerate", "zip", "dict_itemiterator", "dict_reverseitemiterator", "odict_iterator", "itertools.zip_longest", "itertools.pairwise"].contains n=false) (hQ:Q () s):wpAny M A (letOwnedTupleGo tg (.ref it) u) Q E s:=by
 unfold letOwnedTupleGo;cases tg<;>first
  | exact wpAny_pure hQ
  | (cases u<;>first
      | exact wpAny_pure hQ
      | (refine wpAny_bind (wpAny_load ho ?_)
         rw[hc,hd];show wpAny M A (if (["enumerate", "zip", "dict_itemiterator", "dict_reverseitemiterator", "odict_iterator", "itertools.zip_longest", "itertools.pairwise"].contains n && vs[0]? == some (rawInt _))=true then _ else _) Q E s;rw[if_neg (by intro h;rw[hn,Bool.false_and]at h;cases h)];exact wpAny_pure hQ))
def jh(K:W.Frag)(a:Addr):It :=
 ⟨λi H=>∃xs x,aF K H a xs/\xs[i]? = some x,λi H x H'=>H'=H/\∀xs,aF K H a xs->xs[i]? = some x,λi H=>∃xs,aF K H a xs/\xs.length<=i⟩
def ox(K:W.Frag)(a:Addr):It :=
 ⟨λi H=>∃xs x,bo K H a xs/\xs[i]? = some x,λi H x H'=>H'=H/\∀xs,bo K H a xs->xs[i]? = some x,λi H=>∃xs,bo K H a xs/\xs.length<=i⟩
def iP(lo:Int)(n:Nat):It:=⟨λi _=>i<n,λi H x H'=>H'=H/\x=.int (lo+i),λi _=>n<=i⟩
theorem FR{P:Program}{w:World}{K:W.Frag}{tg:Expr}(a it:Addr):jc P w K tg (jh K a) [it] it (λi h=>h.IsListIter it a i) where
 mem:=by simp
 obj:=λi h st b hb=>by
  have e:b=it:=by simpa using hb
  subst e;obtain⟨o,e,c,d⟩:=st;exact⟨o,e,λv z=>by rw[d]at z;cases z⟩
 keep:=λi h h' st k=>st.at λo e=>k it (by simp) o e
 item:=by
  intro X hP hw hK hc i pins s σ H E I hf st hg;subst hP hw hK;obtain⟨xs,x,hq,hx⟩:=hg;obtain⟨its,rv,p,hz⟩:=I.list hq;obtain⟨u,hu,ru⟩:=rv.get hx;obtain⟨f0,f1,f2,f3,f4,f5⟩:=hf it (by simp);refine wpAny_pyNext_list_item st p.isList (x:=u) (by simpa using hu) λh' st' sb=>?_;have I1:ai X pins σ H { s with heap:=h' }:=I.turned (t':=s.toks) (λb o hb e=>(sb.2 b hb).trans e) f0 f1 f3 f4 f5;obtain⟨o,e,c,d⟩:=id st';exact⟨u,rfl,qh (s:={ s with heap:=h' }) e c d (by decide) ⟨x,H,I1,ru,⟨rfl,λys hy=>by rw[I.list_inj hy hq];exact hx⟩,st',λb hb=>(hf b hb).1⟩⟩
 done:=by
  intro X hP hw hK hc i pins s σ H E I hf st hg;subst hP hw hK;obtain⟨xs,hq,hx⟩:=hg;obtain⟨its,rv,p,hz⟩:=I.list hq;obtain⟨f0,f1,f2,f3,f4,f5⟩:=hf it (by simp);have hl:=rv.length;exact wpAny_pyNext_list_end (I.ok.hd hc) st p.isList (by simp;omega) λh' eb=>⟨rfl,I.turned (t':=s.toks) (λb o hb e=>eb b o hb e) f0 f1 f3 f4 f5⟩
 self:=λ_ _ _ _ _ st h=>wpAny_pyIter_listiter st h
theorem FP{P:Program}{w:World}{K:W.Frag}{tg:Expr}(a it:Addr):jc P w K tg (ox K a) [it] it (λi h=>h.IsTupleIter it a i) where
 mem:=by simp
 obj:=λi h st b hb=>by
  have e:b=it:=by simpa using hb
  subst e;obtain⟨o,e,c,d⟩:=st;exact⟨o,e,λv z=>by rw[d]at z;cases z⟩
 keep:=λi h h' st k=>st.at λo e=>k it (by simp) o e
 item:=by
  intro X hP hw hK hc i pins s σ H E I hf st hg;subst hP hw hK;obtain⟨xs,x,hq,hx⟩:=hg;obtain⟨its,rv,p,hz⟩:=I.tuple hq;obtain⟨u,hu,ru⟩:=rv.get hx;obtain⟨f0,f1,f2,f3,f4,f5⟩:=hf it (by simp);refine wpAny_pyNext_tuple_item st (show s.heap.IsTuple a its.toArray from p) (x:=u) (by simpa using hu) λh' st' sb=>?_;have I1:ai X pins σ H { s with heap:=h' }:=I.turned (t':=s.toks) (λb o hb e=>(sb.2 b hb).trans e) f0 f1 f3 f4 f5;obtain⟨o,e,c,d⟩:=id st';exact⟨u,rfl,qh (s:={ s with heap:=h' }) e c d (by decide) ⟨x,H,I1,ru,⟨rfl,λys hy=>by rw[I.tuple_inj hy hq];exact hx⟩,st',λb hb=>(hf b hb).1⟩⟩
 done:=by
  intro X hP hw hK hc i pins s σ H E I hf st hg;subst hP hw hK;obtain⟨xs,hq,hx⟩:=hg;obtain⟨its,rv,p,hz⟩:=I.tuple hq;obtain⟨f0,f1,f2,f3,f4,f5⟩:=hf it (by simp);have hl:=rv.length;exact wpAny_pyNext_tuple_end (I.ok.hd hc) st (show s.heap.IsTuple a its.toArray from p) (by simp;omega) λh' eb=>⟨rfl,I.turned (t':=s.toks) (λb o hb e=>eb b o hb e) f0 f1 f3 f4 f5⟩
 self:=λ_ _ _ _ _ st h=>wpAny_pyIter_tupleiter st h
theorem FQ{P:Program}{w:World}{K:W.Frag}{tg:Expr}(it:Addr)(lo:Int)(n:Nat):jc P w K tg (iP lo n) [it] it (λi h=>IsRangeIter h it (lo+(i:Nat)*1) ((n:Int)-(i:Nat)) 1) where
 mem:=by simp
 obj:=λi h st b hb=>by
  have e:b=it:=by simpa using hb
  subst e;exact⟨_,st,λv z=>by
   have z':Data.fields _=Data.cell v:=z;cases z'⟩
 keep:=λi h h' st k=>k it (by simp) _ st
 item:=by
  intro X hP hw hK hc i pins s σ H E I hf st hg;subst hP hw hK;obtain⟨f0,f1,f2,f3,f4,f5⟩:=hf it (by simp);have W:=Walks.range (prog:=X.prog) (w:=X.w) (I.ok.hd hc) it lo 1 n;refine W.item i s _ _ hg st λv h' tk hv st' kk=>?_;obtain⟨t,rfl⟩:=hv;have I1:ai X pins σ H { s with heap:=h',toks:=tk }:=I.turned (λb o hb e=>kk b o (by simpa using hb) e) f0 f1 f3 f4 f5;refine⟨_,rfl,qh (s:={ s with heap:=h',toks:=tk }) (n := "range_iterator") st' rfl rfl (by decide) ⟨.int (lo+i),H,I1,⟨t,?_⟩,⟨rfl,rfl⟩,st',λb hb=>(hf b hb).1⟩⟩;rw[Int.mul_one]
 done:=by
  intro X hP hw hK hc i pins s σ H E I hf st hg;subst hP hw hK;obtain⟨f0,f1,f2,f3,f4,f5⟩:=hf it (by simp);exact wpAny_pyNext_range_end (I.ok.hd hc) st (by have:n<=i:=hg;omega) λh' eb=>⟨rfl,I.turned (t':=s.toks) (λb o hb e=>eb b o hb e) f0 f1 f3 f4 f5⟩
 self:=λ_ _ _ _ _ st h=>wpAny_pyIter_rangeiter st h
section
variable {X:Cx}{tg:Expr}
def t0(K:W.Frag)(tl:TE):TI:=λσ H R=>tl σ H λx H1=>∃a,x=.ref a/\(∃xs,aF K H1 a xs)/\R (jh K a) H1
def tZ(K:W.Frag)(tl:TE):TI:=λσ H R=>tl σ H λx H1=>∃a,x=.ref a/\(∃xs,bo K H1 a xs)/\R (ox K a) H1
theorem JY{l:Expr}{tl:TE}(hl:PE X l tl):PI X tg l (t0 X.K tl):=by
 intro pins s σ H R I h;refine aD (hl pins s σ H _ I h) λv s1 ⟨x,H1,I1,r1,q1⟩=>?_;obtain⟨a,e,⟨xs,hq⟩,q⟩:=q1;subst e;cases r1;obtain⟨its,rv,p,hz⟩:=I1.list hq;refine wpAny_pyIter_list p.isList ?_;refine⟨s1.heap.objs.size,[s1.heap.objs.size],_,_,H1,Z,I1.kept (t':=s1.toks) λb o e=>Uj _ e,FR a _,⟨_,UG _ Z,Z,Z⟩,λb hb=>?_,q⟩;have e:b=s1.heap.objs.size:=by simpa using hb
 subst e;exact I1.fpOk (Ue _) (I1.hok.fresh (Ue _))
theorem JT{l:Expr}{tl:TE}(hl:PE X l tl):PI X tg l (tZ X.K tl):=by
 intro pins s σ H R I h;refine aD (hl pins s σ H _ I h) λv s1 ⟨x,H1,I1,r1,q1⟩=>?_;obtain⟨a,e,⟨xs,hq⟩,q⟩:=q1;subst e;cases r1;obtain⟨its,rv,p,hz⟩:=I1.tuple hq;refine wpAny_pyIter_tuple (show s1.heap.IsTuple a its.toArray from p) ?_;refine⟨s1.heap.objs.size,[s1.heap.objs.size],_,_,H1,Z,I1.kept (t':=s1.toks) λb o e=>Uj _ e,FP a _,⟨_,UG _ Z,Z,Z⟩,λb hb=>?_,q⟩;have e:b=s1.heap.objs.size:=by simpa using hb
 subst e;exact I1.fpOk (Ue _) (I1.hok.fresh (Ue _))
theorem A8{pins:List (Addr × Obj)}{σ:St}{H:Hp}{s:Shared}{R:It->Hp->Prop}{E:Value->Shared->Prop}{lo hi:Int}{t u v:Tok}{tk:Nat}(I:ai X pins σ H s)(h1 : -(2 ^ 62)<=lo)(h2:lo<2 ^ 62)(h3 : -(2 ^ 62)<=hi)(h4:hi<2 ^ 62)
 (q:R (iP lo (hi-lo).toNat) H):wpAny (model X.prog X.w) X.A (pyIter (.ref s.heap.objs.size)) (D5 X pins σ tg R) E { s with heap:=s.heap.push { cls:=.type "range",data:=.fields #[.int lo t,.int hi u,.int 1 v] },toks:=tk }:=by
 refine wpAny_pyIter_range (IsRange.new ..) (small_one h1 h2 h3 h4) ?_;have I1:ai X pins σ H { s with heap:=s.heap.push { cls:=.type "range",data:=.fields #[.int lo t,.int hi u,.int 1 v] },toks:=tk }:=I.kept λb o e=>Uj _ e;refine⟨(s.heap.push { cls:=.type "range",data:=.fields #[.int lo t,.int hi u,.int 1 v] }).objs.size,[(s.heap.push { cls:=.type "range",data:=.fields #[.int lo t,.int hi u,.int 1 v] }).objs.size],_,_,H,Z,
  I1.kept (t':=tk) λb o e=>Uj _ e,FQ _ lo (hi-lo).toNat,?_,λb hb=>?_,q⟩
 ·have e1:lo+((0:Nat):Int)*1=lo:=by simp
  have e2:(((hi-lo).toNat:Nat):Int)-((0:Nat):Int)=Builtin.Range.rangeSize lo hi 1:=by rw[rangeSize_one];split<;>omega
  show IsRangeIter _ _ (lo+((0:Nat):Int)*1) ((((hi-lo).toNat:Nat):Int)-((0:Nat):Int)) 1;rw[e1,e2];exact UG _ Z
 ·have e:b=(s.heap.push { cls:=.type "range",data:=.fields #[.int lo t,.int hi u,.int 1 v] }).objs.size:=by simpa using hb
  subst e;exact I1.fpOk (Ue _) (I1.hok.fresh (Ue _))
def Ci(ta:TA):TI:=λσ H R=>ta σ H λvs H1=>∃j:Int,vs=[.int j]/\-(2 ^ 62)<=j/\j<2 ^ 62/\R (iP 0 j.toNat) H1
def Ch(ta:TA):TI:=λσ H R=>ta σ H λvs H1=>∃i j:Int,vs=[.int i,.int j]/\(-(2 ^ 62)<=i/\i<2 ^ 62/\-(2 ^ 62)<=j/\j<2 ^ 62)/\R (iP i (j-i).toNat) H1
theorem JX {a:Expr} {ta:TA} {p pos:Pos} (hg:Gl X "range") (hm:X.mg "range" = none) (ha:PA X [a] ta) (hs:starEach [a] X.env=[(false,eval a X.env)]:=by rfl):PI X tg (.Call (.Name "range" p) [a] [] pos) (Ci ta):=by
 intro pins s σ H R I h;refine Call_ (fW I hg hm boot_range (UX (aD (ha pos pins s σ H _ I h) λus s1 ⟨vs,H1,I1,r1,q1⟩=>?_) hs Z));obtain⟨j,e,q1,q2,q⟩:=q1;subst e;cases r1 with
 | cons r rr =>
  cases rr;obtain⟨t,rfl⟩:=r;exact call_range_1 (A8 I1 (by omega) (by omega) q1 q2 (by simpa using q))
theorem JW {a b:Expr} {ta:TA} {p pos:Pos} (hg:Gl X "range") (hm:X.mg "range" = none) (ha:PA X [a,b] ta) (hs:starEach [a,b] X.env=[(false,eval a X.env),(false,eval b X.env)]:=by rfl) (hs2:starEach [b] X.env=[(false,eval b X.env)]:=by rfl) :
 PI X tg (.Call (.Name "range" p) [a,b] [] pos) (Ch ta):=by
 intro pins s σ H R I h;refine Call_ (fW I hg hm boot_range (UX (aD (ha pos pins s σ H _ I h) λus s1 ⟨vs,H1,I1,r1,q1⟩=>?_) (by rw[hs,hs2]) (by rw[hs2];rfl)));obtain⟨i,j,e,⟨q1,q2,q3,q4⟩,q⟩:=q1;subst e;cases r1 with
 | cons r rr =>
  cases rr with
  | cons r' rr =>
   cases rr;obtain⟨t,rfl⟩:=r;obtain⟨t',rfl⟩:=r';exact call_range_2 (A8 I1 q1 q2 q3 q4 q)
def zT(wi:TI)(g:TG)(tb:TS):TS:=λD σ H=>wi σ H λJ H1=>∃W:Nat->Nat->St->Hp->Prop,(∃m,W 0 m σ H1)/\∀i m σ H,W i m σ H ->
 (J.stop i H/\D.nx σ H)\/(J.go i H/\∃N:St->Hp->Prop,(∀σ' H',N σ' H'->∃m',m'<m/\W (i+1) m' σ' H')/\∀x H',J.yld i H x H'->g x σ H' λσ2 H2=>tb { D with nx:=N,ct:=N,bk:=D.nx } σ2 H2)
def m9(fp:List Addr)(h:Heap):List (Addr × Obj):=fp.filterMap λb=>(h.get? b).map λo=>(b,o)
theorem pO{fp:List Addr}{h:Heap}{b:Addr}{o:Obj}(hb:b∈fp)(e:h.get? b=some o):(b,o)∈m9 fp h:=List.mem_filterMap.mpr ⟨b,hb,by rw[e];rfl⟩
theorem K4{fp:List Addr}{h:Heap}{p:Addr × Obj}(hp:p∈m9 fp h):p.1∈fp/\h.get? p.1=some p.2:=by
 obtain⟨b,hb,e⟩:=List.mem_filterMap.mp hp;cases q:h.get? b with
 | none=>rw[q]at e;cases e
 | some o =>
  rw[q]at e;have e':(b,o)=p:=UO e;subst e';exact⟨hb,q⟩
theorem ai.pinned{pins:List (Addr × Obj)}{σ:St}{H:Hp}{s:Shared}{fp:List Addr}(I:ai X pins σ H s)(hf:∀b∈fp,gu X pins H b)(ho:∀b∈fp,∃o,s.heap.get? b=some o/\∀v,o.data ≠ .cell v):ai X (pins++m9 fp s.heap) σ H s :=
 I.pins_of λp hp=>(Us.mp hp).elim (λz=>I.pin p (UA _ z)) λz=>by
  obtain⟨hb,e⟩:=K4 z;obtain⟨f0,f1,f2,_⟩:=hf p.1 hb;obtain⟨o,e',d⟩:=ho p.1 hb;rw[e]at e';cases e';exact⟨e,f0,f1,f2,d⟩
theorem ai.unpinned{pins pl:List (Addr × Obj)}{σ:St}{H:Hp}{s:Shared}(I:ai X (pins++pl) σ H s):ai X pins σ H s:=I.pins_of λp hp=>I.pin p (UA _ (UQ _ hp))
theorem Jz{iter:Expr}{body:List Stmt}{wi:TI}{g:TG}{tb:TS}{pos:Pos}(hp:PassesOwn (model X.prog X.w) X.A X.env X.xe)(hc:X.calm=true)(hi:PI X tg iter wi)(hg:PG X tg g)(hb:gn X body tb)
 (hs:∀x,foldedSetIterable iter X.env x=pure x:=by intro _;rfl):PS X (.For tg iter body [] pos) (zT wi g tb):=by
 intro pins s σ H D I h;refine wpAny_For (aD (hi pins s σ H _ I h) λv s1 h1=>aD h1 λitv s2 h2=>?_) hs;obtain⟨it,fp,tn,J,H2,e,I2,T,st2,f2,W,⟨m0,w0⟩,turn⟩:=h2;subst e;have stat:∀ {H':Hp},(∀b∈fp,H' b=none)->∀b∈fp,gu X pins H' b:=λhn b hb=>⟨hn b hb,(f2 b hb).2⟩;refine codeAny_forLoop_any (λn s'=>∃i σ' H',ai X pins σ' H' s'/\tn i s'.heap/\(∀b∈fp,H' b=none)/\W i n σ' H') ?_ m0 ⟨0,σ,H2,I2,st2,λb hb=>(f2 b hb).1,w0⟩;rintro n s3 ⟨i,σ3,H3,I3,st3,fr3,w3⟩;rcases turn i n σ3 H3 w3 with ⟨stop,qn⟩|⟨go,N,hN,step⟩
 ·refine wpAny_passesOwn hp (aD (T.done X Z Z Z hc i pins s3 σ3 H3 X.xe I3 (stat fr3) st3 stop) λr s4 ⟨hr,I4⟩=>?_);subst hr;exact wpAny_execs_nil ⟨σ3,H3,I4,qn⟩
 ·refine wpAny_passesOwn hp (aD (T.item X Z Z Z hc i pins s3 σ3 H3 X.xe I3 (stat fr3) st3 go) λr s4 ⟨u,hr,h4⟩=>?_);subst hr;refine wpAny_passesOwn hp (aD h4 λ_ s5 ⟨x,H5,I5,r5,y5,cT,fr5⟩=>?_);have I5':=I5.pinned (stat fr5) (T.obj _ _ cT);refine wpAny_passesOwn hp (aD (hg _ s5 σ3 H5 x u _ I5' r5 (step x H5 y5)) λ_ s6 ⟨σ6,H6,I6,q6⟩=>?_);refine wpAny_passesOwn hp (aD (hb _ s6 σ6 H6 _ I6 q6) λf s7 q7=>?_);have again:∀ {σ7:St} {H7:Hp},ai X (pins++m9 fp s5.heap) σ7 H7 s7->N σ7 H7->∃m,m<n/\∃i σ' H',ai X pins σ' H' s7/\tn i s7.heap/\(∀b∈fp,H' b=none)/\W i m σ' H':=λ{σ7 H7} I7 n7=>by
   obtain⟨m',hm,w7⟩:=hN σ7 H7 n7;refine⟨m',hm,i+1,σ7,H7,I7.unpinned,T.keep _ _ _ cT λb hb o e=>(I7.pin (b,o) (UA _ (UA _ (pO hb e)))).1,λb hb=>?_,w7⟩;obtain⟨o,e,d⟩:=T.obj _ _ cT b hb;exact (I7.pin (b,o) (UA _ (UA _ (pO hb e)))).2.1
  cases f with
  | next=>obtain⟨σ7,H7,I7,n7⟩:=q7;exact again I7 n7
  | cont=>obtain⟨σ7,H7,I7,n7⟩:=q7;exact again I7 n7
  | brk=>obtain⟨σ7,H7,I7,q7⟩:=q7;exact⟨σ7,H7,I7.unpinned,q7⟩
  | ret v=>obtain⟨x7,σ7,H7,I7,r7,q7⟩:=q7;exact⟨x7,σ7,H7,I7.unpinned,r7,q7⟩
end
theorem ii{K:W.Frag}{a:Addr}{xs:List V}{g:TG}{tb:TS}{D:f6}{σ:St}{H:Hp}(Pv:Nat->St->Hp->Prop)(h0:Pv 0 σ H)(hl:∀i σ H,i<=xs.length->Pv i σ H->aF K H a xs)
 (hs:∀i x σ H,xs[i]? = some x->Pv i σ H->g x σ H λσ2 H2=>tb { D with nx:=Pv (i+1),ct:=Pv (i+1),bk:=D.nx } σ2 H2) (hd:∀σ H,Pv xs.length σ H->D.nx σ H) :
 ∃W:Nat->Nat->St->Hp->Prop,(∃m,W 0 m σ H)/\∀i m σ H,W i m σ H ->
  ((jh K a).stop i H/\D.nx σ H)\/((jh K a).go i H/\∃N:St->Hp->Prop,(∀σ' H',N σ' H'->∃m',m'<m/\W (i+1) m' σ' H')/\∀x H',(jh K a).yld i H x H'->g x σ H' λσ2 H2=>tb { D with nx:=N,ct:=N,bk:=D.nx } σ2 H2):=by
 refine⟨λi m σ H=>m=xs.length-i/\i<=xs.length/\Pv i σ H,⟨xs.length,by simp,Ux _,h0⟩,?_⟩;rintro i m σ H ⟨rfl,hi,p⟩;have q:=hl i σ H hi p;by_cases hlt:i<xs.length
 ·refine .inr ⟨⟨xs,xs[i],q,by simp[hlt]⟩,Pv (i+1),λσ' H' p'=>⟨xs.length-(i+1),by omega,rfl,hlt,p'⟩,λx H' y=>?_⟩;obtain⟨e,y⟩:=y;subst e;exact hs i x σ _ (y xs q) p
 ·have e:i=xs.length:=by omega
  subst e;exact .inl ⟨⟨xs,q,Ue _⟩,hd σ H p⟩
theorem Pn{K:W.Frag}{a:Addr}{xs:List V}{g:TG}{tb:TS}{D:f6}{σ:St}{H:Hp}(Pv:Nat->St->Hp->Prop)(h0:Pv 0 σ H)(hl:∀i σ H,i<=xs.length->Pv i σ H->bo K H a xs)
 (hs:∀i x σ H,xs[i]? = some x->Pv i σ H->g x σ H λσ2 H2=>tb { D with nx:=Pv (i+1),ct:=Pv (i+1),bk:=D.nx } σ2 H2) (hd:∀σ H,Pv xs.length σ H->D.nx σ H) :
 ∃W:Nat->Nat->St->Hp->Prop,(∃m,W 0 m σ H)/\∀i m σ H,W i m σ H ->
  ((ox K a).stop i H/\D.nx σ H)\/((ox K a).go i H/\∃N:St->Hp->Prop,(∀σ' H',N σ' H'->∃m',m'<m/\W (i+1) m' σ' H')/\∀x H',(ox K a).yld i H x H'->g x σ H' λσ2 H2=>tb { D with nx:=N,ct:=N,bk:=D.nx } σ2 H2):=by
 refine⟨λi m σ H=>m=xs.length-i/\i<=xs.length/\Pv i σ H,⟨xs.length,by simp,Ux _,h0⟩,?_⟩;rintro i m σ H ⟨rfl,hi,p⟩;have q:=hl i σ H hi p;by_cases hlt:i<xs.length
 ·refine .inr ⟨⟨xs,xs[i],q,by simp[hlt]⟩,Pv (i+1),λσ' H' p'=>⟨xs.length-(i+1),by omega,rfl,hlt,p'⟩,λx H' y=>?_⟩;obtain⟨e,y⟩:=y;subst e;exact hs i x σ _ (y xs q) p
 ·have e:i=xs.length:=by omega
  subst e;exact .inl ⟨⟨xs,q,Ue _⟩,hd σ H p⟩
theorem qr{lo:Int}{n:Nat}{g:TG}{tb:TS}{D:f6}{σ:St}{H:Hp}(Pv:Nat->St->Hp->Prop)(h0:Pv 0 σ H)
 (hs:∀i σ H,i<n->Pv i σ H->g (.int (lo+i)) σ H λσ2 H2=>tb { D with nx:=Pv (i+1),ct:=Pv (i+1),bk:=D.nx } σ2 H2) (hd:∀σ H,Pv n σ H->D.nx σ H) :
 ∃W:Nat->Nat->St->Hp->Prop,(∃m,W 0 m σ H)/\∀i m σ H,W i m σ H ->
  ((iP lo n).stop i H/\D.nx σ H)\/((iP lo n).go i H/\∃N:St->Hp->Prop,(∀σ' H',N σ' H'->∃m',m'<m/\W (i+1) m' σ' H')/\∀x H',(iP lo n).yld i H x H'->g x σ H' λσ2 H2=>tb { D with nx:=N,ct:=N,bk:=D.nx } σ2 H2):=by
 refine⟨λi m σ H=>m=n-i/\i<=n/\Pv i σ H,⟨n,by simp,Ux _,h0⟩,?_⟩;rintro i m σ H ⟨rfl,hi,p⟩;by_cases hlt:i<n
 ·refine .inr ⟨hlt,Pv (i+1),λσ' H' p'=>⟨n-(i+1),by omega,rfl,hlt,p'⟩,λx H' y=>?_⟩;obtain⟨e,y⟩:=y;subst e y;exact hs i σ _ hlt p
 ·have e:i=n:=by omega
  subst e;exact .inl ⟨Ue _,hd σ H p⟩
abbrev R2:=V->V->Hp->VK->Prop
def ba(X:Cx)(f:Value->Value->Sem Value)(r:R2):Prop :=
 ∀(pins:List (Addr × Obj)) (s:Shared) (σ:St) (H:Hp) (x y:V) (v u:Value) (Q:VK),ai X pins σ H s->aQ x v->aQ y u->r x y H Q ->
  wpAny (model X.prog X.w) X.A (f v u) (EP X pins σ Q) X.xe s
def cw(X:Cx)(f:Value)(r:List V->Hp->VK->Prop):Prop :=
 ∀(pins:List (Addr × Obj)) (s:Shared) (σ:St) (H:Hp) (xs:List V) (us:List Value) (Q:VK),ai X pins σ H s->aL xs us->r xs H Q ->
  wpAny (model X.prog X.w) X.A (call f us) (EP X pins σ Q) X.xe s
def Sm(X:Cx)(r:V->Hp->(Bool->Hp->Prop)->Prop):Prop :=
 ∀(pins:List (Addr × Obj)) (s:Shared) (σ:St) (H:Hp) (x:V) (v:Value) (Q:Bool->Hp->Prop),ai X pins σ H s->aQ x v->r x H Q ->
  wpAny (model X.prog X.w) X.A (truthy v) (TP X pins σ Q) X.xe s
def fE(r:R2)(ta tb:TE):TE:=λσ H Q=>ta σ H λx H1=>tb σ H1 λy H2=>r x y H2 Q
def rI(C:Int->Int->Prop)(g:Int->Int->V):R2:=λx y H Q=>∃i j,x=.int i/\y=.int j/\C i j/\Q (g i j) H
def iA(g:Int->Int->V):R2:=λx y H Q=>∃i j,x=.int i/\y=.int j/\Q (g i j) H
section
variable {X:Cx}{a b c:Expr}{ta tb tc:TE}{pos:Pos}
theorem xG(ha:PE X a ta)(hb:PE X b tb){pins:List (Addr × Obj)}{s:Shared}{σ:St}{H:Hp}{R:V->V->Hp->Prop}(I:ai X pins σ H s)
 (h:ta σ H λx H1=>tb σ H1 λy H2=>R x y H2) {Q:Value->Shared->Prop} {f:Value->Value->Sem Value}
 (hf:∀v u s2 x y H2,ai X pins σ H2 s2->aQ x v->aQ y u->R x y H2->wpAny (model X.prog X.w) X.A (f v u) Q X.xe s2) :
 wpAny (model X.prog X.w) X.A (eval a X.env) (λv s₁=>wpAny (model X.prog X.w) X.A (eval b X.env) (λu s₂=>wpAny (model X.prog X.w) X.A (f v u) Q X.xe s₂) X.xe s₁) X.xe s:=by
 refine aD (ha pins s σ H _ I h) λv s1 ⟨x,H1,I1,r1,q1⟩=>?_;refine aD (hb pins s1 σ H1 _ I1 q1) λu s2 ⟨y,H2,I2,r2,q2⟩=>?_;exact hf v u s2 x y H2 I2 r1 r2 q2
theorem J6{op:Operator}{r:R2}(ho:ba X (binaryOp op) r)(ha:PE X a ta)(hb:PE X b tb):PE X (.BinOp a op b pos) (fE r ta tb):=by
 intro pins s σ H Q I h;exact wpAny_BinOp (xG ha hb I h λv u s2 x y H2 I2 rx ry q=>ho pins s2 σ H2 x y v u Q I2 rx ry q)
theorem ni{f:Value->Value->Sem Value}{C:Int->Int->Prop}{g:Int->Int->Int}
 (rule:∀(i j:Int) (t u:Tok) (s:Shared) (Q:Value->Shared->Prop) (E:Value->Shared->Prop),C i j->Q (.int (g i j) s.toks) { s with toks:=s.toks+1 }->wpAny (model X.prog X.w) X.A (f (.int i t) (.int j u)) Q E s) :
 ba X f (rI C λi j=>.int (g i j)):=by
 intro pins s σ H x y v u Q I rx ry h;obtain⟨i,j,rfl,rfl,hc,q⟩:=h;obtain⟨t,rfl⟩:=rx;obtain⟨t',rfl⟩:=ry;exact rule i j t t' s _ _ hc ⟨.int (g i j),H,I.tok _,⟨_,Z⟩,q⟩
theorem BD{f:Value->Value->Sem Value}{g:Int->Int->Int}
 (rule:∀(i j:Int) (t u:Tok) (s:Shared) (Q:Value->Shared->Prop) (E:Value->Shared->Prop),Q (.int (g i j) s.toks) { s with toks:=s.toks+1 }->wpAny (model X.prog X.w) X.A (f (.int i t) (.int j u)) Q E s) :
 ba X f (iA λi j=>.int (g i j)):=by
 intro pins s σ H x y v u Q I rx ry h;obtain⟨i,j,rfl,rfl,q⟩:=h;obtain⟨t,rfl⟩:=rx;obtain⟨t',rfl⟩:=ry;exact rule i j t t' s _ _ ⟨.int (g i j),H,I.tok _,⟨_,Z⟩,q⟩
theorem pF{f:Value->Value->Sem Value}{g:Int->Int->Bool}
 (rule:∀(i j:Int) (t u:Tok) (s:Shared) (Q:Value->Shared->Prop) (E:Value->Shared->Prop),Q (.bool (g i j)) s->wpAny (model X.prog X.w) X.A (f (.int i t) (.int j u)) Q E s) :
 ba X f (iA λi j=>.bl (g i j)):=by
 intro pins s σ H x y v u Q I rx ry h;obtain⟨i,j,rfl,rfl,q⟩:=h;obtain⟨t,rfl⟩:=rx;obtain⟨t',rfl⟩:=ry;exact rule i j t t' s _ _ ⟨.bl (g i j),H,I,Z,q⟩
def S7(i j:Int):Prop:=0<j/\j<1073741824
def sr(i j:Int):Prop:=(-(2 ^ 64)<i/\i<2 ^ 64)\/(-(2 ^ 64)<j/\j<2 ^ 64)
theorem sr.ok{i j:Int}(h:sr i j):IntMulOk i j:=by
 rcases h with ⟨h1,h2⟩|⟨h1,h2⟩
 ·exact .of_left (intBits_le_64 h1 h2)
 ·exact .of_right (intBits_le_64 h1 h2)
theorem FM(k:Nat):(0:Int)<=2 ^ k:=by
 rw[two_pow_cast];exact Int.natCast_nonneg _
theorem KK:ba X (binaryOp .Add) (iA λi j=>.int (i+j)):=BD λ_ _ _ _ _ _ _ q=>add_int q
theorem Kw:ba X (binaryOp .Sub) (iA λi j=>.int (i-j)):=BD λ_ _ _ _ _ _ _ q=>sub_int q
theorem KC:ba X (binaryOp .Mult) (rI sr λi j=>.int (i*j)):=ni λ_ _ _ _ _ _ _ hc q=>mul_int q hc.ok
theorem KJ:ba X (binaryOp .FloorDiv) (rI S7 λi j=>.int (i/j)):=ni λi j _ _ _ _ _ hc q=>by
 have h1:(0:Int)<j:=hc.1;have h2:j<1073741824:=hc.2;exact floordiv_int (by omega) (by rw[WP i (by omega)];exact q) (.inl (Wd (by omega)))
theorem BB:ba X (binaryOp .Mod) (rI (λ_ j=>0<j) λi j=>.int (i%j)):=ni λi j _ _ _ _ _ hc q=>by
 have h1:(0:Int)<j:=hc;exact mod_int' (by omega) (by rw[Int.fmod_eq_emod_of_nonneg i (by omega)];exact q)
theorem Kx:ba X (binaryOp .RShift) (rI (λ_ j=>0<=j) λi j=>.int (i/2 ^ j.toNat)):=ni λi j _ _ _ _ _ hc q =>
 rshift_int hc (by rw[WP i (FM _)];exact q)
end
def AF:V->V->Bool
 | .non,.non=>true|.non,.int _=>true|.int _,.non=>true|.non,.bl _=>true|.bl _,.non=>true|.non,.str _=>true|.str _,.non=>true
 | .int _,.int _=>true|.bl _,.bl _=>true|.str _,.str _=>true|.byt _,.byt _=>true
 | .int _,.str _=>true|.str _,.int _=>true|.bl _,.str _=>true|.str _,.bl _=>true
 | _,_=>false
def IN:R2:=λx y H Q=>AF x y=true/\Q (.bl (decide (x=y))) H
def IJ:R2:=λx y H Q=>AF x y=true/\Q (.bl (!decide (x=y))) H
theorem Dn{i j:Int}:decide (V.int i=V.int j)=(i == j):=by
 rw[Vf];simp
theorem qL{i j:Bool}:decide (V.bl i=V.bl j)=(i == j):=by
 rw[Vf];simp
theorem Dj{i j:Str}:decide (V.str i=V.str j)=(i == j):=by
 rw[Vf];simp
theorem Do{i j:Array UInt8}:decide (V.byt i=V.byt j)=(i.toList == j.toList):=by
 rw[Vf];cases i;cases j;simp
section
variable {X:Cx}{a b c:Expr}{ta tb tc:TE}{pos:Pos}
theorem cf{pins:List (Addr × Obj)}{σ:St}{H:Hp}{s:Shared}{Q:VK}{k k':Bool}(I:ai X pins σ H s)(q:Q (.bl k) H)(e:k=k'):EP X pins σ Q (.bool k') s:=by
 subst e;exact⟨.bl k,H,I,Z,q⟩
theorem BC:ba X (compareOp .Eq) IN:=by
 intro pins s σ H x y v u Q I rx ry h;obtain⟨hs,q⟩:=h;cases x with
 | non =>
  cases rx;cases y with
  | non=>cases ry;exact PySem.EqNone.eq_none_none (cf I q (by simp))
  | bl j=>cases ry;exact PySem.EqNone.eq_none_bool (cf I q (by simp))
  | int j=>obtain⟨t',rfl⟩:=ry;exact PySem.EqNone.eq_none_int (cf I q (by simp))
  | str j=>obtain⟨t',rfl⟩:=ry;exact PySem.EqNone.eq_none_str (cf I q (by simp))
  | _=>exact absurd (show false=true from hs) Ut
 | bl i =>
  cases rx;cases y with
  | non=>cases ry;exact PySem.EqNone.eq_bool_none (cf I q (by simp))
  | bl j=>cases ry;exact eq_bool (cf I q qL)
  | str j=>obtain⟨t',rfl⟩:=ry;exact PySem.EqMixed.eq_bool_str (cf I q (by simp))
  | _=>exact absurd (show false=true from hs) Ut
 | int i =>
  obtain⟨t,rfl⟩:=rx;cases y with
  | non=>cases ry;exact PySem.EqNone.eq_int_none (cf I q (by simp))
  | int j=>obtain⟨t',rfl⟩:=ry;exact eq_int (cf I q Dn)
  | str j=>obtain⟨t',rfl⟩:=ry;exact PySem.EqMixed.eq_int_str (cf I q (by simp))
  | _=>exact absurd (show false=true from hs) Ut
 | str i =>
  obtain⟨t,rfl⟩:=rx;cases y with
  | non=>cases ry;exact PySem.EqNone.eq_str_none (cf I q (by simp))
  | bl j=>cases ry;exact PySem.EqMixed.eq_str_bool (cf I q (by simp))
  | int j=>obtain⟨t',rfl⟩:=ry;exact PySem.EqMixed.eq_str_int (cf I q (by simp))
  | str j=>obtain⟨t',rfl⟩:=ry;exact eq_str (cf I q Dj)
  | _=>exact absurd (show false=true from hs) Ut
 | byt i =>
  obtain⟨t,rfl⟩:=rx;cases y with
  | byt j=>obtain⟨t',rfl⟩:=ry;exact W.eq_bytes (cf I q Do)
  | _=>exact absurd (show false=true from hs) Ut
 | _=>cases y<;>exact absurd (show false=true from hs) Ut
theorem BA:ba X (compareOp .NotEq) IJ:=by
 intro pins s σ H x y v u Q I rx ry h;obtain⟨hs,q⟩:=h;cases x with
 | non =>
  cases rx;cases y with
  | non=>cases ry;exact PySem.EqNone.ne_none_none (cf I q (by simp))
  | bl j=>cases ry;exact PySem.EqNone.ne_none_bool (cf I q (by simp))
  | int j=>obtain⟨t',rfl⟩:=ry;exact PySem.EqNone.ne_none_int (cf I q (by simp))
  | str j=>obtain⟨t',rfl⟩:=ry;exact PySem.EqNone.ne_none_str (cf I q (by simp))
  | _=>exact absurd (show false=true from hs) Ut
 | bl i =>
  cases rx;cases y with
  | non=>cases ry;exact PySem.EqNone.ne_bool_none (cf I q (by simp))
  | bl j=>cases ry;exact ne_bool (cf I q (congrArg not qL))
  | str j=>obtain⟨t',rfl⟩:=ry;exact PySem.EqMixed.ne_bool_str (cf I q (by simp))
  | _=>exact absurd (show false=true from hs) Ut
 | int i =>
  obtain⟨t,rfl⟩:=rx;cases y with
  | non=>cases ry;exact PySem.EqNone.ne_int_none (cf I q (by simp))
  | int j=>obtain⟨t',rfl⟩:=ry;exact ne_int (cf I q (congrArg not Dn))
  | str j=>obtain⟨t',rfl⟩:=ry;exact PySem.EqMixed.ne_int_str (cf I q (by simp))
  | _=>exact absurd (show false=true from hs) Ut
 | str i =>
  obtain⟨t,rfl⟩:=rx;cases y with
  | non=>cases ry;exact PySem.EqNone.ne_str_none (cf I q (by simp))
  | bl j=>cases ry;exact PySem.EqMixed.ne_str_bool (cf I q (by simp))
  | int j=>obtain⟨t',rfl⟩:=ry;exact PySem.EqMixed.ne_str_int (cf I q (by simp))
  | str j=>obtain⟨t',rfl⟩:=ry;exact ne_str (cf I q (congrArg not Dj))
  | _=>exact absurd (show false=true from hs) Ut
 | byt i =>
  obtain⟨t,rfl⟩:=rx;cases y with
  | byt j=>obtain⟨t',rfl⟩:=ry;exact W.ne_bytes (cf I q (congrArg not Do))
  | _=>exact absurd (show false=true from hs) Ut
 | _=>cases y<;>exact absurd (show false=true from hs) Ut
theorem KD:ba X (compareOp .Lt) (iA λi j=>.bl (decide (i<j))):=pF λ_ _ _ _ _ _ _ q=>lt_int q
theorem KE:ba X (compareOp .LtE) (iA λi j=>.bl (decide (i<=j))):=pF λ_ _ _ _ _ _ _ q=>le_int q
theorem KH:ba X (compareOp .Gt) (iA λi j=>.bl (decide (j<i))):=pF λ_ _ _ _ _ _ _ q=>gt_int q
theorem KI:ba X (compareOp .GtE) (iA λi j=>.bl (decide (j<=i))):=pF λ_ _ _ _ _ _ _ q=>ge_int q
theorem KF:ba X (compareOp .Is) (λx y H Q=>y=.non/\Q (.bl (decide (x=.non))) H):=by
 intro pins s σ H x y v u Q I rx ry h;obtain⟨rfl,q⟩:=h;cases ry;refine is_none_gen (cf I q ?_);cases x<;>first
  | (cases rx;rfl)
  | (obtain⟨t,rfl⟩:=rx;rfl)
theorem KA:ba X (compareOp .IsNot) (λx y H Q=>y=.non/\Q (.bl (!decide (x=.non))) H):=by
 intro pins s σ H x y v u Q I rx ry h;obtain⟨rfl,q⟩:=h;cases ry;refine isnot_none_gen (cf I q ?_);cases x<;>first
  | (cases rx;rfl)
  | (obtain⟨t,rfl⟩:=rx;rfl)
theorem ar(b:Expr){op:CmpOp}(h:op ≠ .In:=by decide)(h2:op ≠ .NotIn:=by decide):behindInMarks op b=false:=by
 have e1:(op == CmpOp.In)=false:=by cases op<;>first|rfl|exact absurd rfl h
 have e2:(op == CmpOp.NotIn)=false:=by cases op<;>first|rfl|exact absurd rfl h2
 cases b<;>simp[behindInMarks,e1,e2]
theorem Kk{op:CmpOp}{r:R2}(ho:ba X (compareOp op) r)(ha:PE X a ta)(hb:PE X b tb)(hm:behindInMarks op b=false):PE X (.Compare a [op] [b] pos) (fE r ta tb):=by
 intro pins s σ H Q I h;exact wpAny_Compare1 (xG ha hb I h λv u s2 x y H2 I2 rx ry q=>ho pins s2 σ H2 x y v u Q I2 rx ry q) hm
def Sl(K:W.Frag)(x:V)(H:Hp)(k:Bool):Prop :=
 match x with
 | .non=>k=false
 | .bl b=>k=b
 | .int i=>k=(i != 0)
 | .str y=>y.length<=sizeLine/\k=((y.length:Int) != 0)
 | .byt y=>y.size<=sizeLine/\k=((y.size:Int) != 0)
 | .ref p=>(∃xs,aF K H p xs/\k = !xs.isEmpty)\/(∃xs,bo K H p xs/\k = !xs.isEmpty)\/∃kvs,H p=some (.dK kvs)/\k = !kvs.isEmpty
 | _=>False
theorem MH{κ:Type}{kvs:List (κ × V)}{vs:List (κ × Value)}(r:KV kvs vs):(!vs.isEmpty) = !kvs.isEmpty:=by
 cases r<;>rfl
theorem Ca{xs:List V}{its:List Value}(r:aL xs its):(!its.toArray.isEmpty) = !xs.isEmpty:=by
 cases r<;>simp
theorem pS:(sizeLine:Nat)<2 ^ 63:=by rw[sizeLine_eq];decide
theorem mS:Sm X (λx H Q=>∃k,Sl X.K x H k/\Q k H):=by
 intro pins s σ H x v Q I rx h;obtain⟨k,e,q⟩:=h;have hl:=pS;have hs:sizeLine=16777216:=sizeLine_eq;cases x with
 | non =>
  cases rx;have e':k=false:=e;subst e';exact truthy_none ⟨H,I,q⟩
 | bl b =>
  cases rx;have e':k=b:=e;subst e';exact wpAny_truthy_bool ⟨H,I,q⟩
 | int i =>
  obtain⟨t,rfl⟩:=rx;have e':k=(i != 0):=e;subst e';exact PySem.P.truthy_int ⟨H,I,q⟩
 | str y =>
  obtain⟨t,rfl⟩:=rx;obtain⟨hy,e'⟩:y.length<=sizeLine/\k=((y.length:Int) != 0):=e;subst e';exact PySem.P.truthy_str (by omega) ⟨H,I.tok _,q⟩
 | byt y =>
  obtain⟨t,rfl⟩:=rx;obtain⟨hy,e'⟩:y.size<=sizeLine/\k=((y.size:Int) != 0):=e;subst e';exact W.truthy_bytes (by omega) ⟨H,I.tok _,q⟩
 | ref p =>
  cases rx;have e':(∃xs,aF X.K H p xs/\k = !xs.isEmpty)\/(∃xs,bo X.K H p xs/\k = !xs.isEmpty)\/∃kvs,H p=some (.dK kvs)/\k = !kvs.isEmpty:=e;rcases e' with ⟨xs,hx,e'⟩|⟨xs,hx,e'⟩|⟨kvs,hx,e'⟩
  ·subst e';obtain⟨its,r,pl,hz⟩:=I.list hx;have hlen:=r.length;exact wpAny_truthy_list pl.isList (by simp only [Um];omega) ⟨H,I.tok _,by rw[Ca r];exact q⟩
  ·subst e';obtain⟨its,r,pl,hz⟩:=I.tuple hx;have hlen:=r.length;exact truthy_tuple pl (by simp only [Um];omega) ⟨H,I.tok _,by rw[Ca r];exact q⟩
  ·subst e';obtain⟨hz,hS,vs,r,m⟩:kvs.length<=sizeLine/\(p == sysModules)=false/\∃vs,KV kvs vs/\s.heap.DictOf (cK X.prog X.w) p vs:=I.hok p _ hx;have hlen:kvs.length=vs.length:=Paired.length r;exact wpAny_truthy_dict hS m (by omega) ⟨H,I.tok _,by rw[MH r];exact q⟩
 | _=>exact (show False from e).elim
theorem iw{x:V}{us:List Value}(r:aL [x] us):∃u,us=[u]/\aQ x u:=by
 cases r with
 | cons r1 r2=>cases r2;exact⟨_,Z,r1⟩
theorem zt{x y:V}{us:List Value}(r:aL [x,y] us):∃u w',us=[u,w']/\aQ x u/\aQ y w':=by
 cases r with
 | cons r1 r2 =>
  cases r2 with
  | cons r3 r4=>cases r4;exact⟨_,_,Z,r1,r3⟩
theorem Qi:cw X (.type "int") (λxs H Q=>(∃i,xs=[.int i]/\Q (.int i) H)\/∃k,xs=[.bl k]/\Q (.int (if k then 1 else 0)) H):=by
 intro pins s σ H xs us Q I r h;rcases h with ⟨i,rfl,q⟩|⟨k,rfl,q⟩
 ·obtain⟨u,rfl,t,rfl⟩:=iw r;exact call_int_int ⟨.int i,H,I,⟨_,Z⟩,q⟩
 ·obtain⟨u,rfl,r1⟩:=iw r;cases r1;exact call_int_bool ⟨.int (if k then 1 else 0),H,I.tok _,⟨_,Z⟩,q⟩
end
structure jP (h:Heap) (x dx C:Addr) (mA:Str->Option Value):Prop where
 obj:h.get? x=some (W.instObj C dx)
 ns:h.Ns1 dx mA
 ne:dx≠x
theorem Me{h:Heap}{dx:Addr}{mA:Str->Option Value}(n:h.Ns1 dx mA):∃od,h.get? dx=some od/\∀name,W.lookIn name od=some (mA name):=by
 obtain⟨o,es,ep,ho,hd,hk,_,hm⟩:=n;refine⟨o,ho,λname=>?_⟩;have e:=hm name;unfold nsFind findBy at e;rw[<- Array.find?_toList]at e;unfold W.lookIn;rw[hd];dsimp only
 split
 ·rename_i y q;rw[q]at e;exact congrArg some e
 ·rename_i q;rw[q]at e;have a:es.toList.any (·.refKey)=false:=by
   rw[List.any_eq_false];intro y hy;obtain⟨z,t,hkey⟩:=hk y (W0.mp hy);simp[DictEntry.refKey,hkey]
  have a':¬es.toList.any (·.refKey)=true:=by rw[a];exact Ut
  rw[if_neg a'];exact congrArg some e
theorem jP.look{h:Heap}{x dx C:Addr}{mA:Str->Option Value}(I:jP h x dx C mA):∃od,W.InstAt h x (W.instObj C dx) C (some od)/\∀name,W.lookIn name od=some (mA name) :=
 let ⟨od,ho,hl⟩:=Me I.ns
 ⟨od,⟨I.obj,rfl,rfl,ho⟩,hl⟩
section
variable {prog:Program}{w:World}{A:Around}{E:Value->Shared->Prop}{s:Shared}{K:W.Frag}{x dx C f:Addr}{mA:Str->Option Value}{name:Str}{v:Value}
theorem N8{expr:Bool}{Q:Value->Shared->Prop}(X:K.In s.heap)(I:jP s.heap x dx C mA)(hg:W.plainGet K C name=true)(hh:W.hasDictIn K C=true)
 (ha:W.findIn K (.ref C) name=some none) (hv:mA name=some v) (hv':W.handedIn v=true) (h:Q v { s with toks:=s.toks+1 }) :
 wpAny (model prog w) A (getAttr (.ref x) name expr) Q E s:=by
 obtain⟨od,J,hl⟩:=I.look;exact W.get_value X J (W.plainGet_of hg).1 (W.findObj_own hh ha rfl (by rw[hl,hv])) hv' h
theorem N7{pl:Sem Bool}{Q:Value × List Value->Shared->Prop}(X:K.In s.heap)(I:jP s.heap x dx C mA)(hg:W.plainGet K C name=true)
 (hf:W.findIn K (.ref C) name=some (some (.ref f))) (ht:W.isFn K (.ref f)=true) (hv:mA name=none) (h:Q (.ref f,[.ref x]) s) :
 wpAny (model prog w) A (getMethod (.ref x) name pl) Q E s:=by
 obtain⟨od,J,hl⟩:=I.look;exact W.method_fn X J (W.plainGet_of hg).1 (W.plainGet_of hg).2 hf (beq_iff_eq.mp ht) (by show (W.lookIn name od).map (·.isSome)=some false;rw[hl,hv];rfl) h
theorem Hk{ns:List Str}{Q:Unit->Shared->Prop}(X:K.In s.heap)(I:jP s.heap x dx C mA)
 (hs:W.findIn K (.ref C) "__setattr__" = some (some (.builtin "object.__setattr__"))) (hp:W.plainOver K C=true) (ht:W.takerIn K C name=some none) (hh:W.hasDictIn K C=true)
 (hw:PySem.Within mA ns) (hsz:ns.length<=sizeLine)
 (h:∀h',jP h' x dx C (λy=>if y=name then some v else mA y)->Heap.SameBut dx s.heap h'->Q () { s with heap:=h',toks:=s.toks+2 }) :
 wpAny (model prog w) A (setAttr (.ref x) name v) Q E s:=by
 obtain⟨od,J,hl⟩:=I.look;refine W.set_plain X J hs (W.osa_open (s:={ s with toks:=s.toks+1 }) (r:=none) X J hp ht λb=>?_);obtain⟨cd,hc,hd'⟩:=W.any_some hh;have hx:s.heap.get? x=some ⟨.ref C,some dx,.plain,#[]⟩:=I.obj;refine wpAny_bind (wpAny_pure (wpAny_bind (wpAny_bind (wpAny_loadPart hx (wpAny_bind (W.Looks.here (s:={ s with toks:=s.toks+1 }) (W.looks_clsIn X hc) ?_))))));rw[hd'];refine wpAny_pure (a:=some dx) (wpAny_bind (wpAny_pure (wpAny_bind ?_)));refine wpAny_nsSet1 (s:={ s with toks:=s.toks+1 }) I.ns λh' hn2 hs2=>?_;obtain⟨oD,esD,epD,hoD,hdD,hcD⟩:=hn2.count (PySem.Within.cons name v hw);refine wpAny_bind (wpAny_lookBehind hoD (by rw[hdD];exact pastItsLine_dict (UE hcD (by rw[UB];omega))) ?_);exact wpAny_pure (h _ ⟨(hs2.2 _ (Ne.symm I.ne)).trans I.obj,hn2,I.ne⟩ hs2)
theorem Ma{R:Result->Shared->Prop}{vs:List Value}{kw:List (Str × Value)}(X:K.In s.heap)(hm:W.makesIn K C=true)
 (hi:W.findIn K (.ref C) "__init__" = some (some (.ref f))) (hf:W.typeIn K (.ref f)=some (.type "function"))
 (h:codeAny (model prog w) (A.under (.builtin "type.__call__" ⟨.ref C::vs,kw⟩)) (.call (.ref f) ⟨.ref (s.heap.objs.size+1)::vs,kw⟩) (W.InitBack (s.heap.objs.size+1) R)
   { s with heap:=(s.heap.push W.emptyDict).push (W.instObj C s.heap.objs.size) }) :
 codeAny (model prog w) A (.call (.ref C) ⟨vs,kw⟩) R s:=by
 obtain⟨hh,g,d,t,os⟩:=s;exact W.make_core (W.makes_of X hm) (W.looks_findIn X hi) (λself=>W.bind_fn X self hf) (.inl Z) h
theorem L9{R:Result->Shared->Prop}(X:K.In s.heap)(hm:W.makesIn K C=true)
 (hi:W.findIn K (.ref C) "__init__" = some (some (.builtin "object.__init__")))
 (hb:∀self,W.Looks (model prog w) s.heap (bindSpecial (.builtin "object.__init__") self) (.builtin "object.__init__",[self]))
 (h:codeAny (model prog w) (A.under (.builtin "type.__call__" ⟨[.ref C],[]⟩)) (.call (.builtin "object.__init__") ⟨[.ref (s.heap.objs.size+1)],[]⟩) (W.InitBack (s.heap.objs.size+1) R)
   { s with heap:=(s.heap.push W.emptyDict).push (W.instObj C s.heap.objs.size) }) :
 codeAny (model prog w) A (.call (.ref C) ⟨[],[]⟩) R s:=by
 obtain⟨hh,g,d,t,os⟩:=s;exact W.make_core (W.makes_of X hm) (W.looks_findIn X hi) hb (.inr ⟨rfl,rfl⟩) h
end
def cI(f:Str)(v:V):List (Str × V)->List (Str × V)
 | []=>[(f,v)]
 | (g,x)::r=>if g=f then (g,v)::r else (g,x)::cI f v r
theorem BV(f g:Str)(v:V):∀fs:List (Str × V),(cI f v fs).lookup g=if g=f then some v else fs.lookup g
 | []=>by
  show List.lookup g [(f,v)]=_;by_cases h:g=f
  ·have hb:(g == f)=true:=beq_iff_eq.mpr h;simp only [List.lookup,hb,if_pos h]
  ·have hb:(g == f)=false:=beq_eq_false_iff_ne.mpr h;simp only [List.lookup,hb,if_neg h]
 | (k,x)::r=>by
  have ih:=BV f g v r;rw[show cI f v ((k,x)::r)=(if k=f then (k,v)::r else (k,x)::cI f v r) from rfl];by_cases hk:k=f
  ·rw[if_pos hk];by_cases h:g=k
   ·have hb:(g == k)=true:=beq_iff_eq.mpr h;simp only [List.lookup,hb,if_pos (h.trans hk)]
   ·have hb:(g == k)=false:=beq_eq_false_iff_ne.mpr h;simp only [List.lookup,hb,if_neg (λe:g=f=>h (e.trans hk.symm))]
  ·rw[if_neg hk];by_cases h:g=k
   ·have hb:(g == k)=true:=beq_iff_eq.mpr h;simp only [List.lookup,hb,if_neg (λe:g=f=>hk (h.symm.trans e))]
   ·have hb:(g == k)=false:=beq_eq_false_iff_ne.mpr h;simp only [List.lookup,hb];exact ih
theorem tU(f:Str)(v:V):∀fs:List (Str × V),f∈(cI f v fs).map (·.1)/\∀g,g∈fs.map (·.1)->g∈(cI f v fs).map (·.1)
 | []=>⟨by simp[cI],λg h=>by simp at h⟩
 | (k,x)::r=>by
  obtain⟨i1,i2⟩:=tU f v r;rw[show cI f v ((k,x)::r)=(if k=f then (k,v)::r else (k,x)::cI f v r) from rfl];by_cases hk:k=f
  ·rw[if_pos hk];subst hk;exact⟨by simp,λg h=>by simpa using h⟩
  ·rw[if_neg hk];refine⟨?_,λg h=>?_⟩
   ·rw[UM];exact Uw _ i1
   ·rw[UM]at h ⊢;rcases Uy.mp h with e|e
    ·exact Uy.mpr (.inl e)
    ·exact Uw _ (i2 g e)
theorem B0(f:Str)(v:V):∀fs:List (Str × V),(cI f v fs).length<=fs.length+1
 | []=>by simp[cI]
 | (k,x)::r=>by
  have ih:=B0 f v r;rw[show cI f v ((k,x)::r)=(if k=f then (k,v)::r else (k,x)::cI f v r) from rfl];by_cases hk:k=f
  ·rw[if_pos hk,UB,UB];omega
  ·rw[if_neg hk,UB,UB];omega
theorem eh.some_of{v:V}{o:Option Value}(r:eh (some v) o):∃u,o=some u/\aQ v u:=by
 cases o with
 | none=>exact (show False from r).elim
 | some u=>exact⟨u,rfl,r⟩
theorem eh.none_of{o:Option Value}(r:eh none o):o=none:=by
 cases o with
 | none=>rfl
 | some u=>exact (show False from r).elim
theorem M9{v:V}{u:Value}(r:aQ v u):W.handedIn u=true:=by
 cases v with
 | non=>cases (show u=Value.none from r);rfl
 | bl b=>cases (show u=Value.bool b from r);rfl
 | int i=>obtain⟨t,e⟩:=(show ∃t,u=Value.int i t from r);cases e;rfl
 | str x=>obtain⟨t,e⟩:=(show ∃t,u=Value.str x t from r);cases e;rfl
 | byt b=>obtain⟨t,e⟩:=(show ∃t,u=Value.bytes b t from r);cases e;rfl
 | flt b=>obtain⟨t,e⟩:=(show ∃t,u=Value.float b t from r);cases e;rfl
 | ref a=>cases (show u=Value.ref a from r);rfl
 | ty n=>cases (show u=Value.type n from r);rfl
section
variable {P:Program}{w:World}{H H':Hp}{h h':Heap}{a C dx:Addr}{fs fs':List (Str × V)}
theorem qd(hok:bQ P w H h)(e:H a=some (.ins C dx fs)):∃mA,jP h a dx C mA/\(∀f,eh (fs.lookup f) (mA f))/\PySem.Within mA (fs.map (·.1))/\fs.length<=1000/\H dx=some (.own a):=by
 obtain⟨d,z,ne,ob,mA,n,r,q⟩:=(show cg P w H h a (.ins C dx fs) from hok a _ e);exact⟨mA,⟨ob,n,ne⟩,r,q,z,d⟩
end
structure dG (K:W.Frag) (C:Addr):Prop where
 pg:W.plainGet K C Str.empty=true
 hd:W.hasDictIn K C=true
 po:W.plainOver K C=true
 sa:W.findIn K (.ref C) "__setattr__" = some (some (.builtin "object.__setattr__"))
theorem dG.get{K:W.Frag}{C:Addr}(c:dG K C)(f:Str):W.plainGet K C f=true:=c.pg
def dn(K:W.Frag)(C:Addr)(f:Str):Prop:=W.findIn K (.ref C) f=some none
theorem dn.taker{K:W.Frag}{C:Addr}{f:Str}(n:dn K C f):W.takerIn K C f=some none:=by
 unfold W.takerIn;rw[show W.findIn K (.ref C) f=some none from n]
 rfl
structure T0 (K:W.Frag) (C:Addr) (f:Str) (v:V) (u:Value):Prop where
 at_:W.findIn K (.ref C) f=some (some u)
 rel:aQ v u
 get:W.specialIn K u "__get__" = some none
 cp:W.copiedNames.contains f=false
structure bw (K:W.Frag) (C:Addr) (m:Str) (f:Addr):Prop where
 at_:W.findIn K (.ref C) m=some (some (.ref f))
 fn:W.isFn K (.ref f)=true
 kp:W.keepIn K (.ref f)=true
section
variable {X:Cx}{pins:List (Addr × Obj)}{σ:St}{H:Hp}{s:Shared}{a C dx:Addr}{fs:List (Str × V)}{f:Str}{v:V}{A:Around}{E:Value->Shared->Prop}
theorem CS{b:Bool}{Q:Value->Shared->Prop}(I:ai X pins σ H s)(e:H a=some (.ins C dx fs))(c:dG X.K C)(n:dn X.K C f)(l:fs.lookup f=some v)
 (h:∀u s',ai X pins σ H s'->aQ v u->Q u s'):wpAny (model X.prog X.w) A (getAttr (.ref a) f b) Q E s:=by
 obtain⟨mA,O,r,_,_,_⟩:=qd I.hok e;obtain⟨u,hu,ru⟩:=eh.some_of (v:=v) (o:=mA f) (by rw[<- l];exact r f);exact N8 I.kIn O (c.get f) c.hd n hu (M9 ru) (h u _ (I.tok _) ru)
theorem CQ{m:Str}{g:Addr}{pl:Sem Bool}{Q:Value × List Value->Shared->Prop}(I:ai X pins σ H s)(e:H a=some (.ins C dx fs))(c:dG X.K C)(k:bw X.K C m g)(l:fs.lookup m=none)
 (h:Q (.ref g,[.ref a]) s):wpAny (model X.prog X.w) A (getMethod (.ref a) m pl) Q E s:=by
 obtain⟨mA,O,r,_,_,_⟩:=qd I.hok e;have hn:mA m=none:=eh.none_of (by rw[<- l];exact r m);exact N7 I.kIn O (c.get m) k.at_ k.fn hn h
theorem AC{y:V}{u:Value}{Q:Unit->Shared->Prop}(I:ai X pins σ H s)(e:H a=some (.ins C dx fs))(c:dG X.K C)(n:dn X.K C f)(hl:fs.length<1000)(ry:aQ y u)
 (h:∀s',ai X pins σ (upd H a (.ins C dx (cI f y fs))) s'->Q () s'):wpAny (model X.prog X.w) A (setAttr (.ref a) f u) Q E s:=by
 obtain⟨mA,O,r,wi,_,ho⟩:=qd I.hok e;have hz:(fs.map (·.1)).length<=sizeLine:=by rw[Uc,sizeLine_eq];omega
 refine Hk I.kIn O c.sa c.po n.taker c.hd wi hz λh' O' sb=>h _ ?_;have hd:∃o,h'.get? dx=some o:=let ⟨o,_,_,e',_⟩:=O'.ns;⟨o,e'⟩
 refine I.write (x:=a) (e:=dx) (by rw[e];exact True.intro) (.inr ho) (λb q hb z=>(sb.2 b hb).trans z) hd ?_;refine⟨by rw[az O.ne];exact ho,?_,O.ne,O'.obj,_,O'.ns,λg=>?_,λg hg=>?_⟩
 ·have:=B0 f y fs;omega
 ·show eh ((cI f y fs).lookup g) (if g=f then some u else mA g);rw[BV];by_cases q:g=f
  ·rw[if_pos q,if_pos q];exact ry
  ·rw[if_neg q,if_neg q];exact r g
 ·by_cases q:g=f
  ·rw[q];exact (tU f y fs).1
  ·refine (tU f y fs).2 g (wi g λz=>hg ?_);show (if g=f then some u else mA g)=none;rw[if_neg q];exact z
theorem ai.made(I:ai X pins σ H s):ai X pins σ (upd (upd H s.heap.objs.size (.own (s.heap.objs.size+1))) (s.heap.objs.size+1) (.ins C s.heap.objs.size []))
 { s with heap:=(s.heap.push W.emptyDict).push (W.instObj C s.heap.objs.size) }:=by
 have e1:(s.heap.push W.emptyDict).get? s.heap.objs.size=some W.emptyDict:=UG s.heap rfl;have e2:((s.heap.push W.emptyDict).push (W.instObj C s.heap.objs.size)).get? (s.heap.objs.size+1)=some (W.instObj C s.heap.objs.size):=by
  have:=UG (s.heap.push W.emptyDict) (o:=W.instObj C s.heap.objs.size) rfl
  rwa [Vg]at this
 have e3:(s.heap.push W.emptyDict).Ns s.heap.objs.size (λ_=>none):=⟨W.emptyDict,#[],_,e1,rfl,(λe he=>absurd he (by simp)),λ_=>rfl⟩;have I1:=I.laid (a:=s.heap.objs.size) (o:=.own (s.heap.objs.size+1)) (h':=s.heap.push W.emptyDict) (t':=s.toks) (λb u q=>Uj _ q) (Ue _) ⟨_,e1⟩;refine I1.laid (a:=s.heap.objs.size+1) (o:=.ins C s.heap.objs.size []) (t':=s.toks) (λb u q=>Uj _ q) (Vt (Vg _ _)) ?_;have ne:s.heap.objs.size≠s.heap.objs.size+1:=Uo (Uz _);refine⟨by rw[az ne,bc],Ux _,ne,e2,λ_=>none,(Heap.Ns1.of_empty e3).at λo q=>Uj _ q,λ_=>True.intro,λy hy=>absurd rfl hy⟩
theorem Sh{prog:Program}{w:World}{env:Env}{e:Expr}{f:Str}{pos:Pos}{s:Shared}{Q:Value->Shared->Prop}(hb:attributeBase e f env (eval e env)=eval e env)
 (h:wpAny (model prog w) A (eval e env) (λo s₁=>wpAny (model prog w) A (getAttr o f true) Q E s₁) E s):wpAny (model prog w) A (eval (.Attribute e f pos) env) Q E s :=
 Attribute_any_ h (by rw[arm_eval_Attribute,hb])
end
def zU(K:W.Frag)(ta:TE)(f:Str):TE:=λσ H Q=>ta σ H λx H1=>∃a C dx fs v,x=.ref a/\H1 a=some (.ins C dx fs)/\dG K C/\dn K C f/\fs.lookup f=some v/\Q v H1
def AV(K:W.Frag)(ta tv:TE)(f:Str):TS:=λD σ H=>tv σ H λy H1=>ta σ H1 λx H2=>∃a C dx fs,x=.ref a/\H2 a=some (.ins C dx fs)/\dG K C/\dn K C f/\fs.length<1000 /\
 D.nx σ (upd H2 a (.ins C dx (cI f y fs)))
def D9(X:Cx)(op:Operator)(rd:V->V->Hp->VK->Prop):Prop :=
 ∀(pins:List (Addr × Obj)) (s:Shared) (σ:St) (H:Hp) (x y:V) (u v:Value) (Q:VK),ai X pins σ H s->aQ x u->aQ y v->rd x y H Q->wpAny (model X.prog X.w) X.A (inplaceOp op u v) (EP X pins σ Q) X.xe s
def AU(K:W.Frag)(ta tv:TE)(rd:V->V->Hp->VK->Prop)(f:Str):TS:=λD σ H=>ta σ H λx H1=>∃a C dx fs v,x=.ref a/\H1 a=some (.ins C dx fs)/\dG K C/\dn K C f/\fs.lookup f=some v /\
 tv σ H1 λy H2=>rd v y H2 λz H3=>∃dx' fs',H3 a=some (.ins C dx' fs')/\fs'.length<1000/\D.nx σ (upd H3 a (.ins C dx' (cI f z fs')))
section
variable {X:Cx}{o e value:Expr}{f:Str}{pos pos' tpos:Pos}{ta tv:TE}
theorem Kc(he:PE X e ta)(hb:attributeBase e f X.env (eval e X.env)=eval e X.env):PE X (.Attribute e f pos) (zU X.K ta f):=by
 intro pins s σ H Q I h;refine Sh hb (aD (he pins s σ H _ I h) λu s1 ⟨x,H1,I1,rx,a,C,dx,fs,v,ex,ea,c,n,l,q⟩=>?_);subst ex;obtain rfl:u=Value.ref a:=rx;exact CS I1 ea c n l λu' s2 I2 ru=>⟨v,H1,I2,ru,q⟩
theorem JB(ha:PE X o ta)(hv:PE X value tv)(hs:swapsWith value (some (.Attribute o f pos')) pos.line X.env=pure false):PS X (.Assign [.Attribute o f pos'] value pos) (AV X.K ta tv f):=by
 intro pins s σ H D I h;refine plainObj_wpAny_Assign_Attribute (aD (hv pins s σ H _ I h) λu s1 ⟨y,H1,I1,ry,q⟩=>aD (ha pins s1 σ H1 _ I1 q) λov s2 ⟨x,H2,I2,rx,a,C,dx,fs,ex,ea,c,n,l,q2⟩=>?_) hs;subst ex;obtain rfl:ov=Value.ref a:=rx;exact AC I2 ea c n l ry λs3 I3=>⟨σ,_,I3,q2⟩
theorem JA{op:Operator}{rd:V->V->Hp->VK->Prop}(ha:PE X o ta)(hv:PE X value tv)(hop:D9 X op rd):PS X (.AugAssign (.Attribute o f tpos) op value pos) (AU X.K ta tv rd f):=by
 intro pins s σ H D I h;refine wpAny_AugAssign_AttributeAny (aD (ha pins s σ H _ I h) λov s1 ⟨x,H1,I1,rx,a,C,dx,fs,v,ex,ea,c,n,l,q⟩=>?_);subst ex;obtain rfl:ov=Value.ref a:=rx;refine CS I1 ea c n l λu s2 I2 ru=>aD (hv pins s2 σ H1 _ I2 q) λw3 s3 ⟨y,H2,I3,ry,q3⟩=>aD (hop pins s3 σ H2 v y u w3 _ I3 ru ry q3) λw4 s4 ⟨z,H3,I4,rz,dx',fs',ea',l',q4⟩=>?_;exact AC I4 ea' c n l' rz λs5 I5=>⟨σ,_,I5,q4⟩
def Bb:V->V->Hp->VK->Prop:=λx y H Q=>∃i j,x=.int i/\y=.int j/\Q (.int (i+j)) H
theorem MR:D9 X .Add Bb:=by
 rintro pins s σ H x y u v Q I rx ry ⟨i,j,rfl,rfl,q⟩;obtain⟨t,rfl⟩:=(show ∃t,u=Value.int i t from rx);obtain⟨t',rfl⟩:=(show ∃t',v=Value.int j t' from ry);exact PyProof.Rows.iadd_int ⟨.int (i+j),H,I.tok _,⟨_,Z⟩,q⟩
end
section
variable {X:Cx}{pins:List (Addr × Obj)}{σ:St}{H:Hp}{s:Shared}{A:Around}{E:Value->Shared->Prop}{Q:Value->Shared->Prop}{c:Value}{b:Bool}
inductive c7 (K:W.Frag) (H:Hp):V->Value->Prop where
 | non:c7 K H .non (.type "NoneType")
 | bl (x:Bool):c7 K H (.bl x) (.type "bool")
 | int (i:Int):c7 K H (.int i) (.type "int")
 | str (x:Str):c7 K H (.str x) (.type "str")
 | flt (x:UInt64):c7 K H (.flt x) (.type "float")
 | lst {a:Addr} {xs:List V} (e:H a=some (.lst xs)):c7 K H (.ref a) (.type "list")
 | frz {a:Addr} {o:Obj} {xs:List V} (e:H a=some (.frz o (.lst xs))):c7 K H (.ref a) (.type "list")
 | tup {a:Addr} {xs:List V} (e:H a=some (.tup xs)):c7 K H (.ref a) (.type "tuple")
 | dK {a:Addr} {kvs:List (aR × V)} (e:H a=some (.dK kvs)):c7 K H (.ref a) (.type "dict")
 | dT {a:Addr} {kvs:List (List aR × V)} (e:H a=some (.dT kvs)):c7 K H (.ref a) (.type "dict")
 | ins {a C dx:Addr} {fs:List (Str × V)} (e:H a=some (.ins C dx fs)) (cl:dG K C) (ha:W.findIn K (.ref C) "__class__" = some (some (.builtin "object.__class__")))
  (hn:W.specialIn K (.builtin "object.__class__") "__get__" = some (some (.builtin "getset_descriptor.__get__"))) (htk:W.takesIn K (.builtin "object.__class__")=some true)
  (hm:W.mroIn K C (.type "object")=some true):c7 K H (.ref a) (.ref C)
theorem B8{x:V}{u t:Value}(I:ai X pins σ H s)(rx:aQ x u)(ty:c7 X.K H x t)(e:W.kitOne X.K t c=some b)(h:∀tk,Q (.bool b) { s with toks:=tk }) :
 wpAny (model X.prog X.w) A (call (.builtin "isinstance") [u,c]) Q E s:=by
 cases ty with
 | non=>cases (show u=Value.none from rx);exact W.kia_one W.kitx_none I.kIn True.intro e (λz=>nomatch z) h
 | bl y=>cases (show u=Value.bool y from rx);exact W.kia_one W.kitx_bool I.kIn True.intro e (λz=>nomatch z) h
 | int i=>obtain⟨t,q⟩:=(show ∃t,u=Value.int i t from rx);cases q;exact W.kia_one W.kitx_int I.kIn True.intro e (λz=>nomatch z) h
 | str y=>obtain⟨t,q⟩:=(show ∃t,u=Value.str y t from rx);cases q;exact W.kia_one W.kitx_str I.kIn True.intro e (λz=>nomatch z) h
 | flt y=>obtain⟨t,q⟩:=(show ∃t,u=Value.float y t from rx);cases q;exact W.kia_one W.kitx_float I.kIn True.intro e (λz=>nomatch z) h
 | @lst a xs ea =>
  cases (show u=Value.ref a from rx);obtain⟨_,_,n,_,h1⟩:=(show cg X.prog X.w H s.heap a (.lst xs) from I.hok a _ ea);exact W.kia_one W.kitx_list I.kIn ⟨_,h1,rfl⟩ e (λz=>nomatch z) h
 | @frz a ob xs ea =>
  cases (show u=Value.ref a from rx);obtain⟨_,_,_,n,_,h1⟩:=(show cg X.prog X.w H s.heap a (.frz ob (.lst xs)) from I.hok a _ ea);exact W.kia_one W.kitx_list I.kIn ⟨_,h1,rfl⟩ e (λz=>nomatch z) h
 | @tup a xs ea =>
  cases (show u=Value.ref a from rx);obtain⟨_,_,_,p⟩:=(show cg X.prog X.w H s.heap a (.tup xs) from I.hok a _ ea);obtain⟨o,h1,h2,_⟩:=p;exact W.kia_one W.kitx_tuple I.kIn ⟨o,h1,h2⟩ e (λz=>nomatch z) h
 | @dK a kvs ea =>
  cases (show u=Value.ref a from rx);obtain⟨_,_,vs,_,p⟩:=(show cg X.prog X.w H s.heap a (.dK kvs) from I.hok a _ ea);obtain⟨o,es,ep,h1,h2,_⟩:=p;exact W.kia_one W.kitx_dict I.kIn ⟨o,h1,h2.1⟩ e (λz=>nomatch z) h
 | @dT a kvs ea =>
  cases (show u=Value.ref a from rx);obtain⟨_,_,xs,_,o,es,ep,h1,h2,_⟩:=(show cg X.prog X.w H s.heap a (.dT kvs) from I.hok a _ ea);exact W.kia_one W.kitx_dict I.kIn ⟨o,h1,h2.1⟩ e (λz=>nomatch z) h
 | @ins a C dx fs ea cl ha hn htk hm =>
  cases (show u=Value.ref a from rx);obtain⟨mA,O,_⟩:=qd I.hok ea;obtain⟨od,J,_⟩:=O.look;exact W.kia_one (W.kitx_own (cl.get _) cl.hd ha hn htk hm) I.kIn J e (λz=>nomatch z) h
end
structure bW (k:Nat) (A:Around):Prop where
 hd:A.handled=none
 dp:A.depth+3*k+5<recursionLimit
 un:A.units+16*k+200<cLine
theorem bW.mono{j k:Nat}{A:Around}(r:bW k A)(h:j<=k):bW j A:=⟨r.hd,by have:=r.dp;omega,by have:=r.un;omega⟩
theorem bW.deeper{k:Nat}{A:Around}(r:bW (k+1) A)(env:Env):bW k (A.deeper env) :=
 ⟨r.hd,by have:=r.dp;show A.depth+1+3*k+5<_;omega,by have:=r.un;show A.units+3+16*k+200<_;omega⟩
theorem Mb {A:Around} {C:Addr} {us:List Value} {kw:List (Str × Value)}:(A.under (.builtin "type.__call__" ⟨.ref C::us,kw⟩)).depth=A.depth+1:=by
 first|rfl|simp[Around.under,Code.weight,Code.isCreation,Code.isGuard,Code.isCaller,Code.frames,Code.isFrame,guardIds]
theorem L8 {A:Around} {C:Addr} {us:List Value} {kw:List (Str × Value)}:(A.under (.builtin "type.__call__" ⟨.ref C::us,kw⟩)).units=A.units+1:=by
 first|rfl|simp[Around.under,Code.cUnits,Code.frames,Code.isFrame]
theorem bW.make {k:Nat} {A:Around} (r:bW (k+1) A) (C:Addr) (us:List Value) (kw:List (Str × Value)):bW k (A.under (.builtin "type.__call__" ⟨.ref C::us,kw⟩)) :=
 ⟨r.hd,by have:=r.dp;rw[Mb];omega,by have:=r.un;rw[L8];omega⟩
theorem bW.depth{k:Nat}{A:Around}(r:bW k A):A.depth<recursionLimit:=by have:=r.dp;omega
theorem bW.units{k:Nat}{A:Around}(r:bW k A):A.units+64<cLine:=by have:=r.un;omega
def jm:TA:=λ_ H Q=>Q [] H
def jU(ta:TE)(tr:TA):TA:=λσ H Q=>ta σ H λx H1=>tr σ H1 λxs H2=>Q (x::xs) H2
section
variable {X:Cx}{e:Expr}{es:List Expr}{te:TE}{t:TA}{pos:Pos}
theorem Bu:PA X [] jm:=λ_ _ _ _ H Q I h=>Calls.spliced_nil ⟨[],H,I,.nil,h⟩
theorem Ks(ha:PE X e te)(hr:PA X es t)(hs:starEach (e::es) X.env=(false,eval e X.env)::starEach es X.env:=by rfl):PA X (e::es) (jU te t):=by
 intro pos pins s σ H Q I h;rw[hs];show wpAny _ _ (spliced ((false,eval e X.env)::backTo pos (starEach es X.env))) _ _ s;refine Calls.spliced_cons (aD (ha pins s σ H _ I h) λu s1 ⟨x,H1,I1,r1,q1⟩=>?_);exact aD (hr pos pins s1 σ H1 _ I1 q1) λus s2 ⟨xs,H2,I2,r2,q2⟩=>⟨x::xs,H2,I2,.cons r1 r2,q2⟩
end
abbrev Sp:=List V->Hp->VK->XK->Prop
abbrev gv:=List Env->Hp->Shared->XK->Value->Shared->Prop
structure jk (P:Program) (w:World) (K:W.Frag) (mg:Str->Option Value) (base:Heap) (A:Around) (outer:List Env) (s:Shared) (H:Hp):Prop where
 frames:A.frames=some outer
 mod:Mod K mg base
 bs:∀b o,base.get? b=some o->s.heap.get? b=some o/\H b=none
 bsz:base.objs.size<=s.heap.objs.size
 funs:s.heap.FunFrames base outer
 frf:∀b∈d9 outer,H b=none
 hok:bQ P w H s.heap
 bare:AllBare s.gens
def CE(outer:List Env)(P:Program)(w:World)(H:Hp)(s:Shared)(Q:VK)(u:Value)(s':Shared):Prop :=
 ∃v H',s'.os=s.os/\AllBare s'.gens/\Un (d9 outer) [] H H' s.heap s'.heap/\bQ P w H' s'.heap/\aQ v u/\Q v H'
def CR(CX:gv)(outer:List Env)(P:Program)(w:World)(H:Hp)(s:Shared)(Q:VK)(E:XK)(r:Result)(s':Shared):Prop :=
 match r with
 | .ok (.ret u)=>CE outer P w H s Q u s'
 | .ok _=>False
 | .error e=>CX outer H s E e s'
structure bA (P:Program) (w:World) (K:W.Frag) (mg:Str->Option Value) (base:Heap) (CX:gv) (k:Nat) (f:Addr) (fd:FuncData) (ps:List Str) (sp:Sp):Prop where
 len:∀vs H Q E,sp vs H Q E->vs.length=ps.length
 run:∀(A:Around) (outer:List Env) (s:Shared) (H:Hp) (args:Args) (us:List Value) (vs:List V) (Q:VK) (E:XK),bW k A->jk P w K mg base A outer s H->BindsTo s fd args (ps.zip us)->aL vs us->sp vs H Q E ->
  codeAny (model P w) A (.call (.ref f) args) (CR CX outer P w H s Q E) s
theorem bA.mono{P:Program}{w:World}{K:W.Frag}{mg:Str->Option Value}{base:Heap}{CX:gv}{j k:Nat}{f:Addr}{fd:FuncData}{ps:List Str}{sp:Sp}(F:bA P w K mg base CX j f fd ps sp)(h:j<=k) :
 bA P w K mg base CX k f fd ps sp:=⟨F.len,λA outer s H args us vs Q E hr=>F.run A outer s H args us vs Q E (hr.mono h)⟩
theorem jk.make{P:Program}{w:World}{K:W.Frag}{mg:Str->Option Value}{base:Heap}{A:Around}{outer:List Env}{s:Shared}{H:Hp}(e:jk P w K mg base A outer s H)(C:Addr)(us:List Value)(kw:List (Str × Value)) :
 jk P w K mg base (A.under (.builtin "type.__call__" ⟨.ref C::us,kw⟩)) outer s H:=⟨by first|exact e.frames|(simpa [Around.under,Code.envs,Code.isFrame,pushEnvs] using e.frames),e.mod,e.bs,e.bsz,e.funs,e.frf,e.hok,e.bare⟩
section
variable {X:Cx}{pins:List (Addr × Obj)}{σ:St}{H:Hp}{s s':Shared}
theorem ai.env0(I:ai X pins σ H s):jk X.prog X.w X.K X.mg X.base X.A X.stack s H :=
 ⟨I.ok.frames,I.ok.mod,I.bs,UE I.ok.bsz I.sz,I.stack,I.stkFree,I.hok,I.bare⟩
theorem ai.after{Q:VK}{u:Value}(I:ai X pins σ H s)(h:CE X.stack X.prog X.w H s Q u s'):EP X pins σ Q u s':=by
 obtain⟨v,H',os,bare,un,hok,r,q⟩:=h;obtain⟨hh,g,d,t,os'⟩:=s';obtain rfl:os'=s.os:=os;exact⟨v,H',I.call (h':=hh) (g':=g) (d':=d) (t':=t) (ch:=[]) un hok bare (λb z=>absurd z (by simp)),r,q⟩
end
def mU(sp:Sp)(dvs:List V)(E:XK)(t:TA):TE:=λσ H Q=>t σ H λvs H1=>sp (vs++dvs) H1 Q E
def mT(C:Addr)(m:Str)(sp:Sp)(dvs:List V)(E:XK)(ta:TE)(t:TA):TE:=λσ H Q=>ta σ H λx H1=>∃a dx fs,x=.ref a/\H1 a=some (.ins C dx fs)/\fs.lookup m=none /\
 t σ H1 λvs H2=>sp (x::(vs++dvs)) H2 Q E
def zR(C:Addr)(sp:Sp)(dvs:List V)(E:XK)(t:TA):TE:=λσ H Q=>t σ H λvs H1=>∀x dx,H1 x=none->H1 dx=none->dx≠x ->
 sp (.ref x::(vs++dvs)) (upd (upd H1 dx (.own x)) x (.ins C dx [])) (λv H2=>v=.non/\Q (.ref x) H2) E
def aq(K:W.Frag)(fd:FuncData)(ps:List Str)(ds:List Value):Prop :=
 ∀(s:Shared) (us:List Value),K.In s.heap->(us++ds).length=ps.length->BindsTo s fd ⟨us,[]⟩ (ps.zip (us++ds))
theorem aq.all{K:W.Frag}{fd:FuncData}{ps:List Str}(h:∀us:List Value,us.length=ps.length->bindArgs fd ⟨us,[]⟩=pure (ps.zip us)):aq K fd ps []:=λs us _ hl=>by
 rw[UC]at hl ⊢;exact .of_eq (h us hl)
def je(CX:gv)(X:Cx)(E:XK):Prop:=∀(pins:List (Addr × Obj)) (σ:St) (H:Hp) (s:Shared) (e:Value) (s':Shared),ai X pins σ H s->CX X.stack H s E e s'->X.xe e s'
section
variable {X:Cx}{CX:gv}{k:Nat}{f C:Addr}{fd:FuncData}{ps:List Str}{sp:Sp}{dvs:List V}{ds:List Value}{E:XK}{x m:Str}{p pos apos:Pos}{e o:Expr}{es:List Expr}{ta:TE}{t:TA}
theorem o7{pins:List (Addr × Obj)}{σ:St}{H:Hp}{s:Shared}{Q:VK}{us:List Value}{vs:List V}(F:bA X.prog X.w X.K X.mg X.base CX k f fd ps sp)(hr:bW k X.A)(hb:aq X.K fd ps ds)(hd:aL dvs ds)(hx:je CX X E)
 (I:ai X pins σ H s) (r:aL vs us) (h:sp (vs++dvs) H Q E):wpAny (model X.prog X.w) X.A (call (.ref f) us) (EP X pins σ Q) X.xe s:=by
 have r2:aL (vs++dvs) (us++ds):=r.append hd;have hl:(us++ds).length=ps.length:=by rw[<- r2.length];exact F.len _ _ _ _ h
 refine wpAny_call (codeAny_mono (F.run X.A X.stack s H ⟨us,[]⟩ (us++ds) (vs++dvs) Q E hr I.env0 (hb s us I.kIn hl) r2 h) λr s' hq=>?_);cases r with
 | error e=>exact hx pins σ H s e s' I hq
 | ok fl =>
  cases fl with
  | ret u=>exact I.after hq
  | next=>exact False.elim hq
  | brk=>exact False.elim hq
  | cont=>exact False.elim hq
theorem Kn(F:bA X.prog X.w X.K X.mg X.base CX k f fd ps sp)(hr:bW k X.A)(hg:Gl X x)(hm:X.mg x=some (.ref f))(hk:W.keepIn X.K (.ref f)=true)(hb:aq X.K fd ps ds)(hd:aL dvs ds)(hx:je CX X E)
 (ha:PA X (e::es) t) (hdb:(x == ("__debug__" : Str))=false:=by decide) (he:starEach (e::es) X.env=(false,eval e X.env)::starEach es X.env:=by rfl) (hpl:(backTo pos (starEach es X.env)).any (·.1)=false:=by rfl) :
 PE X (.Call (.Name x p) (e::es) [] pos) (mU sp dvs E t):=by
 intro pins s σ H Q I h;refine wpAny_Call_Name_kw (pU I hg hm ?_ hdb);refine W.callWith_K (h₀:=X.base) I.ok.mod.kin hk (aD (ha pos pins s σ H _ I h) λus s1 ⟨vs,H1,I1,r,q⟩=>⟨I1.kIn,?_⟩) he hpl;exact o7 F hr hb hd hx I1 r q
theorem Bp{pl:Sem Bool}(he:PE X o ta)(c:dG X.K C)(hm:bw X.K C m f)(F:bA X.prog X.w X.K X.mg X.base CX k f fd ps sp)(hr:bW k X.A)(hb:aq X.K fd ps ds)(hd:aL dvs ds)(hx:je CX X E)(ha:PA X (e::es) t)
 (hst:starEach (e::es) X.env=(false,eval e X.env)::starEach es X.env:=by rfl) (hpl:(backTo pos (starEach es X.env)).any (·.1)=false:=by rfl)
 (ht:eval (.Call (.Attribute o m apos) (e::es) [] pos) X.env=(do
   let ov <- eval o X.env
   standAt apos.atName
   let (f,first) <- holding [ov] (getMethod ov m pl)
   callWith pos f first (backTo pos (starEach (e::es) X.env)) (backToKw pos (keywordEach [] X.env))):=by rfl) :
 PE X (.Call (.Attribute o m apos) (e::es) [] pos) (mT C m sp dvs E ta t):=by
 intro pins s σ H Q I h;refine W.methodCall_KW (pl:=pl) (aD (he pins s σ H _ I h) λu s1 ⟨x,H1,I1,rx,a,dx,fs,ex,ea,l,q⟩=>?_) ht;subst ex;obtain rfl:u=Value.ref a:=rx;refine CQ I1 ea c hm l ?_;refine W.callWith_K (first:=[.ref a]) (h₀:=X.base) I.ok.mod.kin hm.kp (aD (ha pos pins s1 σ H1 _ I1 q) λus s2 ⟨vs,H2,I2,r,q2⟩=>⟨I2.kIn,?_⟩) hst hpl;exact o7 (us:=.ref a::us) (vs:=.ref a::vs) F hr hb hd hx I2 (.cons Z r) q2
theorem J8{pl:Sem Bool}(he:PE X o ta)(c:dG X.K C)(hm:bw X.K C m f)(F:bA X.prog X.w X.K X.mg X.base CX k f fd ps sp)(hr:bW k X.A)(hb:aq X.K fd ps ds)(hd:aL dvs ds)(hx:je CX X E)
 (ht:eval (.Call (.Attribute o m apos) [] [] pos) X.env=(do
   let ov <- eval o X.env
   standAt apos.atName
   let (f,first) <- holding [ov] (getMethod ov m pl)
   callWith pos f first (backTo pos (starEach [] X.env)) (backToKw pos (keywordEach [] X.env))):=by rfl) :
 PE X (.Call (.Attribute o m apos) [] [] pos) (mT C m sp dvs E ta jm):=by
 intro pins s σ H Q I h;refine W.methodCall_KW (pl:=pl) (aD (he pins s σ H _ I h) λu s1 ⟨x,H1,I1,rx,a,dx,fs,ex,ea,l,q⟩=>?_) ht;subst ex;obtain rfl:u=Value.ref a:=rx;refine CQ I1 ea c hm l ?_;exact W.callWith_K0 (first:=[.ref a]) I1.kIn hm.kp (o7 (us:=[.ref a]) (vs:=[.ref a]) F hr hb hd hx I1 (.cons rfl .nil) q)
structure Mk (K:W.Frag) (C f:Addr):Prop where
 makes:W.makesIn K C=true
 init:W.findIn K (.ref C) "__init__" = some (some (.ref f))
 fn:W.isFn K (.ref f)=true
 kp:W.keepIn K (.ref C)=true
theorem Ix{pins:List (Addr × Obj)}{σ:St}{H:Hp}{s:Shared}{Q:VK}{us:List Value}{vs:List V}(M:Mk X.K C f)(F:bA X.prog X.w X.K X.mg X.base CX k f fd ps sp)(hr:bW (k+1) X.A)(hb:aq X.K fd ps ds)(hd:aL dvs ds)
 (hx:je CX X E) (I:ai X pins σ H s) (r:aL vs us)
 (h:∀x dx,H x=none->H dx=none->dx≠x->sp (.ref x::(vs++dvs)) (upd (upd H dx (.own x)) x (.ins C dx [])) (λv H2=>v=.non/\Q (.ref x) H2) E) :
 wpAny (model X.prog X.w) X.A (call (.ref C) us) (EP X pins σ Q) X.xe s:=by
 have hq:=h (s.heap.objs.size+1) s.heap.objs.size (I.hok.fresh (Vh _)) (I.hok.fresh (Ue _)) (Uo (Uz _));have I2:=ai.made (C:=C) I;have r2:aL (V.ref (s.heap.objs.size+1)::(vs++dvs)) (Value.ref (s.heap.objs.size+1)::(us++ds)):=.cons rfl (r.append hd);have hl:(Value.ref (s.heap.objs.size+1)::us++ds).length=ps.length:=by
  have e:=r2.length;rw[F.len _ _ _ _ hq]at e;exact e.symm
 refine wpAny_call (Ma (f:=f) I.kIn M.makes M.init (beq_iff_eq.mp M.fn) (codeAny_mono (F.run _ X.stack _ _ ⟨Value.ref (s.heap.objs.size+1)::us,[]⟩ (Value.ref (s.heap.objs.size+1)::(us++ds)) _ _ E (hr.make C us [])
  (I2.env0.make C us []) (hb _ (Value.ref (s.heap.objs.size+1)::us) I2.kIn hl) r2 hq) λr s' hq'=>?_))
 cases r with
 | error e=>exact hx pins σ _ _ e s' I2 hq'
 | ok fl =>
  cases fl with
  | ret u =>
   obtain⟨v,H',I3,rv,ev,q3⟩:=I2.after hq';subst ev;exact⟨rv,⟨V.ref (s.heap.objs.size+1),H',I3,Z,q3⟩⟩
  | next=>exact False.elim hq'
  | brk=>exact False.elim hq'
  | cont=>exact False.elim hq'
theorem J9(M:Mk X.K C f)(F:bA X.prog X.w X.K X.mg X.base CX k f fd ps sp)(hr:bW (k+1) X.A)(hg:Gl X x)(hm:X.mg x=some (.ref C))(hb:aq X.K fd ps ds)(hd:aL dvs ds)(hx:je CX X E)
 (ha:PA X (e::es) t) (hdb:(x == ("__debug__" : Str))=false:=by decide) (he:starEach (e::es) X.env=(false,eval e X.env)::starEach es X.env:=by rfl) (hpl:(backTo pos (starEach es X.env)).any (·.1)=false:=by rfl) :
 PE X (.Call (.Name x p) (e::es) [] pos) (zR C sp dvs E t):=by
 intro pins s σ H Q I h;refine wpAny_Call_Name_kw (pU I hg hm ?_ hdb);refine W.callWith_K (h₀:=X.base) I.ok.mod.kin M.kp (aD (ha pos pins s σ H _ I h) λus s1 ⟨vs,H1,I1,r,q⟩=>⟨I1.kIn,?_⟩) he hpl;exact Ix M F hr hb hd hx I1 r q
end
section
variable {X:Cx}{CX:gv}{k:Nat}{f C:Addr}{fd:FuncData}{ps ks:List Str}{sp:Sp}{E:XK}{x m:Str}{p pos apos kpos:Pos}{e o:Expr}{es:List Expr}{kws:List Keyword}{te ta:TE}{t tk:TA}{nm:Option Str}
structure TL (K:W.Frag) (fd:FuncData) (ps ks:List Str) (g:List Value->List Value->List Value) (gV:List V->List V->List V):Prop where
 to:∀(s:Shared) (us ws:List Value),K.In s.heap->(g us ws).length=ps.length->BindsTo s fd ⟨us,ks.zip ws⟩ (ps.zip (g us ws))
 rel:∀ {vs:List V} {us:List Value} {zs:List V} {ws:List Value},aL vs us->aL zs ws->aL (gV vs zs) (g us ws)
variable {g:List Value->List Value->List Value}{gV:List V->List V->List V}
end
structure aM (N P:List Str) (sc:Scope):Prop where
 kind:sc.kind=.function
 co:sc.isCoroutine=false
 gen:sc.isGenerator=false
 nd:N.Nodup
 pre:N.take P.length=P
 par:∀x∈P,sc.names.lookup x=some .local\/sc.names.lookup x=some .cell
 nofree:∀y∈sc.names,y.2 ≠ .free
theorem DN{kindOf:Str->Option NameKind}{x:Str}:∀ {binds:List (Str × Value)} {m:Str->Option Value},(∀v,(x,v)∉binds)->bindL kindOf binds m x=m x
 | [],_,_=>rfl
 | (n,v)::r,m,h=>by
  unfold bindL;rw[DN λw hw=>h w (Uw _ hw)]
  split
  ·have:x≠n:=by rintro rfl;exact h v Uv
   simp[this]
  ·rfl
theorem DP{kindOf:Str->Option NameKind}{x:Str}:∀ {binds:List (Str × Value)} {m:Str->Option Value},(∀v,(x,v)∉binds)->bindC kindOf binds m x=m x
 | [],_,_=>rfl
 | (n,v)::r,m,h=>by
  unfold bindC;rw[DP λw hw=>h w (Uw _ hw)]
  split
  ·rfl
  ·have:x≠n:=by rintro rfl;exact h v Uv
   simp[this]
theorem DO{kindOf:Str->Option NameKind}{x:Str}{v:Value}:∀ {P:List Str} {vs:List Value} {i:Nat} {m:Str->Option Value},P.Nodup->P[i]? = some x->vs[i]? = some v->kindOf x=some .local ->
 bindL kindOf (P.zip vs) m x=some v
 | [],_,_,_,_,h,_,_=>by simp at h
 | _::_,[],_,_,_,_,h,_=>by simp at h
 | p::P,w::vs,0,m,nd,h1,h2,hk=>by
  simp at h1 h2;subst h1;subst h2;show bindL kindOf ((p,w)::P.zip vs) m p=_;unfold bindL;rw[DN λv hv=>(Vu.mp nd).1 (We hv).1,if_pos hk];simp
 | p::P,w::vs,i+1,m,nd,h1,h2,hk=>by
  show bindL kindOf ((p,w)::P.zip vs) m x=_;unfold bindL;exact DO (i:=i) (Vu.mp nd).2 (by simpa using h1) (by simpa using h2) hk
theorem DQ{kindOf:Str->Option NameKind}{x:Str}{v:Value}:∀ {P:List Str} {vs:List Value} {i:Nat} {m:Str->Option Value},P.Nodup->P[i]? = some x->vs[i]? = some v->kindOf x≠some .local ->
 bindC kindOf (P.zip vs) m x=some v
 | [],_,_,_,_,h,_,_=>by simp at h
 | _::_,[],_,_,_,_,h,_=>by simp at h
 | p::P,w::vs,0,m,nd,h1,h2,hk=>by
  simp at h1 h2;subst h1;subst h2;show bindC kindOf ((p,w)::P.zip vs) m p=_;unfold bindC;rw[DP λv hv=>(Vu.mp nd).1 (We hv).1,if_neg hk];simp
 | p::P,w::vs,i+1,m,nd,h1,h2,hk=>by
  show bindC kindOf ((p,w)::P.zip vs) m x=_;unfold bindC;exact DQ (i:=i) (Vu.mp nd).2 (by simpa using h1) (by simpa using h2) hk
def gZ(N:List Str)(vs:List V):St:=vs.map some++List.replicate (N.length-vs.length) none
def ja(CX:gv)(P:Program)(w:World)(K:W.Frag)(mg:Str->Option Value)(base:Heap)(N:List Str)(qual:Str)(scope:Scope)(f:Addr)(cd:Value)(A:Around)(outer:List Env)(s:Shared)(H:Hp)(E:XK):Cx where
 prog:=P
 w:=w
 K:=K
 mg:=mg
 base:=base
 A:=A.deeper (envOfC qual scope s.heap.objs.size f cd)
 N:=N
 s₀:=s
 H₀:=H
 env:=envOfC qual scope s.heap.objs.size f cd
 outer:=outer
 stack:=envOfC qual scope s.heap.objs.size f cd::outer
 ex:=[]
 calm:=true
 fn:=λ_=>true
 pn:=[]
 xe:=λe s'=>wpAny (model P w) (A.deeper (envOfC qual scope s.heap.objs.size f cd)) (leaving (envOfC qual scope s.heap.objs.size f cd) e) (λ_ s''=>CX outer H s E e s'') (λe' s''=>CX outer H s E e' s'') s'
theorem DC{sc:Scope}{n:Nat}{x:Str}(h:sc.names.lookup x=some .cell):∃c,(cellsFrom n sc.names []).lookup x=some c:=by
 have q:=W.cellsFrom_some sc.names n [] (.inl h);exact WQ.mp q
theorem MJ{CX:gv}{P:Program}{w:World}{K:W.Frag}{mg:Str->Option Value}{base:Heap}{N ps:List Str}{qual:Str}{scope:Scope}{f:Addr}{cd:Value}{A:Around}{outer:List Env}{s s1:Shared}{H:Hp}{E:XK}{us:List Value}{vs:List V}
 (S:aM N ps scope) (hd:A.handled=none) (e0:jk P w K mg base A outer s H) (hl:vs.length=ps.length) (r:aL vs us)
 (x:InCallC s s.heap.objs.size (bindL (envOfC qual scope s.heap.objs.size f cd).kindOf (ps.zip us) λ_=>none) (cellsFrom (s.heap.objs.size+1) scope.names []) (bindC (envOfC qual scope s.heap.objs.size f cd).kindOf (ps.zip us) λ_=>none) s1) :
 ai (ja CX P w K mg base N qual scope f cd A outer s H E) [] (gZ N vs) H s1:=by
 have hpl:ps.length<=N.length:=by have:=congrArg List.length S.pre;rw[Ul]at this;omega
 obtain⟨h1,tk,rfl,hk⟩:=x.done;have noA:∀b:Addr,b∉(ja CX P w K mg base N qual scope f cd A outer s H E).ex:=λb z=>absurd (show b∈([]:List Addr) from z) (by simp);refine⟨⟨e0.mod,S.kind,rfl,rfl,Ue _,λy z c h1 h2=>?_,λy hy=>?_,λy c _ h=>?_,λ_=>hd,Around.frames_deeper e0.frames,.inr ⟨rfl,rfl⟩,λb z=>absurd z (noA b),e0.bs,e0.bsz,λb _ _=>noA b,λb z=>absurd z (noA b),e0.funs,e0.frf⟩,
  rfl,e0.bare,Un.kept hk,⟨_,x.toInCall.ns,λi y v h1 h2 h3=>?_⟩,λy c h=>⟨_,x.cell y c h⟩,e0.hok.fresh (Ue _),λy c h=>?_,λp hp=>absurd (show p∈([]:List (Addr × Obj)) from hp) (by simp),e0.hok.kept hk,?_⟩
 ·exact name_of_addr x.apart (Vv h1) (Vv h2)
 ·have hy:scope.names.lookup y=some .cell\/scope.names.lookup y=some .free:=hy;rcases hy with hy|hy
  ·exact DC hy
  ·exact absurd Z (S.nofree _ (Vv hy))
 ·exact Wb (x.above y c (Vv h))
 ·have hi:i<vs.length:=by
   unfold gZ at h2;by_cases hi:i<vs.length
   ·exact hi
   ·rw[Vi (by simpa using hi)]at h2;rw[WR]at h2
    split at h2<;>cases h2
  have ha:vs[i]? = some v:=by
   unfold gZ at h2;rw[Vw (by simpa using hi),Ug]at h2;cases e:vs[i]? with
   | none=>rw[e]at h2;cases h2
   | some a=>rw[e]at h2;cases h2;rfl
  obtain⟨u,hu,rv⟩:=r.get ha;have hp:ps[i]? = some y:=by
   rw[<- S.pre,Wf (by omega)];exact h1
  have ndP:ps.Nodup:=by rw[<- S.pre];exact S.nd.sublist (List.take_sublist _ _)
  refine⟨u,rv,?_⟩;rcases S.par y (Ur hp) with k|k
  ·exact .inl ⟨k,DO ndP hp hu k⟩
  ·obtain⟨c,e⟩:=DC (n:=s.heap.objs.size+1) k;refine .inr ⟨.inl k,c,e,?_⟩;have q:=x.cell y c e;rw[DQ ndP hp hu (by show scope.names.lookup y≠_;rw[k];decide)]at q;exact q
 ·exact e0.hok.fresh (Wb (x.above y c (Vv h)))
 ·unfold gZ;show _=N.length;rw[Ud,Uc,Wg];omega
theorem Db{CX:gv}{P:Program}{w:World}{K:W.Frag}{mg:Str->Option Value}{base:Heap}{k:Nat}{f:Addr}{name qual:Str}{params:Arguments}{body:List Stmt}{scope:Scope}{dV kV doc pm cdv ct oc:Value}{an od:Option Addr}
 {osl:Array (Option Value)} {N ps:List Str} {sp:Sp} (lk:K.lookup f=some ⟨oc,od,.func (W.fnOf name qual params body scope dV kV doc pm an cdv ct),osl⟩) (hcd:W.codeIn K cdv qual=true) (S:aM N ps scope)
 (len:∀vs H Q E,sp vs H Q E->vs.length=ps.length)
 (hbody:∀(A:Around) (outer:List Env) (s:Shared) (H:Hp) (vs:List V) (Q:VK) (E:XK),bW k (A.deeper (envOfC qual scope s.heap.objs.size f cdv))->sp vs H Q E ->
   ∃t,gn (ja CX P w K mg base N qual scope f cdv A outer s H E) body t/\t { nx:=λ_ H'=>Q .non H',rt:=Q } (gZ N vs) H) :
 bA P w K mg base CX (k+1) f (W.fnOf name qual params body scope dV kV doc pm an cdv ct) ps sp:=by
 refine⟨len,λA outer s H args us vs Q E hr e0 hb r hsp=>?_⟩;have hl:=len _ _ _ _ hsp;have KX:K.In s.heap:=e0.mod.kin.keeps λb o e=>(e0.bs b o e).1;have lim:s.heap.NoLimit:=e0.mod.nolimit.keeps λb o e=>(e0.bs b o e).1;have hkind:∀y∈ps.zip us,scope.names.lookup y.1=some .local\/(scope.names.lookup y.1=some .cell/\((cellsFrom (s.heap.objs.size+1) scope.names []).lookup y.1).isSome=true):=λ⟨n,v⟩ hy=>by
  rcases S.par n (We hy).1 with q|q
  ·exact .inl q
  ·exact .inr ⟨q,W.cellsFrom_some _ _ _ (.inl q)⟩
 refine codeAny_call_function hr.depth (KX _ _ lk) Z S.co S.gen Z (W.codeRec_of KX hcd) (hb _ _ _ _ ?_);refine wpAny_newFunctionEnv_cells S.kind hkind λenv he s1 x=>?_;subst he;refine⟨lim.keeps x.toInCall.keep,codeAny_func ?_⟩;obtain⟨t,ht,hq⟩:=hbody A outer s H vs Q E (hr.deeper _) hsp;have I:ai (ja CX P w K mg base N qual scope f cdv A outer s H E) [] (gZ N vs) H s1:=MJ S hr.hd e0 hl r x;refine wpAny_mono (ht [] s1 (gZ N vs) H _ I hq) (λfl s' hs=>?_) λe s' hs=>hs;have fin:∀ {σ':St} {H':Hp} {v:V} {u:Value},ai (ja CX P w K mg base N qual scope f cdv A outer s H E) [] σ' H' s'->aQ v u->Q v H'->CE outer P w H s Q u s' :=
  λ{σ' H' v u} J rv q=>⟨v,H',J.os,J.bare,J.base,J.hok,rv,q⟩
 cases fl with
 | ret u =>
  obtain⟨v,σ',H',J,rv,q⟩:=hs;exact fin J rv q
 | next =>
  obtain⟨σ',H',J,q⟩:=hs;exact fin (v:=V.non) (u:=Value.none) J Z q
 | brk =>
  obtain⟨_,_,_,q⟩:=hs;exact False.elim q
 | cont =>
  obtain⟨_,_,_,q⟩:=hs;exact False.elim q
section
variable {X:Cx}{x:Str}{p pos:Pos}{e:Expr}{es:List Expr}{t:TA}{id T:String}{r:List V->Hp->VK->Prop}
def jV(r:List V->Hp->VK->Prop)(t:TA):TE:=λσ H Q=>t σ H λvs H1=>r vs H1 Q
theorem Km (hc:cw X (.builtin id) r) (hg:Gl X x) (hm:X.mg x=none) (hv:bootBuiltins x=some (.builtin id)) (ha:PA X (e::es) t) (hn:x ≠ "__name__":=by decide) (hdb:(x == ("__debug__" : Str))=false:=by decide)
 (he:starEach (e::es) X.env=(false,eval e X.env)::starEach es X.env:=by rfl) (hpl:(backTo pos (starEach es X.env)).any (·.1)=false:=by rfl):PE X (.Call (.Name x p) (e::es) [] pos) (jV r t):=by
 intro pins s σ H Q I h;refine wpAny_Call_Name_kw (fW I hg hm hv ?_ hn hdb);exact WS (aD (ha pos pins s σ H _ I h) λus s1 ⟨vs,H1,I1,r1,q1⟩=>hc pins s1 σ H1 vs us Q I1 r1 q1) he hpl
theorem Kl (hc:cw X (.type T) r) (hg:Gl X x) (hm:X.mg x=none) (hv:bootBuiltins x=some (.type T)) (ha:PA X (e::es) t) (hn:x ≠ "__name__":=by decide) (hdb:(x == ("__debug__" : Str))=false:=by decide)
 (he:starEach (e::es) X.env=(false,eval e X.env)::starEach es X.env:=by rfl) (hpl:(backTo pos (starEach es X.env)).any (·.1)=false:=by rfl):PE X (.Call (.Name x p) (e::es) [] pos) (jV r t):=by
 intro pins s σ H Q I h;refine wpAny_Call_Name_kw (fW I hg hm hv ?_ hn hdb);exact UX (aD (ha pos pins s σ H _ I h) λus s1 ⟨vs,H1,I1,r1,q1⟩=>hc pins s1 σ H1 vs us Q I1 r1 q1) he hpl
end
section
variable {κ:Type}[DecidableEq κ]
def bv(kvs:List (κ × V))(k:κ):Option V:=(kvs.find? λkv=>decide (kv.1=k)).map (·.2)
def cH(kvs:List (κ × V))(k:κ)(v:V):List (κ × V) :=
 if (kvs.any λkv=>decide (kv.1=k))=true then kvs.map (λkv=>if kv.1=k then (kv.1,v) else kv) else kvs++[(k,v)]
theorem gL{p:κ × V}{r:List (κ × V)}{k:κ}(e:p.1=k):bv (p::r) k=some p.2:=by simp[bv,UR,e]
theorem gM{p:κ × V}{r:List (κ × V)}{k:κ}(e:¬p.1=k):bv (p::r) k=bv r k:=by simp[bv,UR,e]
theorem mR(k:κ):∀kvs:List (κ × V),(kvs.any λkv=>decide (kv.1=k))=(bv kvs k).isSome
 | []=>rfl
 | p::r=>by
  rw[Vj];by_cases e:p.1=k
  ·simp only [gL e,decide_eq_true e,Bool.true_or,Option.isSome_some]
  ·rw[gM e,decide_eq_false e,Bool.false_or];exact mR k r
theorem zv(k j:κ)(y:V):∀kvs:List (κ × V),bv (kvs.map λkv=>if kv.1=k then (kv.1,y) else kv) j=(bv kvs j).map λx=>if j=k then y else x
 | []=>rfl
 | p::r=>by
  have ih:=zv k j y r;rw[UM];by_cases h:p.1=k
  ·rw[if_pos h];by_cases e:p.1=j
   ·rw[gL (p:=(p.1,y)) e,gL e,Vk,if_pos (e.symm.trans h)]
   ·rw[gM (p:=(p.1,y)) e,gM e,ih]
  ·rw[if_neg h];by_cases e:p.1=j
   ·rw[gL (p:=p) e,gL e,Vk,if_neg (λz=>h (e.trans z))]
   ·rw[gM (p:=p) e,gM e,ih]
theorem zu(k j:κ)(y:V):∀kvs:List (κ × V),bv kvs k=none->bv (kvs++[(k,y)]) j=if j=k then some y else bv kvs j
 | [],_=>by
  by_cases e:k=j
  ·rw[if_pos e.symm];exact gL (p:=(k,y)) e
  ·rw[if_neg (λz=>e z.symm)];exact gM (p:=(k,y)) e
 | p::r,hn=>by
  rw[List.cons_append];have hk:¬p.1=k:=λz=>by rw[gL z]at hn;cases hn
  rw[gM hk]at hn;have ih:=zu k j y r hn;by_cases e:p.1=j
  ·rw[gL e,gL e,if_neg (λz=>hk (e.trans z))]
  ·rw[gM e,gM e,ih]
theorem gX(kvs:List (κ × V))(k j:κ)(y:V):bv (cH kvs k y) j=if j=k then some y else bv kvs j:=by
 unfold cH;by_cases a:(kvs.any λkv=>decide (kv.1=k))=true
 ·rw[if_pos a,zv];rw[mR]at a;by_cases e:j=k
  ·obtain⟨x,hx⟩:=WQ.mp a;rw[if_pos e,e,hx,Vk,if_pos rfl]
  ·rw[if_neg e];cases bv kvs j with
   | none=>rfl
   | some x=>rw[Vk,if_neg e]
 ·rw[if_neg a];refine zu k j y kvs ?_;rw[mR]at a;cases q:bv kvs k with
  | none=>rfl
  | some x=>rw[q]at a;exact (a Z).elim
theorem nB(kvs:List (κ × V))(k:κ)(v:V):(cH kvs k v).length<=kvs.length+1:=by
 unfold cH
 split
 ·rw[Uc];omega
 ·rw[Ud,UB,Wh];omega
theorem Jm{kvs:List (κ × V)}{k:κ}(v:V)(h:bv kvs k=none):cH kvs k v=kvs++[(k,v)]:=by
 unfold cH;rw[mR,h];exact if_neg (by decide)
theorem eh.isSome_eq{o:Option V}{u:Option Value}(r:eh o u):o.isSome=u.isSome:=by
 cases o with
 | none=>cases u with
  | none=>rfl
  | some _=>exact (show False from r).elim
 | some _=>cases u with
  | none=>exact (show False from r).elim
  | some _=>rfl
theorem eh.getD{o:Option V}{u:Option Value}{d:V}{d':Value}(r:eh o u)(rd:aQ d d'):aQ (o.getD d) (u.getD d'):=by
 cases o with
 | none=>cases u with
  | none=>exact rd
  | some _=>exact (show False from r).elim
 | some _=>cases u with
  | none=>exact (show False from r).elim
  | some _=>exact r
theorem KV.val{kvs:List (κ × V)}{vs:List (κ × Value)}(r:KV kvs vs)(k:κ):eh (bv kvs k) (valueAt vs k):=by
 unfold KV at r
 induction r with
 | nil=>exact True.intro
 | @cons p q ps qs h t ih =>
  obtain⟨h1,h2⟩:=h;by_cases e:p.1=k
  ·have e':q.1=k:=h1.symm.trans e;have b:valueAt (q::qs) k=some q.2:=by simp[valueAt,UR,e']
   rw[gL e,b];exact h2
  ·have e':¬q.1=k:=λz=>e (h1.trans z);have b:valueAt (q::qs) k=valueAt qs k:=by simp[valueAt,UR,e']
   rw[gM e,b];exact ih
theorem KV.any{kvs:List (κ × V)}{vs:List (κ × Value)}(r:KV kvs vs)(k:κ):(kvs.any λkv=>decide (kv.1=k))=vs.any λkv=>decide (kv.1=k):=by
 unfold KV at r
 induction r with
 | nil=>rfl
 | cons h t ih=>rw[Vj,Vj,ih,h.1]
theorem KV.repl{kvs:List (κ × V)}{vs:List (κ × Value)}(r:KV kvs vs)(k:κ){y:V}{u:Value}(ry:aQ y u) :
 KV (kvs.map λkv=>if kv.1=k then (kv.1,y) else kv) (vs.map λkv=>if kv.1=k then (kv.1,u) else kv):=by
 unfold KV at r ⊢
 induction r with
 | nil=>exact .nil
 | @cons p q ps qs h t ih =>
  rw[UM,UM];refine .cons ?_ ih;obtain⟨h1,h2⟩:=h;by_cases e:p.1=k
  ·rw[if_pos e,if_pos (h1.symm.trans e)];exact⟨h1,ry⟩
  ·rw[if_neg e,if_neg (λz=>e (h1.trans z))];exact⟨h1,h2⟩
theorem KV.put{kvs:List (κ × V)}{vs:List (κ × Value)}(r:KV kvs vs)(k:κ){y:V}{u:Value}(ry:aQ y u):KV (cH kvs k y) (stored vs k u):=by
 unfold cH stored;rw[r.any k];by_cases e:(vs.any λkv=>decide (kv.1=k))=true
 ·rw[if_pos e,if_pos e];exact r.repl k ry
 ·rw[if_neg e,if_neg e];exact Paired.snoc r ⟨rfl,ry⟩
theorem KV.length{kvs:List (κ × V)}{vs:List (κ × Value)}(r:KV kvs vs):kvs.length=vs.length:=Paired.length r
end
theorem iH{P:Program}{w:World}{k:aR}{u:Value}(r:aQ (kV k) u):(cK P w).is k u=true:=by
 cases k with
 | inl i=>obtain⟨t,e⟩:=(show ∃t,u=Value.int i t from r);subst e;exact tP P w i t
 | inr x=>obtain⟨t,e⟩:=(show ∃t,u=Value.str x t from r);subst e;exact BO P w x t
theorem B6{P:Program}{w:World}:∀ {ks:List aR} {us:List Value},aL (ks.map kV) us->ItemsAre (cK P w) ks us
 | [],_,r=>by rw[List.map_nil]at r;cases r;exact .nil
 | k::ks,_,r=>by
  rw[UM]at r;cases r with
  | cons h t=>exact .cons (iH h) (B6 t)
abbrev KT(H:Hp):List (List aR × V)->List (List aR × Addr × Value)->Prop:=Paired λp q=>p.1=q.1/\H q.2.1=some (.tup (p.1.map kV))/\aQ p.2 q.2.2
theorem KT.val{H:Hp}{kvs:List (List aR × V)}{xs:List (List aR × Addr × Value)}(r:KT H kvs xs)(k:List aR):eh (bv kvs k) ((atKey xs k).map (·.2)):=by
 induction r with
 | nil=>exact True.intro
 | @cons p q ps qs h t ih =>
  obtain⟨h1,_,h2⟩:=h;by_cases e:p.1=k
  ·have e':q.1=k:=h1.symm.trans e;have b:atKey (q::qs) k=some q.2:=by simp[atKey,UR,e']
   rw[gL e,b];exact h2
  ·have e':¬q.1=k:=λz=>e (h1.trans z);have b:atKey (q::qs) k=atKey qs k:=by simp[atKey,UR,e']
   rw[gM e,b];exact ih
theorem KT.repl{H:Hp}{kvs:List (List aR × V)}{xs:List (List aR × Addr × Value)}(r:KT H kvs xs)(k:List aR){y:V}{u:Value}(ry:aQ y u) :
 KT H (kvs.map λkv=>if kv.1=k then (kv.1,y) else kv) (xs.map (putAt k u)):=by
 induction r with
 | nil=>exact .nil
 | @cons p q ps qs h t ih =>
  rw[UM,UM];refine .cons ?_ ih;obtain⟨h1,h2,h3⟩:=h;unfold putAt;by_cases e:p.1=k
  ·rw[if_pos e,if_pos (h1.symm.trans e)];exact⟨h1,h2,ry⟩
  ·rw[if_neg e,if_neg (λz=>e (h1.trans z))];exact⟨h1,h2,h3⟩
theorem KT.put{H:Hp}{kvs:List (List aR × V)}{xs:List (List aR × Addr × Value)}(r:KT H kvs xs)(k:List aR){b:Addr}{y:V}{u:Value}(hb:H b=some (.tup (k.map kV)))(ry:aQ y u) :
 KT H (cH kvs k y) (storedH xs k b u):=by
 have e:(kvs.any λkv=>decide (kv.1=k))=(atKey xs k).isSome:=by
  rw[mR,(r.val k).isSome_eq,VN]
 unfold cH storedH;rw[e];by_cases q:(atKey xs k).isSome=true
 ·rw[if_pos q,if_pos q];exact r.repl k ry
 ·rw[if_neg q,if_neg q];exact Paired.snoc r ⟨rfl,hb,ry⟩
theorem KT.keeps{H H':Hp}{kvs:List (List aR × V)}{xs:List (List aR × Addr × Value)}(r:KT H kvs xs)(ht:∀b ys,H b=some (.tup ys)->H' b=some (.tup ys)):KT H' kvs xs :=
 Paired.mapP r λ_ _ z=>⟨z.1,ht _ _ z.2.1,z.2.2⟩
section
variable {P:Program}{w:World}{H:Hp}{h:Heap}{a:Addr}
theorem A7{u:HO}(ok:bQ P w H h)(e:Rd H a u):cg P w H h a u:=e.ok ok
theorem jJ{kvs:List (aR × V)}(ok:bQ P w H h)(e:Rd H a (.dK kvs)):kvs.length<=sizeLine/\(a == sysModules)=false/\∃vs,KV kvs vs/\h.DictOf (cK P w) a vs :=
 show cg P w H h a (.dK kvs) from A7 ok e
theorem PJ{kvs:List (aR × V)}(ok:bQ P w H h)(e:H a=some (.dK kvs)):kvs.length<=sizeLine/\(a == sysModules)=false/\∃vs,KV kvs vs/\h.DictOf (cK P w) a vs:=jJ ok (.inl e)
theorem mw{ks:List aR}(ok:bQ P w H h)(e:H a=some (.tup (ks.map kV))):(tupleKind (cK P w)).is h ks a:=by
 obtain⟨_,its,r,o,h1,h2,n,h3⟩:=(show cg P w H h a (.tup (ks.map kV)) from ok a _ e);exact⟨o,its.toArray,n,h1,h2,h3,by simpa using B6 r⟩
theorem jI{kvs:List (List aR × V)}(ok:bQ P w H h)(e:Rd H a (.dT kvs)):kvs.length<=sizeLine/\(a == sysModules)=false /\
 ∃xs,KT H kvs xs/\h.DictOfH (tupleKind (cK P w)) a xs:=by
 obtain⟨z,y,xs,r,o,es,ep,h1,h2,h3,h4,h5⟩:=(show cg P w H h a (.dT kvs) from A7 ok e);refine⟨z,y,xs,r,o,es,ep,h1,h2,h3,h4,λx hx=>?_,h5⟩;have all:∀ {l:List (List aR × V)} {m:List (List aR × Addr × Value)},KT H l m->∀x∈m,(tupleKind (cK P w)).is h x.1 x.2.1:=by
  intro l m q
  induction q with
  | nil=>intro x hx;exact nomatch hx
  | @cons p q ps qs hq t ih =>
   intro x hx;rcases Uy.mp hx with e|hx
   ·subst e;exact mw ok (by rw[<- hq.1];exact hq.2.1)
   ·exact ih x hx
 exact all r x hx
theorem PB{kvs:List (List aR × V)}(ok:bQ P w H h)(e:H a=some (.dT kvs)):kvs.length<=sizeLine/\(a == sysModules)=false /\
 ∃xs,KT H kvs xs/\h.DictOfH (tupleKind (cK P w)) a xs:=jI ok (.inl e)
end
def da(H:Hp)(a:Addr)(y:V)(r:Option V):Prop :=
 (∃kvs k,Rd H a (.dK kvs)/\y=kV k/\r=bv kvs k)\/∃kvs k b,Rd H a (.dT kvs)/\y=.ref b/\H b=some (.tup (k.map kV))/\r=bv kvs k
def iu(H:Hp)(a:Addr)(y v:V)(H':Hp):Prop :=
 (∃kvs k,H a=some (.dK kvs)/\y=kV k/\kvs.length<sizeLine/\H'=upd H a (.dK (cH kvs k v))) \/
 ∃kvs k b,H a=some (.dT kvs)/\y=.ref b/\H b=some (.tup (k.map kV))/\kvs.length<sizeLine/\H'=upd H a (.dT (cH kvs k v))
theorem da.k{H:Hp}{a:Addr}{kvs:List (aR × V)}{k:aR}(e:H a=some (.dK kvs)):da H a (kV k) (bv kvs k):=.inl ⟨kvs,k,.inl e,rfl,rfl⟩
theorem da.t{H:Hp}{a b:Addr}{kvs:List (List aR × V)}{k:List aR}(e:H a=some (.dT kvs))(eb:H b=some (.tup (k.map kV))):da H a (.ref b) (bv kvs k):=.inr ⟨kvs,k,b,.inl e,rfl,eb,rfl⟩
theorem iu.k{H:Hp}{a:Addr}{kvs:List (aR × V)}{k:aR}{v:V}(e:H a=some (.dK kvs))(hl:kvs.length<sizeLine):iu H a (kV k) v (upd H a (.dK (cH kvs k v))):=.inl ⟨kvs,k,e,rfl,hl,rfl⟩
theorem iu.t{H:Hp}{a b:Addr}{kvs:List (List aR × V)}{k:List aR}{v:V}(e:H a=some (.dT kvs))(eb:H b=some (.tup (k.map kV)))(hl:kvs.length<sizeLine) :
 iu H a (.ref b) v (upd H a (.dT (cH kvs k v))):=.inr ⟨kvs,k,b,e,rfl,eb,hl,rfl⟩
section
variable {X:Cx}{pins:List (Addr × Obj)}{σ:St}{H:Hp}{s:Shared}{a:Addr}{y v:V}{u r:Value}{o:Option V}{A:Around}{E:Value->Shared->Prop}
theorem ai.big(I:ai X pins σ H s):sysModules<s.heap.objs.size:=by
 have h:mainGlobals<s.heap.objs.size:=(I.mod.glob.keeps I.bk).lt;exact Nat.lt_trans (by decide) h
theorem PV{Q:Value->Shared->Prop}(hu:A.units+1<cLine)(I:ai X pins σ H s)(g:da H a y (some v))(ry:aQ y u)(h:∀w' s',ai X pins σ H s'->aQ v w'->Q w' s') :
 wpAny (model X.prog X.w) A (getItem (.ref a) u) Q E s:=by
 rcases g with ⟨kvs,k,e,ey,l⟩|⟨kvs,k,b,e,ey,eb,l⟩
 ·subst ey;obtain⟨z,hd,vs,rel,dd⟩:=jJ I.hok e;obtain⟨w',hw,rw'⟩:=eh.some_of (v:=v) (o:=valueAt vs k) (by rw[l];exact rel.val k);exact wpAny_getItem_of (iH ry) dd.mapOf hw (h w' _ (I.tok _) rw')
 ·subst ey;cases (show u=Value.ref b from ry);obtain⟨z,hd,xs,rel,dd⟩:=jI I.hok e;obtain⟨w',hw,rw'⟩:=eh.some_of (v:=v) (o:=(atKey xs k).map (·.2)) (by rw[l];exact rel.val k);obtain⟨p,hp,hp2⟩:=Va.mp hw;refine wpAny_getItem_heap (tupleKind_room_in1 hu) (mw I.hok eb) dd hp ?_;rw[hp2];exact h w' _ (I.tok _) rw'
theorem PU{Q:Value->Shared->Prop}(hu:A.units+1<cLine)(I:ai X pins σ H s)(g:da H a y o)(ry:aQ y u)(h:∀s',ai X pins σ H s'->Q (.bool o.isSome) s') :
 wpAny (model X.prog X.w) A (compareOp .In u (.ref a)) Q E s:=by
 rcases g with ⟨kvs,k,e,ey,l⟩|⟨kvs,k,b,e,ey,eb,l⟩
 ·subst ey;obtain⟨z,hd,vs,rel,dd⟩:=jJ I.hok e;refine wpAny_in_of (iH ry) hd dd.mapOf ?_;rw[<- (rel.val k).isSome_eq,<- l];exact h _ (I.tok _)
 ·subst ey;cases (show u=Value.ref b from ry);obtain⟨z,hd,xs,rel,dd⟩:=jI I.hok e;refine wpAny_in_heap (tupleKind_room_in1 hu) (mw I.hok eb) hd dd ?_;have q:=(rel.val k).isSome_eq;rw[VN]at q;rw[<- q,<- l];exact h _ (I.tok _)
theorem PR{Q:Value->Shared->Prop}(hu:A.units+1<cLine)(I:ai X pins σ H s)(g:da H a y o)(ry:aQ y u)(h:∀s',ai X pins σ H s'->Q (.bool (!o.isSome)) s') :
 wpAny (model X.prog X.w) A (compareOp .NotIn u (.ref a)) Q E s:=by
 rcases g with ⟨kvs,k,e,ey,l⟩|⟨kvs,k,b,e,ey,eb,l⟩
 ·subst ey;obtain⟨z,hd,vs,rel,dd⟩:=jJ I.hok e;refine wpAny_notIn_of (iH ry) hd dd.mapOf ?_;rw[<- (rel.val k).isSome_eq,<- l];exact h _ (I.tok _)
 ·subst ey;cases (show u=Value.ref b from ry);obtain⟨z,hd,xs,rel,dd⟩:=jI I.hok e;refine wpAny_notIn_heap (tupleKind_room_in1 hu) (mw I.hok eb) hd dd ?_;have q:=(rel.val k).isSome_eq;rw[VN]at q;rw[<- q,<- l];exact h _ (I.tok _)
theorem Dq{h':Heap}{t':Nat}{ob:HO}(I:ai X pins σ H s)(mu:ou (H a))(hs:Heap.SameBut a s.heap h')(he:∃q,h'.get? a=some q)(new:cg X.prog X.w (upd H a ob) h' a ob) :
 ai X pins σ (upd H a ob) { s with heap:=h',toks:=t' } :=
 I.write (x:=a) (e:=a) mu (.inl rfl) (λb q hb z=>(hs.2 b hb).trans z) he new
theorem PK{P:Program}{w:World}{H':Hp}{h':Heap}{kvs:List (aR × V)}{vs:List (aR × Value)}(z:kvs.length<=sizeLine)(hd:(a == sysModules)=false)(rel:KV kvs vs)(dd:h'.DictOf (cK P w) a vs) :
 cg P w H' h' a (.dK kvs):=⟨z,hd,vs,rel,dd⟩
theorem PQ{H':Hp}{Q:Unit->Shared->Prop}(hu:A.units+1<cLine)(I:ai X pins σ H s)(g:iu H a y v H')(ry:aQ y u)(rv:aQ v r)(h:∀s',ai X pins σ H' s'->Q () s') :
 wpAny (model X.prog X.w) A (setItem (.ref a) u r) Q E s:=by
 rcases g with ⟨kvs,k,e,ey,l,eH⟩|⟨kvs,k,b,e,ey,eb,l,eH⟩
 ·subst ey eH;obtain⟨z,hd,vs,rel,dd⟩:=PJ I.hok e;have hz:vs.length<=sizeLine:=by rw[<- rel.length];exact z
  have hl:(cH kvs k v).length<=sizeLine:=by have:=nB kvs k v;omega
  refine wpAny_setItem_pairs (hsz:=hz) (iH ry) dd λh' dd' hs=>h _ ?_;have he:∃q,h'.get? a=some q:=let ⟨q,_,_,hq,_⟩:=dd';⟨q,hq⟩
  exact Dq I (by rw[e];exact True.intro) hs he (PK hl hd (rel.put k rv) dd')
 ·subst ey eH;cases (show u=Value.ref b from ry);obtain⟨z,hd,xs,rel,dd⟩:=PB I.hok e;have hz:xs.length<=sizeLine:=by rw[<- Paired.length rel];exact z
  have hl:(cH kvs k v).length<=sizeLine:=by have:=nB kvs k v;omega
  refine wpAny_setItem_heap (hsz:=hz) (tupleKind_room_in1 hu) (mw I.hok eb) dd λh' dd' hs=>h _ ?_;obtain⟨q,es,ep,hq,h2,h3,h4,_,h5⟩:=dd';refine Dq I (by rw[e];exact True.intro) hs ⟨q,hq⟩ ⟨hl,hd,_,(rel.put k eb rv).keeps λc ys ec=>?_,q,es,ep,hq,h2,h3,h4,h5⟩;rw[az (La ec e (λz=>nomatch z))];exact ec
end
def sf(i:Expr):Prop:=∀ov iv,subscripted i false ov iv=operate [ov,iv] (getItem ov iv)
theorem Ab{prog:Program}{w:World}{A:Around}{E:Value->Shared->Prop}{s:Shared}{env:Env}{value slice:Expr}{pos:Pos}{T id:String}{Q:Value->Shared->Prop}
 (hl:typeLookup (.type T) "__getitem__" = pure (some (.builtin id))) (hs:sf slice)
 (h:wpAny (model prog w) A (eval value env) (λo s₁=>wpAny (model prog w) A (eval slice env) (λi s₂=>s₂.TypeIs o T/\wpAny (model prog w) A (getItem o i) Q E s₂) E s₁) E s) :
 wpAny (model prog w) A (eval (.Subscript value slice pos) env) Q E s:=by
 refine Subscript_ (wpAny_mono h (λo s₁ h₁=>wpAny_mono h₁ (λi s₂ h₂=>?_) λ_ _ x=>x) λ_ _ x=>x);obtain⟨hT,h₂⟩:=h₂;unfold subscriptTail;refine wpAny_bind ?_;rw[getitemInPython_of_ne hT.not_modules];refine wpAny_bind (wpAny_specialOf hT hl ?_);have fin:wpAny (model prog w) A (subscripted slice false o i) (λr s₃=>wpAny (model prog w) A (letTemporaryGo value o r >>= λ_=>pure r) Q E s₃) E s₂:=by
  rw[hs o i];exact wpAny_operating (wpAny_mono h₂ (λr s₃ h₃=>wpAny_bind (wpAny_letTemporaryGo (wpAny_pure h₃))) λ_ _ x=>x)
 first
  | exact wpAny_pure (wpAny_bind fin)
  | exact wpAny_bind (wpAny_pure (wpAny_bind fin))
  | exact wpAny_bind fin
theorem PP {X:Cx} {pins:List (Addr × Obj)} {σ:St} {H:Hp} {s:Shared} {a:Addr} {y:V} {o:Option V} (I:ai X pins σ H s) (g:da H a y o):s.TypeIs (.ref a) "dict":=by
 rcases g with ⟨kvs,k,e,_,_⟩|⟨kvs,k,b,e,_,_,_⟩
 ·obtain⟨_,_,vs,_,dd⟩:=jJ I.hok e;exact dd.typeIs
 ·obtain⟨_,_,xs,_,dd⟩:=jI I.hok e;exact dd.typeIs
def zY(td ty:TE):TE:=λσ H Q=>td σ H λx H1=>ty σ H1 λy H2=>∃a v,x=.ref a/\da H2 a y (some v)/\Q v H2
def AW(td ty tv:TE):TS:=λD σ H=>tv σ H λv H1=>td σ H1 λx H2=>ty σ H2 λy H3=>∃a H4,x=.ref a/\iu H3 a y v H4/\D.nx σ H4
section
variable {X:Cx}{o i e value:Expr}{pos pos' tpos:Pos}{td ty tv:TE}
theorem Kh(hu:X.A.units+1<cLine)(ho:PE X o td)(hi:PE X i ty)(hs:sf i):PE X (.Subscript o i pos) (zY td ty):=by
 intro pins s σ H Q I h;refine Ab WT.lookup hs (aD (ho pins s σ H _ I h) λu s1 ⟨x,H1,I1,rx,q1⟩=>aD (hi pins s1 σ H1 _ I1 q1) λiv s2 ⟨y,H2,I2,ry,a,v,ex,g,q2⟩=>?_);subst ex;obtain rfl:u=Value.ref a:=rx;exact⟨PP I2 g,PV hu I2 g ry λw' s3 I3 rw'=>⟨v,H2,I3,rw',q2⟩⟩
theorem JD(hu:X.A.units+1<cLine)(ho:PE X o td)(hi:PE X i ty)(hv:PE X value tv)(hs:swapsWith value (some (.Subscript o i pos')) pos.line X.env=pure false) :
 PS X (.Assign [.Subscript o i pos'] value pos) (AW td ty tv):=by
 intro pins s σ H D I h;refine wpAny_Assign_Subscript (aD (hv pins s σ H _ I h) λr s1 ⟨v,H1,I1,rv,q1⟩=>aD (ho pins s1 σ H1 _ I1 q1) λu s2 ⟨x,H2,I2,rx,q2⟩=>aD (hi pins s2 σ H2 _ I2 q2) λiv s3 ⟨y,H3,I3,ry,a,H4,ex,g,q3⟩=>?_) hs;subst ex;obtain rfl:u=Value.ref a:=rx;exact PQ hu I3 g ry rv λs4 I4=>⟨σ,H4,I4,q3⟩
end
theorem PM{P:Program}{w:World}{H:Hp}(h:Heap)(hb:sysModules<h.objs.size):cg P w H (h.push { cls:=.type "dict",data:=.dict #[] }) h.objs.size (.dK []) :=
 ⟨Ux _,beq_eq_false_iff_ne.mpr (Ne.symm (Uo hb)),[],.nil,Heap.DictOf.new h⟩
theorem PC{P:Program}{w:World}{H:Hp}(h:Heap)(hb:sysModules<h.objs.size):cg P w H (h.push { cls:=.type "dict",data:=.dict #[] }) h.objs.size (.dT []) :=
 ⟨Ux _,beq_eq_false_iff_ne.mpr (Ne.symm (Uo hb)),[],.nil,_,#[],0,UG _ rfl,⟨rfl,rfl,rfl⟩,rfl,rfl,List.nodup_nil⟩
def FZ:TE:=λ_ H Q=>∀p,H p=none->Q (.ref p) (upd H p (.dK []))
def FY:TE:=λ_ H Q=>∀p,H p=none->Q (.ref p) (upd H p (.dT []))
section
variable {X:Cx}{pos:Pos}
theorem Kf:PE X (.Dict [] [] pos) FZ:=λpins s σ H Q I h =>
 wpAny_Dict_empty ⟨.ref s.heap.objs.size,_,I.laid (a:=s.heap.objs.size) (o:=.dK []) (t':=s.toks) (λ_ _ q=>Uj _ q) (Ue _) (PM s.heap I.big),rfl,h _ (I.hok.fresh (Ue _))⟩
theorem Ke:PE X (.Dict [] [] pos) FY:=λpins s σ H Q I h =>
 wpAny_Dict_empty ⟨.ref s.heap.objs.size,_,I.laid (a:=s.heap.objs.size) (o:=.dT []) (t':=s.toks) (λ_ _ q=>Uj _ q) (Ue _) (PC s.heap I.big),rfl,h _ (I.hok.fresh (Ue _))⟩
end
structure M1 (X:Cx) (o:Expr) (m:Str) (apos:Pos) (e:Expr) (cpos:Pos):Prop where
 base:attributeBase o m X.env (eval o X.env)=eval o X.env
 few:((backTo cpos (starEach [e] X.env)).all (λx=>!x.1) && (backToKw cpos (keywordEach [] X.env)).all (λx=>x.1.isSome)
  && decide (([e]:List Expr).length+([]:List Keyword).length+(if ([]:List Keyword).isEmpty then 0 else 1)<30))=true
 line:(apos.endLine == cpos.line)=true
 trees:backTo cpos (starEach [e] X.env)=[(false,eval e X.env)]
structure M2 (X:Cx) (o:Expr) (m:Str) (apos:Pos) (e f:Expr) (cpos:Pos):Prop where
 base:attributeBase o m X.env (eval o X.env)=eval o X.env
 few:((backTo cpos (starEach [e,f] X.env)).all (λx=>!x.1) && (backToKw cpos (keywordEach [] X.env)).all (λx=>x.1.isSome)
  && decide (([e,f]:List Expr).length+([]:List Keyword).length+(if ([]:List Keyword).isEmpty then 0 else 1)<30))=true
 line:(apos.endLine == cpos.line)=true
 trees:backTo cpos (starEach [e,f] X.env)=[(false,eval e X.env),(false,eval f X.env)]
def D7(H:Hp)(a:Addr):Prop:=(∃kvs,Rd H a (.dK kvs))\/∃kvs,Rd H a (.dT kvs)
theorem MI{X:Cx}{pins:List (Addr × Obj)}{σ:St}{H:Hp}{s:Shared}{a:Addr}(I:ai X pins σ H s)(d:D7 H a) :
 s.TypeIs (.ref a) "dict"/\(∀b,Value.ref a=.ref b->∃ob,s.heap.get? b=some ob/\ob.dict=none)/\(a == sysModules)=false:=by
 rcases d with ⟨kvs,e⟩|⟨kvs,e⟩
 ·obtain⟨_,hd,vs,_,dd⟩:=jJ I.hok e;refine⟨dd.typeIs,λb q=>?_,hd⟩;cases q;obtain⟨ob,_,_,h1,h2,_⟩:=dd;exact⟨ob,h1,h2.2.1⟩
 ·obtain⟨_,hd,xs,_,dd⟩:=jI I.hok e;refine⟨dd.typeIs,λb q=>?_,hd⟩;cases q;obtain⟨ob,_,_,h1,h2,_⟩:=dd;exact⟨ob,h1,h2.2.1⟩
section
variable {X:Cx}{pins:List (Addr × Obj)}{σ:St}{H:Hp}{s:Shared}{a:Addr}{y d:V}{u r:Value}{o:Option V}{A:Around}{E:Value->Shared->Prop}
theorem PX{Q:Value->Shared->Prop}(hu:A.units+1<cLine)(I:ai X pins σ H s)(g:da H a y o)(ry:aQ y u)(h:∀w' s',ai X pins σ H s'->aQ (o.getD .non) w'->Q w' s') :
 wpAny (model X.prog X.w) A (call (.builtin "dict.get") [.ref a,u]) Q E s:=by
 rcases g with ⟨kvs,k,e,ey,l⟩|⟨kvs,k,b,e,ey,eb,l⟩
 ·subst ey;obtain⟨z,hd,vs,rel,dd⟩:=jJ I.hok e;refine call_meetsIn Vx dd.typeIs Wi (WU _ _) (meets_dict_get (cK X.prog X.w) a (iH ry) hd) ⟨_,dd.mapOf,h _ _ (I.tok _) ?_⟩;rw[l];exact (rel.val k).getD Z
 ·subst ey;cases (show u=Value.ref b from ry);obtain⟨z,hd,xs,rel,dd⟩:=jI I.hok e;refine call_meetsIn Vx dd.typeIs Wi (WU _ _) (meetsH_dict_get (tupleKind (cK X.prog X.w)) a b hd) ⟨tupleKind_room_in1 hu,k,xs,mw I.hok eb,dd,h _ _ (I.tok _) ?_⟩;rw[l];exact (rel.val k).getD Z
end
def zX(td ty:TE):TE:=λσ H Q=>td σ H λx H1=>∃a,x=.ref a/\D7 H1 a/\ty σ H1 λy H2=>∃o,da H2 a y o/\Q (o.getD .non) H2
section
variable {X:Cx}{o e f:Expr}{apos cpos:Pos}{td ty tx:TE}
theorem Kg (hu:X.A.units+1<cLine) (ho:PE X o td) (he:PE X e ty) (m:M1 X o "get" apos e cpos):PE X (.Call (.Attribute o "get" apos) [e] [] cpos) (zX td ty):=by
 intro pins s σ H Q I h;refine wpAny_Call_method m.base m.few m.line WV Vx WW (aD (ho pins s σ H _ I h) λu s1 ⟨x,H1,I1,rx,a,ex,d,q1⟩=>?_);subst ex;obtain rfl:u=Value.ref a:=rx;obtain⟨t1,t2,_⟩:=MI I1 d;refine⟨t1,t2,?_⟩;rw[m.trees];refine Calls.callWith_builtin Z (Calls.evalArgs_plain (Calls.spliced_cons (aD (he pins s1 σ H1 _ I1 q1) λiv s2 ⟨y,H2,I2,ry,ov,g,q2⟩=>Calls.spliced_nil ?_)));exact PX hu I2 g ry λw' s3 I3 rw'=>⟨_,H2,I3,rw',q2⟩
end
end L2
namespace HT
open PySem PyProof.Rows
section
variable {prog:Program}{w:World}{A:Around}{E:Value->Shared->Prop}{s:Shared}
def sIx(n d:Nat):Option Int->Nat
 | none=>d
 | some v=>if v<0 then (v+(n:Int)).toNat else min v.toNat n
theorem Im(n d:Nat)(hd:d<=n)(o:Option Int):sIx n d o<=n:=by
 cases o with
 | none=>exact hd
 | some v =>
  show (if v<0 then (v+(n:Int)).toNat else min v.toNat n)<=n;by_cases hv:v<0
  ·rw[if_pos hv];omega
  ·rw[if_neg hv];exact Nat.min_le_right _ _
theorem DB(v:Int)(n d:Nat):(if v<0 then max (v+(n:Int)) 0 else min v (n:Int))=((sIx n d (some v):Nat):Int):=by
 show (if v<0 then max (v+(n:Int)) 0 else min v (n:Int))=(((if v<0 then (v+(n:Int)).toNat else min v.toNat n):Nat):Int);by_cases hv:v<0
 ·simp only [if_pos hv];omega
 ·simp only [if_neg hv];omega
theorem Sj(lo hi:Option Int)(n:Nat):Builtin.Slice.sliceAdjust lo hi 1 (n:Int)=(((sIx n 0 lo:Nat):Int),((sIx n n hi:Nat):Int)):=by
 have h1:¬((1:Int)<0):=by omega
 unfold Builtin.Slice.sliceAdjust;simp only [h1,if_false];refine Prod.ext ?_ ?_
 ·cases lo with
  | none=>rfl
  | some v=>exact DB v n 0
 ·cases hi with
  | none=>rfl
  | some v=>exact DB v n n
theorem JP(i j:Nat):Builtin.Slice.slicePlaces (i:Int) (j:Int) 1=j-i:=by
 unfold Builtin.Slice.slicePlaces;have h1:(1:Int) > 0:=by omega
 simp only [h1,if_true,Int.ediv_one]
 split<;>omega
theorem Az{v:Value}{o:Option Int}{Q:Option Int->Shared->Prop}(p:IsPart v o)(h:Q o s):wpAny (model prog w) A (Builtin.Slice.slicePartIndex v) Q E s:=by
 cases p with
 | none=>exact slicePart_none h
 | int i t=>exact slicePart_int h
theorem AA{sl:Addr}{vl vu:Value}{lo hi:Option Int}{n:Nat}{Q:Int × Int × Nat->Shared->Prop}(hs:s.heap.IsSliceOf sl vl vu .none)(pl:IsPart vl lo)(pu:IsPart vu hi)
 (h:Q (((sIx n 0 lo:Nat):Int),1,sIx n n hi-sIx n 0 lo) s):wpAny (model prog w) A (Builtin.Slice.sliceApplied (.ref sl) (pure (n:Int))) Q E s:=by
 obtain⟨os,hos,hcs,hds⟩:=id hs;unfold Builtin.Slice.sliceApplied Builtin.Slice.sliceFields;refine wpAny_bind (wpAny_bind (wpAny_field hos hds (x:=vl) Z (wpAny_bind (wpAny_field hos hds (x:=vu) Z (wpAny_bind (wpAny_field hos hds (x:=.none) Z (wpAny_pure ?_)))))));refine wpAny_bind (slicePart_none ?_);show wpAny _ _ (if ((1:Int) == 0)=true then _ else _) _ _ s;rw[if_neg (by decide)];refine wpAny_bind (Az pl (wpAny_bind (Az pu (wpAny_bind (wpAny_pure ?_)))));show wpAny _ _ (match Builtin.Slice.sliceAdjust lo hi 1 (n:Int) with|(lo,hi)=>pure (lo,(1:Int),Builtin.Slice.slicePlaces lo hi 1)) _ _ s;rw[Sj lo hi n];show wpAny _ _ (pure (((sIx n 0 lo:Nat):Int),(1:Int),Builtin.Slice.slicePlaces ((sIx n 0 lo:Nat):Int) ((sIx n n hi:Nat):Int) 1)) _ _ s;rw[JP];exact wpAny_pure h
theorem JQ(xs:Array Value)(i k:Nat):((List.range k).filterMap λ(m:Nat)=>xs[((i:Int)+(m:Int)*1).toNat]?).toArray=((xs.toList.drop i).take k).toArray:=by
 have e:(λ(m:Nat)=>xs[((i:Int)+(m:Int)*1).toNat]?)=λm=>xs[i+m]?:=by
  funext m
  have:((i:Int)+(m:Int)*1).toNat=i+m:=by omega
  rw[this]
 rw[e];have:=pick_run xs i k;rw[List.filterMap_map]at this;have e2:((λx=>xs[x]?) ∘ λx=>i+x)=λm=>xs[i+m]?:=rfl;rw[e2]at this;rw[this]
theorem getItem_tuple_cut{t sl:Addr}{items:Array Value}{vl vu:Value}{lo hi:Option Int}{Q:Value->Shared->Prop}(ht:IsTup s.heap t items)(hs:s.heap.IsSliceOf sl vl vu .none)(pl:IsPart vl lo)(pu:IsPart vu hi)
 (hw:¬(sIx items.size 0 lo=0/\sIx items.size items.size hi=items.size))
 (h:Q (.ref s.heap.objs.size) { s with heap:=s.heap.push { cls:=.type "tuple",data:=.seq ((items.toList.drop (sIx items.size 0 lo)).take (sIx items.size items.size hi-sIx items.size 0 lo)).toArray } })
 (hsz:items.size<=sizeLine):wpAny (model prog w) A (getItem (.ref t) (.ref sl)) Q E s:=by
 have htake:sizeOk (.seq ((items.toList.drop (sIx items.size 0 lo)).take (sIx items.size items.size hi-sIx items.size 0 lo)).toArray):=by
  show ((items.toList.drop (sIx items.size 0 lo)).take (sIx items.size items.size hi-sIx items.size 0 lo)).toArray.size<=sizeLine;rw[Um,Ul,U5,UF];omega
 have hj:sIx items.size items.size hi<=items.size:=Im _ _ (Ue _) hi;obtain⟨os,hos,hcs,hds⟩:=id hs;have hTs:s.TypeIs (.ref sl) "slice":=⟨os,hos,hcs⟩;unfold getItem
 try with_reducible refine wpAny_holding ?_
 first|refine wpAny_bind (wpAny_pure ?_)|skip
 refine wpAny_bind (wpAny_sequenceKey ht.typeIs (by decide) ?_);refine wpAny_bind (wpAny_callSpecial?_slot (name:=Str.ofString "__getitem__") ht.typeIs Vl
  (wpAny_call_entry Vl ht.typeIs entry_tuple_getitem ?_ (args_tuple_getitem _ _)))
 show wpAny _ _ (Builtin.Tuple.tupleItemsOf (.ref t) >>= _) _ _ s;refine wpAny_bind (tupleItemsOf_ ht ?_);refine wpAny_bind (wpAny_typeOf hTs ?_);rw[if_pos (by decide)];refine wpAny_bind (AA hs pl pu ?_);have hno:¬((((sIx items.size 0 lo:Nat):Int) == 0 && (1:Int) == 1 && (sIx items.size items.size hi-sIx items.size 0 lo) == items.size)=true):=by
  intro q;rw[UD,UD]at q;have q1:((sIx items.size 0 lo:Nat):Int)=0:=eq_of_beq q.1.1;have q2:sIx items.size items.size hi-sIx items.size 0 lo=items.size:=eq_of_beq q.2;exact hw ⟨by omega,by omega⟩
 show wpAny _ _ (if (((sIx items.size 0 lo:Nat):Int) == 0 && (1:Int) == 1 && (sIx items.size items.size hi-sIx items.size 0 lo) == items.size)=true then _ else _) _ _ s;rw[if_neg hno,JQ]
 first
  | exact wpAny_bind (m:=Builtin.Tuple.tupleExact _) (wpAny_newObj_type (wpAny_pure ⟨_,rfl,wpAny_pure h⟩) htake)
  | exact wpAny_bind (m:=Builtin.Tuple.tupleExact _) (wpAny_newObj_type (wpAny_bind (wpAny_pure (wpAny_pure ⟨_,rfl,wpAny_pure h⟩))) htake)
  | exact wpAny_bind (wpAny_bind (m:=Builtin.Tuple.tupleExact _) (wpAny_newObj_type (wpAny_pure (wpAny_pure ⟨_,rfl,wpAny_pure h⟩)) htake))
  | exact wpAny_bind (wpAny_bind (m:=Builtin.Tuple.tupleExact _) (wpAny_newObj_type (wpAny_pure ⟨_,rfl,wpAny_pure h⟩) htake))
end
end HT
namespace L2
open PySem PySem.Spec PyProof.Rows
abbrev TO:=St->Hp->(Option Int->Hp->Prop)->Prop
def PO(X:Cx)(e:Option Expr)(t:TO):Prop :=
 ∀(pins:List (Addr × Obj)) (s:Shared) (σ:St) (H:Hp) (Q:Option Int->Hp->Prop),ai X pins σ H s->t σ H Q ->
  wpAny (model X.prog X.w) X.A (evalPart e X.env) (λu s'=>∃o H',ai X pins σ H' s'/\IsPart u o/\Q o H') X.xe s
def zO:TO:=λ_ H Q=>Q none H
def zK(t:TE):TO:=λσ H Q=>t σ H λx H1=>∃i,x=.int i/\Q (some i) H1
section
variable {X:Cx}{e:Expr}{te:TE}{lo hi:Option Expr}{tl th:TO}{pos p2:Pos}
theorem JO:PO X none zO:=by
 intro pins s σ H Q I h;rw[evalPart_none];exact wpAny_pure ⟨none,H,I,.none,h⟩
theorem JN(h:PE X e te):PO X (some e) (zK te):=by
 intro pins s σ H Q I hw;rw[evalPart_some];refine aD (h pins s σ H _ I hw) λu s1 ⟨x,H1,I1,r1,q1⟩=>?_;obtain⟨i,rfl,q⟩:=q1;obtain⟨t,rfl⟩:=r1;exact⟨some i,H1,I1,.int i t,q⟩
def jd(X:Cx)(r:V->Option Int->Option Int->Hp->VK->Prop):Prop :=
 ∀(pins:List (Addr × Obj)) (s:Shared) (σ:St) (H:Hp) (x:V) (v vl vu:Value) (lo hi:Option Int) (sl:Addr) (Q:VK),ai X pins σ H s->aQ x v->s.heap.IsSliceOf sl vl vu .none->IsPart vl lo->IsPart vu hi->r x lo hi H Q ->
  ∃T id,typeLookup (.type T) "__getitem__" = pure (some (.builtin id))/\s.TypeIs v T/\wpAny (model X.prog X.w) X.A (getItem v (.ref sl)) (EP X pins σ Q) X.xe s
def zH(r:V->Option Int->Option Int->Hp->VK->Prop)(te:TE)(tl th:TO):TE:=λσ H Q=>te σ H λx H1=>tl σ H1 λl H2=>th σ H2 λu H3=>r x l u H3 Q
theorem J4{r:V->Option Int->Option Int->Hp->VK->Prop}(hr:jd X r)(he:PE X e te)(hl:PO X lo tl)(hu:PO X hi th):PE X (.Subscript e (.Slice lo hi none p2) pos) (zH r te tl th):=by
 intro pins s σ H Q I h;refine Subscript_ (aD (he pins s σ H _ I h) λv s1 ⟨x,H1,I1,r1,q1⟩=>?_);refine wpAny_Slice (aD (hl pins s1 σ H1 _ I1 q1) λvl s2 ⟨l,H2,I2,pl,q2⟩=>aD (hu pins s2 σ H2 _ I2 q2) λvu s3 ⟨u,H3,I3,pu,q3⟩=>?_);rw[evalPart_none];refine wpAny_pure ?_;have I4:ai X pins σ H3 { s3 with heap:=s3.heap.push { cls:=.type "slice",data:=.fields #[vl,vu,.none] } }:=I3.kept (t':=s3.toks) λb ob q=>Uj _ q;obtain⟨T,id,hT,ht,hg⟩:=hr pins { s3 with heap:=s3.heap.push { cls:=.type "slice",data:=.fields #[vl,vu,.none] } } σ H3 x v vl vu l u s3.heap.objs.size Q I4 r1 (Heap.IsSliceOf.new ..) pl pu q3;show wpAny (model X.prog X.w) X.A (subscriptTail e (.Slice lo hi none p2) v (.ref s3.heap.objs.size)) (EP X pins σ Q) X.xe { s3 with heap:=s3.heap.push { cls:=.type "slice",data:=.fields #[vl,vu,.none] } };exact tail_any (ops:=[.ref s3.heap.objs.size,v]) ht hT hg (by with_unfolding_all rfl)
def dD(xs:List V)(lo hi:Option Int):List V:=(xs.drop (HT.sIx xs.length 0 lo)).take (HT.sIx xs.length xs.length hi-HT.sIx xs.length 0 lo)
theorem Dw(xs:List V)(lo hi:Option Int):(dD xs lo hi).length<=xs.length:=by
 unfold dD;rw[Ul,U5];omega
def IE(K:W.Frag):V->Option Int->Option Int->Hp->VK->Prop:=λx lo hi H Q=>∃a xs,x=.ref a/\bo K H a xs /\
 ¬(HT.sIx xs.length 0 lo=0/\HT.sIx xs.length xs.length hi=xs.length)/\∀p,H p=none->Q (.ref p) (upd H p (.tup (dD xs lo hi)))
theorem Ha:jd X (IE X.K):=by
 intro pins s σ H x v vl vu lo hi sl Q I rx hs pl pu h;obtain⟨a,xs,rfl,hx,hw,q⟩:=h;cases rx;obtain⟨its,r,ht,hz⟩:=I.tuple hx;have hlen:its.toArray.size=xs.length:=by rw[Um];exact r.length.symm
 refine⟨"tuple",_,Vl.lookup,ht.typeIs,?_⟩;refine HT.getItem_tuple_cut ht hs pl pu (by rw[hlen];exact hw) ?_ (by rw[hlen];exact hz);rw[hlen];refine⟨.ref s.heap.objs.size,_,I.laid (t':=s.toks) (o:=.tup (dD xs lo hi)) (λb ob q=>Uj _ q) (Ue _) ?_,Z,q _ (I.hok.fresh (Ue _))⟩;exact⟨UE (Dw xs lo hi) hz,_,(r.drop (HT.sIx xs.length 0 lo)).take (HT.sIx xs.length xs.length hi-HT.sIx xs.length 0 lo),IsTup.new _ _⟩
end
def my(n:Nat)(i:Int):Option Nat:=if 0<=i then (if i<n then some i.toNat else none) else if -(n:Int)<=i then some (i+n).toNat else none
def cW{α:Type}(xs:List α)(i:Int):Option α:=(my xs.length i).bind λj=>xs[j]?
theorem ME{n:Nat}{i:Int}{j:Nat}(h:my n i=some j):seqIndex? i n=some j/\j<n/\-(n:Int)<=i/\i<n:=by
 unfold my at h;by_cases h0:0<=i
 ·rw[if_pos h0]at h;by_cases h1:i<n
  ·rw[if_pos h1]at h;have e:i.toNat=j:=UO h;exact⟨by rw[seqIndex_of h0 h1,e],by omega,by omega,h1⟩
  ·rw[if_neg h1]at h;cases h
 ·rw[if_neg h0]at h;by_cases h1 : -(n:Int)<=i
  ·rw[if_pos h1]at h;have e:(i+n).toNat=j:=UO h;exact⟨by rw[seqIndex_neg (by omega) h1,e],by omega,h1,by omega⟩
  ·rw[if_neg h1]at h;cases h
theorem DV{α:Type}{xs:List α}{i:Int}{v:α}(h:cW xs i=some v):∃j,seqIndex? i xs.length=some j/\xs[j]? = some v/\j<xs.length/\-(xs.length:Int)<=i/\i<xs.length:=by
 unfold cW at h;cases e:my xs.length i with
 | none=>rw[e]at h;cases h
 | some j =>
  rw[e]at h;obtain⟨h1,h2,h3,h4⟩:=ME e;exact⟨j,h1,h,h2,h3,h4⟩
theorem aB{α:Type}{xs:List α}{j:Nat}{v:α}(h:xs[j]? = some v):cW xs (j:Int)=some v:=by
 have hj:j<xs.length:=(Uk.mp h).1;have e:my xs.length (j:Int)=some j:=by
  unfold my;rw[if_pos (by omega),if_pos (by omega)];simp
 unfold cW;rw[e];exact h
def D4(b:Expr):Prop:=∀o i,subscripted b false o i=operate [o,i] (getItem o i)
def gq(X:Cx)(r:R2):Prop :=
 ∀(value slice:Expr) (pins:List (Addr × Obj)) (s:Shared) (σ:St) (H:Hp) (x y:V) (v u:Value) (Q:VK),ai X pins σ H s->aQ x v->aQ y u->r x y H Q ->
  subscripted slice false v u=operate [v,u] (getItem v u)->wpAny (model X.prog X.w) X.A (subscriptTail value slice v u) (EP X pins σ Q) X.xe s
def gp(X:Cx)(id:String)(r:V->List V->Hp->VK->Prop):Prop :=
 ∀(pins:List (Addr × Obj)) (s:Shared) (σ:St) (H:Hp) (x:V) (xs:List V) (v:Value) (us:List Value) (Q:VK),ai X pins σ H s->aQ x v->aL xs us->r x xs H Q ->
  wpAny (model X.prog X.w) X.A (call (.builtin id) (v::us)) (EP X pins σ Q) X.xe s
section
variable {X:Cx}{a b:Expr}{ta tb:TE}{pos:Pos}
theorem gq.or{r r':R2}(h:gq X r)(h':gq X r'):gq X (λx y H Q=>r x y H Q\/r' x y H Q):=by
 intro value slice pins s σ H x y v u Q I rx ry q hs;rcases q with q|q
 ·exact h value slice pins s σ H x y v u Q I rx ry q hs
 ·exact h' value slice pins s σ H x y v u Q I rx ry q hs
theorem Ka{r:R2}(hr:gq X r)(ha:PE X a ta)(hb:PE X b tb)(hs:D4 b):PE X (.Subscript a b pos) (fE r ta tb):=by
 intro pins s σ H Q I h;exact Subscript_ (xG ha hb I h λv u s2 x y H2 I2 rx ry q=>hr a b pins s2 σ H2 x y v u Q I2 rx ry q (hs _ _))
def IL(K:W.Frag):R2:=λx y H Q=>∃p xs i v,x=.ref p/\y=.int i/\aF K H p xs/\cW xs i=some v/\Q v H
def IK(K:W.Frag):R2:=λx y H Q=>∃p xs i v,x=.ref p/\y=.int i/\bo K H p xs/\cW xs i=some v/\Q v H
theorem MD:gq X (IL X.K):=by
 intro value slice pins s σ H x y v u Q I rx ry h hs;obtain⟨p,xs,i,z,rfl,rfl,hq,he,q⟩:=h;cases rx;obtain⟨t,rfl⟩:=ry;obtain⟨its,r,pl,hz⟩:=I.list hq;obtain⟨j,h1,h2,h3,h4,h5⟩:=DV he;obtain⟨w,ew,rw'⟩:=r.get h2;have hl:=r.length;have hn:=pS;have fin:EP X pins σ Q w s:=⟨z,H,I,rw',q⟩;by_cases h0:0<=i
 ·have hj:i.toNat=j:=by
   rw[seqIndex_of h0 h5]at h1;exact UO h1
  exact item_listR pl.isList h0 (by omega) (by rw[hj];simpa using ew) fin hs
 ·have hj:(i+(its.toArray.size:Int)).toNat=j:=by
   rw[seqIndex_neg (by omega) h4]at h1;rw[Um,<- hl];exact UO h1
  exact subscriptTail_builtinR (x:=w) pl.isList.typeIs slot_list_getitem.lookup
   (wpAny_getItem_list_neg (Q:=λr s'=>r=w/\EP X pins σ Q r s') pl.isList (by omega) (by rw[Um]<;>omega) (by omega) (by rw[hj];simpa using ew) ⟨rfl,fin⟩) hs
theorem MC:gq X (IK X.K):=by
 intro value slice pins s σ H x y v u Q I rx ry h hs;obtain⟨p,xs,i,z,rfl,rfl,hq,he,q⟩:=h;cases rx;obtain⟨t,rfl⟩:=ry;obtain⟨its,r,pl,hz⟩:=I.tuple hq;obtain⟨j,h1,h2,h3,h4,h5⟩:=DV he;obtain⟨w,ew,rw'⟩:=r.get h2;have hl:=r.length;have hn:=pS;have fin:EP X pins σ Q w s:=⟨z,H,I,rw',q⟩;exact subscriptTail_builtinR (x:=w) pl.typeIs slot_tuple_getitem.lookup
  (getItem_tuple (j:=j) (Q:=λr s'=>r=w/\EP X pins σ Q r s') pl (by omega) (by omega) (by rw[Um,<- hl];exact h1) (by simpa using ew) ⟨rfl,fin⟩) hs
theorem G8(lo hi:Option Int)(n:Nat):(sliceBounds lo hi none n).1=((HT.sIx n 0 lo:Nat):Int)/\(sliceBounds lo hi none n).2.1=((HT.sIx n n hi:Nat):Int)/\(sliceBounds lo hi none n).2.2=1:=by
 refine⟨?_,?_,Z⟩
 ·cases lo with
  | none=>simp[sliceBounds,HT.sIx]
  | some i =>
   simp only [sliceBounds,HT.sIx,Wj,show (1:Int) > 0 by decide,if_true];by_cases h:i<0
   ·simp only [h,if_true]<;>omega
   ·simp only [h,if_false]<;>omega
 ·cases hi with
  | none=>simp[sliceBounds,HT.sIx]
  | some i =>
   simp only [sliceBounds,HT.sIx,Wj,show (1:Int) > 0 by decide,if_true];by_cases h:i<0
   ·simp only [h,if_true]<;>omega
   ·simp only [h,if_false]<;>omega
theorem G9(its:List Value)(lo hi:Option Int):slicePick its.toArray lo hi none=((its.drop (HT.sIx its.length 0 lo)).take (HT.sIx its.length its.length hi-HT.sIx its.length 0 lo)).toArray:=by
 obtain⟨h1,h2,h3⟩:=G8 lo hi its.toArray.size;unfold slicePick;rw[h1,h2,h3];simp only [sliceRange_one,pick_run,Um]<;>rfl
def IF(K:W.Frag):V->Option Int->Option Int->Hp->VK->Prop:=λx lo hi H Q=>∃a xs,x=.ref a/\aF K H a xs/\∀p,H p=none->Q (.ref p) (upd H p (.lst (dD xs lo hi)))
theorem Hc:jd X (IF X.K):=by
 intro pins s σ H x v vl vu lo hi sl Q I rx hs pl pu h;obtain⟨a,xs,rfl,hx,q⟩:=h;cases rx;obtain⟨its,r,ht,hz⟩:=I.list hx;have hlen:=r.length;refine⟨"list",_,slot_list_getitem.lookup,ht.isList.typeIs,?_⟩;refine wpAny_getItem_list_slice ht.isList hs pl pu .none (by simp) ?_ (by rw[Um]<;>omega);rw[G9,<- hlen];refine⟨.ref s.heap.objs.size,_,I.laid (t':=s.toks) (o:=.lst (dD xs lo hi)) (λb ob q=>Uj _ q) (Ue _) ?_,Z,q _ (I.hok.fresh (Ue _))⟩;exact⟨UE (Dw xs lo hi) hz,_,0,(r.drop (HT.sIx xs.length 0 lo)).take (HT.sIx xs.length xs.length hi-HT.sIx xs.length 0 lo),UG _ Z⟩
def fX:V->Bool
 | .non=>true
 | .bl _=>true
 | .int _=>true
 | .str _=>true
 | _=>false
def dC:V->V->Bool
 | .non,.non=>true
 | .bl a,.bl b=>a == b
 | .bl a,.int b=>(if a then 1 else 0) == b
 | .int a,.bl b=>a == (if b then 1 else 0)
 | .int a,.int b=>a == b
 | .str a,.str b=>a == b
 | _,_=>false
theorem Px{A:Around}{s:Shared}{y x:V}{u v:Value}(ry:aQ y u)(rx:aQ x v)(fy:fX y=true)(fx:fX x=true):SeqAt.EqAt A s u v (dC y x):=by
 cases y with
 | non =>
  cases ry;cases x with
  | non=>cases rx;exact SeqAt.EqAt.same _
  | bl b=>cases rx;exact SeqAt.EqAt.none_bool b
  | int b=>obtain⟨t,rfl⟩:=rx;exact SeqAt.EqAt.none_int b t
  | str b=>obtain⟨t,rfl⟩:=rx;exact SeqAt.EqAt.none_str b t
  | _=>exact absurd (show false=true from fx) Ut
 | bl a =>
  cases ry;cases x with
  | non=>cases rx;exact SeqAt.EqAt.bool_none a
  | bl b=>cases rx;exact SeqAt.EqAt.bool_bool a b
  | int b=>obtain⟨t,rfl⟩:=rx;exact SeqAt.EqAt.bool_int a b t
  | str b=>obtain⟨t,rfl⟩:=rx;exact SeqAt.EqAt.bool_str a b t
  | _=>exact absurd (show false=true from fx) Ut
 | int a =>
  obtain⟨t',rfl⟩:=ry;cases x with
  | non=>cases rx;exact SeqAt.EqAt.int_none a t'
  | bl b=>cases rx;exact SeqAt.EqAt.int_bool a t' b
  | int b=>obtain⟨t,rfl⟩:=rx;exact SeqAt.EqAt.int_int a t' b t
  | str b=>obtain⟨t,rfl⟩:=rx;exact SeqAt.EqAt.int_str a t' b t
  | _=>exact absurd (show false=true from fx) Ut
 | str a =>
  obtain⟨t',rfl⟩:=ry;cases x with
  | non=>cases rx;exact SeqAt.EqAt.str_none a t'
  | bl b=>cases rx;exact SeqAt.EqAt.str_bool a t' b
  | int b=>obtain⟨t,rfl⟩:=rx;exact SeqAt.EqAt.str_int a t' b t
  | str b=>obtain⟨t,rfl⟩:=rx;exact SeqAt.EqAt.str_str a t' b t
  | _=>exact absurd (show false=true from fx) Ut
 | _=>exact absurd (show false=true from fy) Ut
def eX(x:V)(u:Value):Bool:=match u with
 | .none=>dC .non x
 | .bool b=>dC (.bl b) x
 | .int i _=>dC (.int i) x
 | .str z _=>dC (.str z) x
 | _=>false
theorem vY{x y:V}{u:Value}(r:aQ y u)(f:fX y=true):eX x u=dC y x:=by
 cases y with
 | non=>cases r;rfl
 | bl b=>cases r;rfl
 | int i=>obtain⟨t,rfl⟩:=r;rfl
 | str z=>obtain⟨t,rfl⟩:=r;rfl
 | _=>exact absurd (show false=true from f) Ut
theorem n6{x:V}:∀ {xs:List V} {us:List Value},aL xs us->xs.all fX=true->us.any (eX x)=xs.any λy=>dC y x
 | _,_,.nil,_=>rfl
 | y::xs,u::us,.cons r t,f=>by
  rw[List.all_cons,UD]at f;rw[Vj,Vj,vY r f.1,n6 t f.2]
theorem mq{A:Around}{s:Shared}{x:V}{v:Value}(rx:aQ x v)(fx:fX x=true):∀ {xs:List V} {us:List Value},aL xs us->xs.all fX=true->∀u∈us,SeqAt.EqAt A s u v (eX x u)
 | _,_,.nil,_=>λu hu=>by cases hu
 | y::xs,u::us,.cons r t,f=>λu' hu=>by
  rw[List.all_cons,UD]at f;rcases Uy.mp hu with rfl|hu
  ·rw[vY r f.1];exact Px r rx f.1 fx
  ·exact mq rx fx t f.2 u' hu
def bC(x:V)(xs:List V):Bool:=xs.any λy=>dC y x
def Ba(K:W.Frag)(neg:Bool):R2:=λx y H Q=>∃p xs,y=.ref p/\(aF K H p xs\/bo K H p xs)/\fX x=true/\xs.all fX=true/\Q (.bl (if neg then !bC x xs else bC x xs)) H
theorem KG:ba X (compareOp .In) (Ba X.K false):=by
 intro pins s σ H x y v u Q I rx ry h;obtain⟨p,xs,rfl,hq,fx,fs,q⟩:=h;cases ry;rcases hq with hq|hq
 ·obtain⟨its,r,pl,hz⟩:=I.list hq;refine SeqAt.in_listAt (eX x) pl.isList (λw hw=>mq rx fx r fs w (by simpa using hw)) ⟨.bl _,H,I,rfl,?_⟩;rw[show its.toArray.any (eX x)=its.any (eX x) by simp,n6 r fs];exact q
 ·obtain⟨its,r,pl,hz⟩:=I.tuple hq;refine SeqAt.in_tupleAt (eX x) pl (λw hw=>mq rx fx r fs w (by simpa using hw)) ⟨.bl _,H,I,rfl,?_⟩;rw[show its.toArray.any (eX x)=its.any (eX x) by simp,n6 r fs];exact q
theorem KB:ba X (compareOp .NotIn) (Ba X.K true):=by
 intro pins s σ H x y v u Q I rx ry h;obtain⟨p,xs,rfl,hq,fx,fs,q⟩:=h;cases ry;rcases hq with hq|hq
 ·obtain⟨its,r,pl,hz⟩:=I.list hq;refine SeqAt.notIn_listAt (eX x) pl.isList (λw hw=>mq rx fx r fs w (by simpa using hw)) ⟨.bl _,H,I,rfl,?_⟩;rw[show its.toArray.any (eX x)=its.any (eX x) by simp,n6 r fs];exact q
 ·obtain⟨its,r,pl,hz⟩:=I.tuple hq;refine SeqAt.notIn_tupleAt (eX x) pl (λw hw=>mq rx fx r fs w (by simpa using hw)) ⟨.bl _,H,I,rfl,?_⟩;rw[show its.toArray.any (eX x)=its.any (eX x) by simp,n6 r fs];exact q
theorem Qh:cw X (.builtin "len") (λxs H Q=>∃p ys,xs=[.ref p]/\(aF X.K H p ys\/bo X.K H p ys)/\Q (.int ys.length) H):=by
 intro pins s σ H xs us Q I r h;obtain⟨p,ys,rfl,hq,q⟩:=h;obtain⟨u,rfl,rx⟩:=iw r;cases rx;have hn:=pS;rcases hq with hq|hq
 ·obtain⟨its,r',pl,hz⟩:=I.list hq;have hlen:=r'.length;exact Calls.call_len_list pl.isList (by simp only [Um]<;>omega) ⟨.int ys.length,H,I.tok _,⟨s.toks+1,by rw[Um,hlen]⟩,q⟩
 ·obtain⟨its,r',pl,hz⟩:=I.tuple hq;have hlen:=r'.length;exact len_tuple pl (by simp only [Um]<;>omega) ⟨.int ys.length,H,I.tok _,⟨s.toks+1,by rw[Um,hlen]⟩,q⟩
theorem Qg:cw X (.type "list") (λxs H Q=>∃p ys,xs=[.ref p]/\(aF X.K H p ys\/bo X.K H p ys)/\∀l,H l=none->Q (.ref l) (upd H l (.lst ys))):=by
 intro pins s σ H xs us Q I r h;obtain⟨p,ys,rfl,hq,q⟩:=h;obtain⟨u,rfl,rx⟩:=iw r;cases rx;have fin:∀(its:List Value),aL ys its->ys.length<=sizeLine->∀(h':Heap) (c':Nat),(∀b o',s.heap.get? b=some o'->h'.get? b=some o') ->
  h'.get? s.heap.objs.size=some { cls:=.type "list",dict:=none,data:=.seq its.toArray c',slots:=#[] }->EP X pins σ Q (.ref s.heap.objs.size) { s with heap:=h' }:=λits r' hz h' c' kp e =>
  ⟨.ref s.heap.objs.size,_,I.laid (t':=s.toks) kp (Ue _) (show cg X.prog X.w _ h' _ (.lst ys) from ⟨hz,its,c',r',e⟩),rfl,q _ (I.hok.fresh (Ue _))⟩
 rcases hq with hq|hq
 ·obtain⟨its,r',pl,hz⟩:=I.list hq;have hlen:=r'.length;obtain⟨o,ho,hc,n,hd⟩:=pl.isList;exact call_list_seq p (.inl rfl) ho hc hd (λh' c' kp e=>fin its r' hz h' c' kp e) (by simp only [Um]<;>omega)
 ·obtain⟨its,r',pl,hz⟩:=I.tuple hq;have hlen:=r'.length;obtain⟨o,ho,hc,n,hd⟩:=pl;exact call_list_seq p (.inr rfl) ho hc hd (λh' c' kp e=>fin its r' hz h' c' kp e) (by simp only [Um]<;>omega)
theorem Qf:cw X (.type "tuple") (λxs H Q=>∃p ys,xs=[.ref p]/\((aF X.K H p ys/\∀l,H l=none->Q (.ref l) (upd H l (.tup ys)))\/(bo X.K H p ys/\Q (.ref p) H))):=by
 intro pins s σ H xs us Q I r h;obtain⟨p,ys,rfl,h⟩:=h;obtain⟨u,rfl,rx⟩:=iw r;cases rx;rcases h with ⟨hq,q⟩|⟨hq,q⟩
 ·obtain⟨its,r',pl,hz⟩:=I.list hq;have hlen:=r'.length;refine call_tuple_list pl.isList (λh' kp=>?_) (by simp only [Um]<;>omega);have I1:ai X pins σ H { s with heap:=h' }:=I.kept (t':=s.toks) kp;have I2:ai X pins σ (upd H h'.objs.size (.tup ys)) { s with heap:=h'.push { cls:=.type "tuple",data:=.seq its.toArray } } :=
   I1.laid (t':=s.toks) (λb o e=>Uj _ e) (Ue _) (show cg X.prog X.w _ _ _ (.tup ys) from ⟨hz,its,r',IsTup.new _ _⟩)
  exact⟨.ref h'.objs.size,_,I2,Z,q _ (I1.hok.fresh (Ue _))⟩
 ·obtain⟨its,r',pl,hz⟩:=I.tuple hq;exact call_tuple_same pl ⟨.ref p,H,I,Z,q⟩
def sI(K:W.Frag)(T:String)(x:V)(H:Hp):Prop:=match x with
 | .str _=>T = "str"
 | .int _=>T = "int"
 | .ref p=>(T = "list"/\∃xs,aF K H p xs)\/(T = "tuple"/\∃o,K.lookup p=some o/\o.cls=.type "tuple"/\o.dict=none) \/
  (T = "dict"/\((∃kvs,H p=some (.dK kvs))\/∃kvs,H p=some (.dT kvs)))\/(T = "set"/\∃S n,H p=some (.set S n))
 | _=>False
theorem zz{pins:List (Addr × Obj)}{σ:St}{H:Hp}{s:Shared}{T:String}{x:V}{v:Value}(I:ai X pins σ H s)(r:aQ x v)(ty:sI X.K T x H) :
 s.TypeIs v T/\∀a,v=.ref a->∃ob,s.heap.get? a=some ob/\ob.dict=none:=by
 cases x with
 | str z =>
  obtain⟨t,rfl⟩:=r;cases (show T = "str" from ty);exact⟨typeIs_str s z t,λ_ e=>nomatch e⟩
 | int i =>
  obtain⟨t,rfl⟩:=r;cases (show T = "int" from ty);exact⟨typeIs_int s i t,λ_ e=>nomatch e⟩
 | ref p =>
  cases r;rcases ty with ⟨rfl,xs,hq⟩|⟨rfl,o,hk,hc,hd⟩|⟨rfl,hk⟩|⟨rfl,S,n,hk⟩
  ·obtain⟨its,_,pl,_⟩:=I.list hq;refine⟨pl.isList.typeIs,λa e=>?_⟩;cases e;obtain⟨o,n,e,c,hd,_⟩:=pl;exact⟨o,e,hd⟩
  ·refine⟨⟨o,I.kIn p o hk,hc⟩,λa e=>?_⟩;cases e;exact⟨o,I.kIn _ o hk,hd⟩
  ·have z:∃o,s.heap.get? p=some o/\o.ExactDict:=by
    rcases hk with ⟨kvs,hk⟩|⟨kvs,hk⟩
    ·obtain⟨_,_,_,_,o,_,_,e,ex,_⟩:=I.hok p _ hk;exact⟨o,e,ex⟩
    ·obtain⟨_,_,_,_,o,_,_,e,ex,_⟩:=I.hok p _ hk;exact⟨o,e,ex⟩
   obtain⟨o,e,ex⟩:=z;refine⟨⟨o,e,ex.1⟩,λa e2=>?_⟩;cases e2;exact⟨o,e,ex.2.1⟩
  ·obtain⟨o,_,_,_,e,ex,_⟩:=I.hok p _ hk;refine⟨⟨o,e,ex.1⟩,λa e2=>?_⟩;cases e2;exact⟨o,e,ex.2.1⟩
 | _=>exact False.elim ty
def sP(K:W.Frag)(T:String)(r:V->List V->Hp->VK->Prop)(to:TE):TE:=λσ H Q=>to σ H λx H1=>sI K T x H1/\r x [] H1 Q
def sQ(K:W.Frag)(T:String)(r:V->List V->Hp->VK->Prop)(to:TE)(t:TA):TE:=λσ H Q=>to σ H λx H1=>sI K T x H1/\t σ H1 λxs H2=>r x xs H2 Q
variable {o e:Expr}{es:List Expr}{to:TE}{t:TA}{name:Str}{apos cpos:Pos}{T id:String}{r:V->List V->Hp->VK->Prop}
theorem Ko (pa:PlainAttrs T) (slot:Slot T name id) (hty:typeOf (.builtin id)=pure (.type "method_descriptor")) (hm:gp X id r) (ho:PE X o to)
 (hbase:attributeBase o name X.env (eval o X.env)=eval o X.env:=by rfl) (hline:(apos.endLine == cpos.line)=true:=by rfl):PE X (.Call (.Attribute o name apos) [] [] cpos) (sP X.K T r to):=by
 intro pins s σ H Q I h;refine wpAny_Call_method0_late hbase hline (aD (ho pins s σ H _ I h) λv s1 ⟨x,H1,I1,r1,ty,q1⟩=>?_);obtain⟨h1,h2⟩:=zz I1 r1 ty;exact⟨T,id,pa,slot,hty,h1,h2,Calls.callWith_builtin Z (PySem.evalArgs_none (hm pins s1 σ H1 x [] v [] Q I1 r1 .nil q1))⟩
theorem Kq (pa:PlainAttrs T) (slot:Slot T name id) (hty:typeOf (.builtin id)=pure (.type "method_descriptor")) (hm:gp X id r) (ho:PE X o to) (ha:PA X (e::es) t)
 (hbase:attributeBase o name X.env (eval o X.env)=eval o X.env:=by rfl)
 (hfew:((backTo cpos (starEach (e::es) X.env)).all (λx=>!x.1) && (backToKw cpos (keywordEach [] X.env)).all (λx=>x.1.isSome)
   && decide ((e::es).length+([]:List Keyword).length+(if ([]:List Keyword).isEmpty then 0 else 1)<30))=true:=by rfl)
 (hline:(apos.endLine == cpos.line)=true:=by rfl) (hs:starEach (e::es) X.env=(false,eval e X.env)::starEach es X.env:=by rfl) (hplain:(backTo cpos (starEach es X.env)).any (·.1)=false:=by rfl) :
 PE X (.Call (.Attribute o name apos) (e::es) [] cpos) (sQ X.K T r to t):=by
 intro pins s σ H Q I h;refine wpAny_Call_method_late hbase hfew hline Z (aD (ho pins s σ H _ I h) λv s1 ⟨x,H1,I1,r1,ty,q1⟩=>?_);obtain⟨h1,h2⟩:=zz I1 r1 ty;refine⟨T,id,pa,slot,hty,h1,h2,?_⟩;have hA:=ha cpos pins s1 σ H1 _ I1 q1;rw[hs]at hA ⊢;refine Calls.callWith_builtin (by show (false || (backTo cpos (starEach es X.env)).any (·.1))=false;rw[hplain]<;>rfl) (Calls.evalArgs_plain ?_);exact aD hA λus s2 ⟨vs,H2,I2,r2,q2⟩=>hm pins s2 σ H2 x vs v us Q I2 r1 r2 q2
end
def ow(X:Cx)(id:String)(r:V->List V->Hp->VK->Prop):Prop :=
 ∀(pins:List (Addr × Obj)) (s:Shared) (σ:St) (H:Hp) (x:V) (xs:List V) (v:Value) (us:List Value) (Q:VK),ai X pins σ H s->aQ x v->aL xs us->r x xs H Q ->
  wpAny (model X.prog X.w) X.A (call (.builtin id) (v::us)) (EP X pins σ Q) X.xe s
theorem aL.one:∀ {x:V} {us:List Value},aL [x] us->∃u,us=[u]/\aQ x u
 | _,_,.cons r .nil=>⟨_,rfl,r⟩
theorem aL.zero:∀ {us:List Value},aL [] us->us=[]
 | _,.nil=>rfl
theorem aL.eraseIdx:∀ {xs:List V} {us:List Value} (i:Nat),aL xs us->aL (xs.eraseIdx i) (us.eraseIdx i)
 | _,_,_,.nil=>.nil
 | _,_,0,.cons _ t=>t
 | _,_,i+1,.cons r t=>.cons r (aL.eraseIdx i t)
theorem aL.reverse{xs:List V}{us:List Value}(h:aL xs us):aL xs.reverse us.reverse:=by
 induction h with
 | nil=>exact .nil
 | cons r t ih=>rw[List.reverse_cons,List.reverse_cons];exact aL.append ih (.cons r .nil)
theorem aL.rep{xs:List V}{us:List Value}(h:aL xs us):∀k:Nat,aL (List.replicate k xs).flatten (List.replicate k us).flatten
 | 0=>.nil
 | k+1=>by
  rw[Vm,Vm,Vb,Vb];exact aL.append h (aL.rep h k)
theorem B1{α:Type}:∀(l:List α) (i:Nat),(l.eraseIdx i).length<=l.length
 | [],_=>Ue _
 | _::_,0=>Vh _
 | _::r,i+1=>VO (B1 r i)
theorem Da(its:List Value):∀(k:Nat) (acc:List Value),
 List.foldl (λx1 x2=>x1++x2) acc.toArray (List.replicate k its.toArray)=(acc++(List.replicate k its).flatten).toArray
 | 0,acc=>by simp
 | k+1,acc=>by
  have e:acc.toArray++its.toArray=(acc++its).toArray:=by simp
  have e2:(acc++its)++(List.replicate k its).flatten=acc++(List.replicate (k+1) its).flatten:=by
   rw[Vm,Vb,UN]
  rw[<- e2,<- Da its k (acc++its),<- e,Vm,Vn]
section
variable {X:Cx}{pins:List (Addr × Obj)}{σ:St}{H:Hp}{s:Shared}{l b:Addr}{xs ys zs:List V}
theorem ai.lset{its its':List Value}{n:Nat}{f:Array Value->Array Value}{t':Nat}(I:ai X pins σ H s)(hH:H l=some (.lst xs))
 (e:s.heap.get? l=some { cls:=.type "list",data:=.seq its.toArray n }) (hf:f its.toArray=its'.toArray) (hv:aL ys its') (hz:ys.length<=sizeLine) :
 ai X pins σ (upd H l (.lst ys)) { s with heap:=s.heap.update l (Obj.mapSeq f),toks:=t' }:=by
 have q:=PySem.IsL.update e f;rw[hf]at q;refine I.write (x:=l) (e:=l) (by rw[hH];exact trivial) (.inl Z) (λb' u hb hu=>(Wk s.heap (Obj.mapSeq f) (Ne.symm hb)).trans hu) ⟨_,q⟩ ?_;exact⟨hz,its',_,hv,q⟩
theorem ai.lnew{its:List Value}{t':Nat}(I:ai X pins σ H s)(hv:aL ys its)(hz:ys.length<=sizeLine) :
 ai X pins σ (upd H s.heap.objs.size (.lst ys)) { s with heap:=s.heap.push { cls:=.type "list",data:=.seq its.toArray },toks:=t' } :=
 I.laid (λ_ _ q=>Uj _ q) (Ue _) ⟨hz,its,0,hv,UG _ rfl⟩
theorem ai.fresh(I:ai X pins σ H s):H s.heap.objs.size=none:=I.hok.fresh (Ue _)
theorem ai.lstM(I:ai X pins σ H s)(hH:H l=some (.lst xs)):xs.length<=sizeLine/\∃(its:List Value) (n:Nat),aL xs its/\xs.length=its.length/\s.heap.get? l=some { cls:=.type "list",data:=.seq its.toArray n }:=by
 obtain⟨z,its,n,r,e⟩:=I.hok l _ hH;exact⟨z,its,n,r,r.length,e⟩
theorem pI{n:Nat}(h:n<=sizeLine):Builtin.List.listTooLong n=false:=by
 unfold Builtin.List.listTooLong;exact decide_eq_false (by omega)
end
section
variable {X:Cx}
def IP:V->List V->Hp->VK->Prop:=λx vs H Q=>∃l xs y,x=.ref l/\vs=[y]/\H l=some (.lst xs)/\xs.length<sizeLine/\Q .non (upd H l (.lst (xs++[y])))
theorem Li:ow X "list.append" IP:=by
 intro pins s σ H x vs v us Q I rx rv h;obtain⟨l,xs,y,rfl,rfl,hH,hz,q⟩:=h;cases rx;obtain⟨u,rfl,ru⟩:=rv.one;obtain⟨z,its,n,r,hl,e⟩:=I.lstM hH;refine call_meets F.slot_list_append ⟨_,e,rfl⟩ F.entry_list_append (F.args_list_append_2 _ _) (PySem.list_append l its.toArray n u (by rw[Um];omega)) ⟨e,?_⟩;refine⟨.non,_,I.lset (its':=its++[u]) hH e (by simp) (r.append (.cons ru .nil)) ?_,rfl,q⟩;rw[Ud,List.length_singleton];omega
def IM:V->List V->Hp->VK->Prop:=λx vs H Q=>∃l b xs zs,x=.ref l/\vs=[.ref b]/\H l=some (.lst xs)/\H b=some (.lst zs)/\xs.length+zs.length<=sizeLine/\Q .non (upd H l (.lst (xs++zs)))
theorem Lf:ow X "list.extend" IM:=by
 intro pins s σ H x vs v us Q I rx rv h;obtain⟨l,b,xs,zs,rfl,rfl,hH,hB,hz,q⟩:=h;cases rx;obtain⟨u,rfl,ru⟩:=rv.one;cases ru;obtain⟨z,its,n,r,hl,e⟩:=I.lstM hH;obtain⟨z2,its2,n2,r2,hl2,e2⟩:=I.lstM hB;have hsz:its.toArray.size+its2.toArray.size<=sizeLine:=by rw[Um,Um];omega
 have hlong:¬(!its.toArray.isEmpty && Builtin.List.listTooLong (its.toArray.size+its2.toArray.size))=true:=by
  rw[pI hsz,Wl];exact Ut
 refine call_meets F.slot_list_extend ⟨_,e,Z⟩ F.entry_list_extend (F.args_list_extend_2 _ _)
  (AutoSeq1.list_extend_list_list_0 l its.toArray n b its2.toArray n2 hlong (by rw[Um];omega) (by omega)) ⟨e,e2,?_⟩
 refine⟨.non,_,I.lset (its':=its++its2) hH e (by simp) (r.append r2) ?_,rfl,q⟩;rw[Ud];omega
def II:V->List V->Hp->VK->Prop:=λx vs H Q=>∃l xs i k y,x=.ref l/\vs=[.int i]/\H l=some (.lst xs)/\-(2 ^ 63)<=i/\i<2 ^ 63/\seqIndex? i xs.length=some k/\xs[k]? = some y/\Q y (upd H l (.lst (xs.eraseIdx k)))
theorem Le:ow X "list.pop" II:=by
 intro pins s σ H x vs v us Q I rx rv h;obtain⟨l,xs,i,k,y,rfl,rfl,hH,h1,h2,hk,hy,q⟩:=h;cases rx;obtain⟨u,rfl,ru⟩:=rv.one;obtain⟨t,rfl⟩:=ru;obtain⟨z,its,n,r,hl,e⟩:=I.lstM hH;obtain⟨w,hw,rw'⟩:=r.get hy;refine call_meets F.slot_list_pop ⟨_,e,Z⟩ F.entry_list_pop (F.args_list_pop_2 _ _)
  (MeetsSeq.list_pop_at l its.toArray n i t k w (fitsIndex_both h1 h2) (by rw[Um,<- hl];exact hk) (by rw[<- VP];exact hw) (by rw[Um];omega)) ⟨e,?_⟩
 refine⟨y,_,I.lset (its':=its.eraseIdx k) hH e ?_ (r.eraseIdx k) ?_,rw',q⟩
 ·show its.toArray.eraseIdxIfInBounds k=(its.eraseIdx k).toArray;rw[List.eraseIdxIfInBounds_toArray]
 ·have:=B1 xs k;omega
def IG:V->List V->Hp->VK->Prop:=λx vs H Q=>∃l xs,x=.ref l/\vs=[]/\H l=some (.lst xs)/\Q .non (upd H l (.lst xs.reverse))
theorem Ld:ow X "list.reverse" IG:=by
 intro pins s σ H x vs v us Q I rx rv h;obtain⟨l,xs,rfl,rfl,hH,q⟩:=h;cases rx;have hus:=rv.zero;subst hus;obtain⟨z,its,n,r,hl,e⟩:=I.lstM hH;refine call_meets F.slot_list_reverse ⟨_,e,rfl⟩ F.entry_list_reverse (F.args_list_reverse_1 _) (AutoSeq1.list_reverse_list_0 l its.toArray n (by rw[Um];omega)) ⟨e,?_⟩;refine⟨.non,_,I.lset (its':=its.reverse) hH e (by simp) r.reverse ?_,rfl,q⟩;rw[VQ];omega
def IO:V->List V->Hp->VK->Prop:=λx vs H Q=>∃l xs,x=.ref l/\vs=[]/\H l=some (.lst xs)/\Q .non (upd H l (.lst []))
theorem BK:ow X "list.clear" IO:=by
 intro pins s σ H x vs v us Q I rx rv h;obtain⟨l,xs,rfl,rfl,hH,q⟩:=h;cases rx;have hus:=rv.zero;subst hus;obtain⟨z,its,n,r,hl,e⟩:=I.lstM hH;refine call_meets F.slot_list_clear ⟨_,e,rfl⟩ F.entry_list_clear (F.args_list_clear_1 _) (AutoSeq1.list_clear_list_0 l its.toArray n (by rw[Um];omega)) ⟨e,?_⟩;exact⟨.non,_,I.lset (its':=[]) (ys:=[]) hH e Z .nil (Ux _),Z,q⟩
def IH:R2:=λx y H Q=>∃l k xs,x=.ref l/\y=.int k/\H l=some (.lst xs)/\-(2 ^ 63)<=k/\k<2 ^ 63/\xs.length*k.toNat<=sizeLine /\
 ∀p,H p=none->Q (.ref p) (upd H p (.lst (List.replicate k.toNat xs).flatten))
theorem Mm{α:Type}(xs:List α)(k:Nat):(List.replicate k xs).flatten.length=k*xs.length:=by
 induction k with
 | zero=>simp
 | succ k ih=>rw[Vm,Vb,Ud,ih,VR,Nat.add_comm]
theorem Kz:ba X (binaryOp .Mult) IH:=by
 intro pins s σ H x y v u Q I rx ry h;obtain⟨l,k,xs,rfl,rfl,hH,h1,h2,hz,q⟩:=h;cases rx;obtain⟨t,rfl⟩:=ry;obtain⟨z,its,n,r,hl,e⟩:=I.lstM hH;have hlen:its.toArray.size*k.toNat<=sizeLine:=by rw[Um,<- hl];exact hz
 have hcap:¬its.toArray.size*k.toNat > (2 ^ 63-1)/8:=by
  have:(sizeLine:Nat)<=(2 ^ 63-1)/8:=by decide
  omega
 have hfit:¬(!Builtin.List.listFitsIndex k)=true:=by
  rw[fitsIndex_both h1 h2];exact Ut
 have hlong:¬Builtin.List.listTooLong (its.toArray.size*k.toNat)=true:=by
  rw[pI hlen];exact Ut
 have hnew:List.foldl (λx1 x2=>x1++x2) #[] (List.replicate (if its.toArray.isEmpty=true then 0 else k.toNat) its.toArray)=(List.replicate k.toNat its).flatten.toArray:=by
  have f0:∀m:Nat,List.foldl (λx1 x2=>x1++x2) #[] (List.replicate m its.toArray)=(List.replicate m its).flatten.toArray:=λm=>by
   have:=Da its m [];rw[U6]at this;exact this
  rw[f0];cases its with
  | nil=>simp
  | cons a r'=>rw[if_neg (by simp)]
 refine wpAny_binaryOp_repeat_ref (T := "list") (U := "int") (by decide) ⟨_,e,rfl⟩ (λs'=>typeIs_int s' k t) noFill_list_mul F.fills_int_mul F.slot_int_rmul repeat_list F.slot_int_index.lookup
  (call_meets F.slot_int_rmul (typeIs_int s k t) F.entry_int_rmul (F.args_int_rmul_2 _ _) (int___rmul___int_list k t l its.toArray n)
    ⟨e,rfl,⟨_,e,rfl⟩,call_meets F.slot_list_mul ⟨_,e,rfl⟩ F.entry_list_mul (F.args_list_mul_2 _ _) (AutoListH.list___mul___list_int_3 l its.toArray n k t hfit hcap hlong) ⟨e,?_⟩⟩)
 rw[hnew];exact⟨.ref _,_,I.lnew (t':=s.toks) (r.rep k.toNat) (by rw[Mm,Nat.mul_comm];exact hz),Z,q _ I.fresh⟩
end
section
variable {prog:Program}{w:World}{A:Around}{E:Value->Shared->Prop}{s:Shared}
theorem QL{a c n:Nat}(hac:a<=c)(hc:c<=n):sliceBounds (some (a:Int)) (some (c:Int)) none n=((a:Int),(c:Int),1):=by
 simp only [sliceBounds,Wj];have h1:¬((a:Int)<0):=by omega
 have h2:¬((c:Int)<0):=by omega
 simp only [h1,h2,if_false,show (1:Int) > 0 by decide,if_true]
 congr 1
 ·omega
 ·congr 1;omega
set_option maxRecDepth 100000 in
theorem Tf{l b sl:Addr}{items new:Array Value}{n n2:Nat}{vl vu:Value}{a c:Nat}{Q:Unit->Shared->Prop}
 (e:s.heap.get? l=some { cls:=.type "list",data:=.seq items n }) (e2:s.heap.get? b=some { cls:=.type "list",data:=.seq new n2 }) (hne:l≠b)
 (hs:s.heap.IsSliceOf sl vl vu .none) (pl:IsPart vl (some (a:Int))) (pu:IsPart vu (some (c:Int))) (hac:a<=c) (hc:c<=items.size)
 (hsz:items.size+new.size<=sizeLine) (h:Q () { s with heap:=s.heap.update l (Obj.mapSeq λxs=>xs.extract 0 a++new++xs.extract c xs.size) }) :
 wpAny (model prog w) A (setItem (.ref l) (.ref sl) (.ref b)) Q E s:=by
 have hl:s.heap.IsList l items:=PySem.IsL.isList e;have hb:s.heap.IsList b new:=PySem.IsL.isList e2;obtain⟨os,hos,hcs,hds⟩:=id hs;have hTs:s.TypeIs (.ref sl) "slice":=⟨os,hos,hcs⟩;have hstep:¬((rawPart none == rawInt 0)=true):=Ut;have hsame:Builtin.List.listSameRef (.ref l) (.ref b)=false:=by
  unfold Builtin.List.listSameRef;exact beq_eq_false_iff_ne.mpr hne
 have hmax:(max (a:Int) (c:Int)).toNat=c:=by omega
 have hz':((λxs:Array Value=>xs.extract 0 a++new++xs.extract c xs.size) items).size<=sizeLine+1:=by
  simp only [Array.size_append,Wm];omega
 unfold setItem
 try with_reducible refine wpAny_holding ?_
 first|refine wpAny_bind (wpAny_pure ?_)|skip
 refine wpAny_bind (wpAny_sequenceKey hl.typeIs (by decide) ?_);refine wpAny_bind (wpAny_callSpecial?_slot (name:=Str.ofString "__setitem__") hl.typeIs slot_list_setitem
  (wpAny_call_entry slot_list_setitem hl.typeIs entry_list_setitem ?_ (args_list_setitem _ _ _)))
 show wpAny _ _ (Builtin.List.listSubscript? (.ref sl) >>= _) _ _ s;refine wpAny_bind ?_;unfold Builtin.List.listSubscript?;refine wpAny_bind (wpAny_specialOf hTs slice_no_index ?_);simp only [Option.isNone_none,if_true];refine wpAny_pure ?_;show wpAny _ _ (typeOf (.ref sl) >>= _) _ _ s;refine wpAny_bind (wpAny_typeOf hTs ?_)
 first
  | rw[if_neg (by decide)]
  | refine W.KFB.if_not (by decide) ?_
 rw[listSliceParts_eq];refine wpAny_bind (wpAny_bind (wpAny_field hos hds (x:=.none) Z (wpAny_bind (wpAny_listPart .none ?_))));rw[if_neg hstep];refine wpAny_bind (wpAny_field hos hds (x:=vl) Z (wpAny_bind (wpAny_listPart pl ?_)));refine wpAny_bind (wpAny_field hos hds (x:=vu) Z (wpAny_bind (wpAny_listPart pu (wpAny_pure ?_))))
 first
  | simp only [hsame,US,if_false]
  | refine W.KFB.if_not hsame ?_
  | (dsimp only
     rw[if_neg (by rw[hsame];exact Ut)])
 refine wpAny_bind (m:=Builtin.List.listAllItems (.ref b) "must assign iterable to extended slice") ?_;unfold Builtin.List.listAllItems;refine wpAny_bind (wpAny_typeOf hb.typeIs ?_)
 first
  | refine W.KFB.if_so (by decide) ?_
  | rw[if_pos (by decide)]
  | simp only [beq_self_eq_true,Bool.true_or,if_true]
 unfold Builtin.List.listItems;refine wpAny_bind (wpAny_seqItems e2 Z (wpAny_pure ?_));refine wpAny_bind (wpAny_bind (wpAny_seqItems e Z (wpAny_pure ?_)));refine wpAny_bind (wpAny_of_eq ((sliceIndices_raw (some (a:Int)) (some (c:Int)) none items.size (by simp)).trans (congrArg (pure:Int × Int × Int->Sem (Int × Int × Int)) (QL hac hc))) ?_);show wpAny _ _ (if ((1:Int) == 1)=true then _ else _) _ _ s;rw[if_pos (by decide)];refine wpAny_bind (wpAny_rule ?_)
 first
  | simp only [pI hsz,US,if_false]
  | refine W.KFB.if_not (pI hsz) ?_
 first|refine wpAny_bind (wpAny_pure ?_)|skip
 show wpAny _ _ (updateSeq l (λxs=>xs.extract 0 ((a:Int)).toNat++new++xs.extract (max (a:Int) (c:Int)).toNat xs.size) >>= _) _ _ s;rw[hmax,Vy];refine wpAny_bind (wpAny_updateSeq (hz:=UE (Nat.le_add_right _ _) hsz) (_hz':=hz') e Z ?_);refine wpAny_bind (wpAny_letGo ?_)
 first
  | exact wpAny_bind (wpAny_pure (wpAny_pure ⟨.none,rfl,wpAny_pure h⟩))
  | exact wpAny_pure ⟨.none,rfl,wpAny_pure h⟩
end
end L2
namespace Att
open PySem PySem.W PySem.Calls PyProof.Rows
theorem ML{P:Params}{h:Heap}:∀(ns:List Int) (vs:List Value),WellAll P h vs (ns.map WData.int)->IntsAre vs ns:=by
 intro ns
 induction ns with
 | nil =>
  intro vs w;rw[List.map_nil]at w;cases w;exact .nil
 | cons n ns ih =>
  intro vs w;rw[UM]at w;cases w with
  | cons a b =>
   cases a;exact .cons _ _ (ih _ b)
theorem Hl{l:OpenLaw}{n:Nat}(hn:l.most=some n){P:Params}{h:Heap}{args:List WData}{vals:List Value}
 (hpre:l.row.toRowW.claim.pre args=true) (hwl:WellAll P h vals args) :
 ∃a vs ns,vals=[Value.ref a]/\args=[WData.list (ns.map WData.int)]/\h.get? a=some { cls:=.type "list",data:=.seq vs.toArray }/\IntsAre vs ns/\ns.length<=n:=by
 have hsh:WShape.hasAll [] args [.list .int]=true:=(pre_splitW hpre).1;have hc:l.pre.holds [] { args:=args }=true:=(pre_splitW hpre).2;obtain⟨d,r,rfl,h1,h2⟩:=hasAllW_cons hsh;obtain rfl:=hasAllW_nil h2;obtain⟨xs,rfl,h3⟩:=hasW_list h1;obtain⟨ns,rfl⟩:=items_int h3;have hlen:ns.length<=n:=by
  unfold OpenLaw.pre at hc;have h4:(WTm.not (.lt (.lit (.int (n:Int))) (.len (.arg 0)))).holds [] { args:=[.list (ns.map .int)] }=true:=by
   have h4:=(holds_andW hc).1;rw[hn]at h4;exact h4
  have h5:=condW_of h4 (w_not (w_lt w_lit (w_len_list (w_arg rfl))));rw[Uc]at h5;refine Nat.le_of_not_lt λq=>?_;have q':(n:Int)<((ns.length:Nat):Int):=by omega
  first
   | (rw[decide_eq_true q']at h5;exact absurd h5 (by decide))
   | (simp at h5;omega)
 cases hwl with
 | cons w1 w2 =>
  cases w2;cases w1 with
  | list ho hall=>exact⟨_,_,ns,rfl,rfl,ho,ML ns _ hall,hlen⟩
theorem JM(l:OpenLaw)(args:List WData):l.row.toRowW.claim.post args (.bool true) args=true :=
 postW_of (r:=l.row.toRowW) (X:=(true == true))
  (show WShape.has [] (.bool true) .bool=true by first|rfl|decide|simp[WShape.has,WShape.arms,WShape.armsAll])
  (show (WTm.eq .res (.lit (.bool true))).value [] { args:=args,res:=some (.bool true),after:=args }=some (.bool (true == true)) from w_eq_bool (w_res rfl) w_lit) rfl
theorem attach_call{l:OpenLaw}{n:Nat}{q:Program}{loose:List Str}{XP:(Str->Option Value)->Heap->Prop}{YP:World->Heap->Prop}{d:DefRec}
 (hn:l.most=some n) (hdf:d.params.defaults=[])
 (call:∀(w:World) (s₀ s₁:Shared) (mg mb:Str->Option Value) (fa:Addr) (o:Obj) (pm cd doc:Value) (a:Addr) (vs:List Value) (ns:List Int),
   Ground q loose [] XP w s₀ mg mb s₁.heap->YP w s₁.heap ->
   s₁.heap.get? fa=some o->o.data=.func (docDef d.name d.params d.body d.scope pm cd doc)->s₁.heap.CodeRec cd d.name->mg d.name=some (.ref fa) ->
   s₁.heap.get? a=some { cls:=.type "list",data:=.seq vs.toArray }->IntsAre vs ns->ns.length<=n->s₁.gens = #[] ->
   codeAny (model l.prog w) callerA (.call (.ref fa) ⟨[.ref a],[]⟩) (λr s'=>r=.ok (.ret (.bool true))/\OldK s₁.heap s'.heap/\s'.os=s₁.os/\AllBare s'.gens) s₁) :
 WalkO q loose XP YP l.row.toRowW d [] (λf vs=>PySem.call f vs):=by
 intro w s₀ s₁ mg mb G Y fa o pm cd doc dV kV ho hd hcd hD hmg hg args vals as hpre hlay hrd hwl hlo;obtain rfl:dV=.none:=Dflts.none hD hdf;obtain rfl:kV=.none:=Dflts.noKw hD;obtain⟨a,vs,ns,rfl,rfl,hobj,hints,hlen⟩:=Hl hn hpre hwl;refine enter_call (codeAny_mono (call w s₀ s₁ mg mb fa o pm cd doc a vs ns G Y ho (fd_plain hd) hcd hmg hobj hints hlen hg) λr s' hq=>?_);obtain⟨rfl,h2,h3,h4⟩:=hq;exact⟨.inl ⟨.bool true,.bool true,[],rfl,λ_=>rfl,.bool true,JM l _,λ_=>⟨List.Pairwise.nil,λ_ hm=>(nomatch hm)⟩⟩,h2,h3,h4⟩
end Att
namespace L2
open PySem PySem.Spec PyProof.Rows
theorem zr:∀ {vs:List Value} {ns:List Int},IntsAre vs ns->aL (ns.map V.int) vs
 | _,_,.nil=>.nil
 | _,_,.cons n t h=>.cons ⟨t,rfl⟩ (zr h)
def y7(H:Hp):Prop:=∀b,H b=none\/∃o xs,H b=some (.frz o (.lst xs))
theorem Mr{P:Program}{w:World}{K:W.Frag}{mg mb:Str->Option Value}{CX:gv}{k:Nat}{fa a:Addr}{fd:FuncData}{x:Str}{sp:Sp}{s₁:Shared}{vs:List Value}{ns:List Int}
 (KX:K.In s₁.heap) (hns:s₁.heap.Ns mainGlobals mg) (hb:s₁.heap.Ns builtinsNs mb) (hbb:∀x:Str,x ≠ "__name__"->mb x=bootBuiltins x) (hlim:s₁.heap.NoLimit) (hg:s₁.gens = #[])
 (ha:s₁.heap.get? a=some { cls:=.type "list",data:=.seq vs.toArray }) (hi:IntsAre vs ns) (hl:ns.length<=sizeLine) (hr:bW k callerA)
 (F:∀base:Heap,K.In base->base.Ns mainGlobals mg->bA P w K mg base CX k fa fd [x] sp) (hbind:∀(s:Shared) (u:Value),BindsTo s fd ⟨[u],[]⟩ [(x,u)])
 (hsp:∀H:Hp,y7 H->aF K H a (ns.map V.int)->sp [.ref a] H (λv _=>v=.bl true) λ_ _ _=>False)
 (hCX:∀H e s',CX [] H s₁ (λ_ _ _=>False) e s'->False) :
 codeAny (model P w) callerA (.call (.ref fa) ⟨[.ref a],[]⟩) (λr s'=>r=.ok (.ret (.bool true))/\OldK s₁.heap s'.heap/\s'.os=s₁.os/\AllBare s'.gens) s₁:=by
 have rv:=zr hi;have lenV:=hi.length;have core:∀H:Hp,y7 H->aF K H a (ns.map V.int)->bQ P w H s₁.heap->(∀b,H b≠none->b=a)->(H a≠none->K.lookup a=none) ->
  codeAny (model P w) callerA (.call (.ref fa) ⟨[.ref a],[]⟩) (λr s'=>r=.ok (.ret (.bool true))/\OldK s₁.heap s'.heap/\s'.os=s₁.os/\AllBare s'.gens) s₁:=by
  intro H hO hS hok hA hK;have base_of:∀ {b:Addr} {o:Obj},s₁.heap.get? b=some o->H b=none->(iJ s₁.heap H).get? b=some o:=λe n=>M3 e n;have noA:∀ {b:Addr} {o:Obj} {es:Array DictEntry} {ep:Nat},s₁.heap.get? b=some o->o.data=.dict es ep->H b=none:=λ{b o es ep} e d=>by
   cases q:H b with
   | none=>rfl
   | some u =>
    have e':b=a:=hA b (by rw[q];simp);subst e';rw[ha]at e;cases e;have d':Data.seq vs.toArray _=Data.dict es ep:=d;cases d'
  have nsK:∀ {b:Addr} {m:Str->Option Value},s₁.heap.Ns b m->(iJ s₁.heap H).Ns b m:=λ{b m} ⟨o,es,ep,e,d,r⟩=>⟨o,es,ep,base_of e (noA e d),d,r⟩;have hKb:K.In (iJ s₁.heap H):=λb o e=>base_of (KX b o e) (by
   cases q:H b with
   | none=>rfl
   | some u =>
    have e':b=a:=hA b (by rw[q];simp);subst e';rw[hK (by rw[q];simp)]at e;cases e)
  have hM:Mod K mg (iJ s₁.heap H):=⟨hKb,nsK hns,⟨mb,nsK hb,hbb⟩,let ⟨mc,h1,h2⟩:=hlim;⟨mc,nsK h1,h2⟩⟩;have e0:jk P w K mg (iJ s₁.heap H) callerA [] s₁ H:=⟨rfl,hM,λb o e=>K5 e,Vt (M0 _ _),trivial,λb hb=>absurd (show b∈([]:List Addr) from hb) (by simp),hok,.of_eq hg⟩;refine codeAny_mono ((F _ hKb (nsK hns)).run callerA [] s₁ H ⟨[.ref a],[]⟩ [.ref a] [.ref a] _ _ hr e0 (hbind s₁ (.ref a)) (.cons Z .nil) (hsp H hO hS)) λr s' h=>?_;cases r with
  | error e=>exact (hCX H e s' h).elim
  | ok fl =>
   cases fl with
   | next=>exact False.elim h
   | brk=>exact False.elim h
   | cont=>exact False.elim h
   | ret u =>
    obtain⟨v,H',os,bare,un,hok',r',q⟩:=h;have q':v=.bl true:=q;subst q';obtain rfl:u=Value.bool true:=r';refine⟨rfl,OldK.of_keep λb o e=>?_,os,bare⟩;cases q:H b with
    | none=>exact un.keep b o e q (by intro z;exact absurd (show b∈([]:List Addr) from z) (by simp)) (by simp)
    | some u =>
     rcases hO b with z|⟨ob,xs,z⟩
     ·rw[q]at z;cases z
     ·have z2:=un.frzs b ob _ z;obtain⟨e1,_⟩:=hok b _ z;obtain⟨e2,_⟩:=hok' b _ z2;rw[e]at e1;cases e1;exact e2
 cases hk:K.lookup a with
 | some o =>
  have e:=KX a o hk;rw[ha]at e;cases e;refine core (λ_=>none) (λ_=>.inl rfl) (.inr ⟨_,vs.toArray,_,hk,rfl,rfl,rfl,by rw[Um,lenV];exact hl,by simpa using rv⟩) (λb u z=>by have z':(none:Option HO)=some u:=z;cases z') (λb z=>absurd rfl z) λz=>absurd rfl z
 | none =>
  refine core (λb=>if b=a then some (.frz { cls:=.type "list",data:=.seq vs.toArray } (.lst (ns.map V.int))) else none) (λb=>?_) (.inl (.inr ⟨{ cls:=.type "list",data:=.seq vs.toArray },if_pos Z⟩)) (λb u z=>?_) (λb z=>?_) λ_=>hk
  ·by_cases hb:b=a
   ·exact .inr ⟨_,_,if_pos hb⟩
   ·exact .inl (if_neg hb)
  ·by_cases hb:b=a
   ·have z':=(if_pos hb).symm.trans z;cases z';subst hb;exact⟨ha,by rw[Uc];exact hl,vs,_,rv,ha⟩
   ·have z':=(if_neg hb).symm.trans z;cases z'
  ·by_cases hb:b=a
   ·exact hb
   ·exact absurd (if_neg hb) z
abbrev KOf{K:W.Frag}{h:Heap}(_:K.In h):W.Frag:=K
theorem walk_of{l:W.OpenLaw}{n k:Nat}{q:Program}{loose:List Str}{XP:(Str->Option Value)->Heap->Prop}{YP:World->Heap->Prop}{d:DefRec}{K:Params->W.Frag}{CX:World->gv}{sp:World->Sp}{x:Str}
 (hn:l.most=some n) (hn2:n<=sizeLine) (hdf:d.params.defaults=[]) (hr:bW k callerA)
 (hY:∀(w:World) (h:Heap),YP w h->(K w.params).In h)
 (F:∀(w:World) (mg:Str->Option Value) (fa:Addr) (h:Heap),(K w.params).In h->h.Ns mainGlobals mg->mg d.name=some (.ref fa) ->
   ∃fd:FuncData,(∀(s:Shared) (u:Value),BindsTo s fd ⟨[u],[]⟩ [(x,u)]) /\
    ∀base:Heap,(K w.params).In base->base.Ns mainGlobals mg->bA l.prog w (K w.params) mg base (CX w) k fa fd [x] (sp w))
 (hsp:∀(w:World) (H:Hp) (a:Addr) (ns:List Int),ns.length<=n->y7 H->aF (K w.params) H a (ns.map V.int)->sp w [.ref a] H (λv _=>v=.bl true) λ_ _ _=>False)
 (hCX:∀(w:World) (H:Hp) (s:Shared) (e:Value) (s':Shared),CX w [] H s (λ_ _ _=>False) e s'->False) :
 W.WalkO q loose XP YP l.row.toRowW d [] (λf vs=>PySem.call f vs):=by
 refine Att.attach_call hn hdf λw s₀ s₁ mg mb fa o pm cd doc a vs ns G Y ho hd hcd hmg hobj hints hlen hg=>?_;have KX:=hY w _ Y;obtain⟨fd,hb,hF⟩:=F w mg fa _ KX G.T.g hmg;exact Mr KX G.T.g G.T.b G.T.builtins G.T.nolimit hg hobj hints (UE hlen hn2) hr hF hb (λH hO hS=>hsp w H a ns hlen hO hS) λH e s'=>hCX w H s₁ e s'
end L2
namespace L2
open PySem PySem.Spec PyProof.Rows
def bJ(s:Stmt)(j:Nat):Stmt:=match s with
 | .ClassDef _ _ _ body _ _ _ _ _ _ _=>body.getD j (.Pass ⟨0,0,0,0⟩)
 | _=>.Pass ⟨0,0,0,0⟩
def aJ(s:Stmt):Arguments:=match s with
 | .FunctionDef _ a _ _ _ _ _ _ _ _=>a
 | _=>{ posonlyargs:=[],args:=[],vararg:=none,kwonlyargs:=[],kw_defaults:=[],kwarg:=none,defaults:=[] }
def aH(s:Stmt):List Stmt:=match s with
 | .FunctionDef _ _ b _ _ _ _ _ _ _=>b
 | _=>[]
def ak(s:Stmt):Scope:=match s with
 | .FunctionDef _ _ _ _ _ _ sc _ _ _=>sc
 | _=>{ kind:=.function,names:=[],isGenerator:=false,isCoroutine:=false }
abbrev bR:gv:=λ_ _ _ _ _ _=>False
abbrev E0:XK:=λ_ _ _=>False
theorem Bs{X:Cx}:je bR X E0:=λ_ _ _ _ _ _ _ h=>h.elim
structure aS (K:W.Frag) (x qual:Str) (st:Stmt) (f:Addr) (fd:FuncData):Prop where
 ex:∃(oc:Value) (od:Option Addr) (kV doc pm:Value) (an:Option Addr) (cdv ct:Value) (osl:Array (Option Value)),
  fd=W.fnOf x qual (aJ st) (aH st) (ak st) .none kV doc pm an cdv ct/\K.lookup f=some ⟨oc,od,.func fd,osl⟩/\W.codeIn K cdv qual=true
 kp:W.keepIn K (.ref f)=true
section
variable {P:Program}{w:World}{K:W.Frag}{mg:Str->Option Value}{base:Heap}
theorem aS.ok{x qual:Str}{st:Stmt}{f:Addr}{fd:FuncData}{N ps:List Str}{k:Nat}{sp:Sp}(F:aS K x qual st f fd)(S:aM N ps (ak st))(len:∀vs H Q E,sp vs H Q E->vs.length=ps.length)
 (hbody:∀(cdv:Value) (A:Around) (outer:List Env) (s:Shared) (H:Hp) (vs:List V) (Q:VK) (E:XK),bW k (A.deeper (envOfC qual (ak st) s.heap.objs.size f cdv))->sp vs H Q E ->
   ∃t,gn (ja bR P w K mg base N qual (ak st) f cdv A outer s H E).nox (aH st) t/\t { nx:=λ_ H'=>Q .non H',rt:=Q } (gZ N vs) H):bA P w K mg base bR (k+1) f fd ps sp:=by
 obtain⟨oc,od,kV,doc,pm,an,cdv,ct,osl,rfl,lk,hcd⟩:=F.ex;refine Db lk hcd S len λA outer s H vs Q E hr hsp=>?_;obtain⟨t,h,q⟩:=hbody cdv A outer s H vs Q E hr hsp;exact⟨t,h.nox,q⟩
theorem aS.binds{x qual:Str}{st:Stmt}{f:Addr}{fd:FuncData}{ps:List Str}(F:aS K x qual st f fd)
 (h:∀(kV doc pm:Value) (an:Option Addr) (cdv ct:Value) (us:List Value),us.length=ps.length->bindArgs (W.fnOf x qual (aJ st) (aH st) (ak st) .none kV doc pm an cdv ct) ⟨us,[]⟩=pure (ps.zip us)):aq K fd ps []:=by
 obtain⟨oc,od,kV,doc,pm,an,cdv,ct,osl,rfl,lk,hcd⟩:=F.ex;exact .all (h kV doc pm an cdv ct)
theorem aZ{x qual:Str}{st:Stmt}{f:Addr}{oc:Value}{od an:Option Addr}{osl:Array (Option Value)}{kV doc pm cdv ct:Value}(l:K.lookup f=some ⟨oc,od,.func (W.fnOf x qual (aJ st) (aH st) (ak st) .none kV doc pm an cdv ct),osl⟩)
 (c:W.codeIn K cdv qual=true) (k:W.keepIn K (.ref f)=true):aS K x qual st f (W.fnOf x qual (aJ st) (aH st) (ak st) .none kV doc pm an cdv ct):=⟨⟨oc,od,kV,doc,pm,an,cdv,ct,osl,rfl,l,c⟩,k⟩
end
section
variable {X:Cx}
theorem pv(i:Nat){x:Str}{pos:Pos}(hN:X.N[i]? = some x:=by rfl)(hv:oj X.env.scope x:=by first|exact Or.inl rfl|exact Or.inr (Or.inl rfl)|exact Or.inr (Or.inr rfl))(hd:(x == ("__debug__" : Str))=false:=by decide)
 (hcd:(x == ("__classdict__" : Str))=false:=by decide):PE X (.Name x pos) (zG i):=Bm hN hv hd hcd
end
theorem B7{A B:Prop}(h:B):if false=true then A else B:=by
 rw[if_neg Ut];exact h
theorem i6{A B:Prop}(h:A):if true=true then A else B:=by
 rw[if_pos rfl];exact h
theorem ah{c A B:Prop}[Decidable c](h1:c->A)(h2:¬c->B):if c then A else B:=by
 by_cases h:c
 ·rw[if_pos h];exact h1 h
 ·rw[if_neg h];exact h2 h
def aj(H H':Hp):Prop:=∀b o,H b=some o->H' b=some o
theorem aj.refl(H:Hp):aj H H:=λ_ _ h=>h
theorem aj.trans{H H1 H2:Hp}(a:aj H H1)(b:aj H1 H2):aj H H2:=λc o h=>b c o (a c o h)
theorem aj.free{H H':Hp}(e:aj H H'){l:Addr}(h:H' l=Option.none):H l=Option.none:=by
 cases q:H l with
 | none=>rfl
 | some o =>
  rw[e l o q]at h;cases h
theorem aj.seq{K:W.Frag}{H H':Hp}{a:Addr}{xs:List V}(e:aj H H')(h:aF K H a xs):aF K H' a xs:=by
 rcases h with (h|⟨o,h⟩)|h
 ·exact .inl (.inl (e _ _ h))
 ·exact .inl (.inr ⟨o,e _ _ h⟩)
 ·exact .inr h
end L2
set_option maxHeartbeats 4000000
namespace HT
open PySem PyProof.Rows
end HT
namespace L2
open PySem PySem.Spec PyProof.Rows
theorem PE.imp{X:Cx}{e:Expr}{t t':TE}(h:PE X e t)(k:∀σ H Q,t' σ H Q->t σ H Q):PE X e t':=λpins s σ H Q I q=>h pins s σ H Q I (k σ H Q q)
theorem ba.imp{X:Cx}{f:Value->Value->Sem Value}{r r':R2}(h:ba X f r)(k:∀x y H Q,r' x y H Q->r x y H Q):ba X f r':=λpins s σ H x y v u Q I rx ry q=>h pins s σ H x y v u Q I rx ry (k x y H Q q)
theorem cw.imp{X:Cx}{f:Value}{r r':List V->Hp->VK->Prop}(h:cw X f r)(k:∀xs H Q,r' xs H Q->r xs H Q):cw X f r':=λpins s σ H xs us Q I rs q=>h pins s σ H xs us Q I rs (k xs H Q q)
theorem gq.imp{X:Cx}{r r':R2}(h:gq X r)(k:∀x y H Q,r' x y H Q->r x y H Q):gq X r':=λvalue slice pins s σ H x y v u Q I rx ry q hs=>h value slice pins s σ H x y v u Q I rx ry (k x y H Q q) hs
theorem aj.new{H:Hp}{p:Addr}{o:HO}(h:H p=none):aj H (upd H p o):=λb u e=>by rw[az (aN e h)];exact e
structure bi (H:Hp) (p:Addr) (o:HO) (H':Hp):Prop where
 nw:H p=none
 sm:aj H H'
 at_:H' p=some o
theorem bi.mk'{H:Hp}{p:Addr}{o:HO}(h:H p=none):bi H p o (upd H p o):=⟨h,aj.new h,bc⟩
theorem bi.lst{K:W.Frag}{H H':Hp}{p:Addr}{xs:List V}(g:bi H p (.lst xs) H'):aF K H' p xs:=.of g.at_
theorem bi.tup{K:W.Frag}{H H':Hp}{p:Addr}{xs:List V}(g:bi H p (.tup xs) H'):bo K H' p xs:=.of g.at_
theorem aj.put{H H':Hp}{p:Addr}{o:HO}(s:aj H H')(h:H p=none):aj H (upd H' p o):=λb u e=>by
 rw[az (aN e h)];exact s b u e
def mV(i:Nat):TE:=λσ H Q=>match σ[i]? with
 | some (some v)=>Q v H
 | _=>False
theorem vv(i:Nat){X:Cx}{x:Str}{pos:Pos}(hN:X.N[i]? = some x:=by rfl)(hv:oj X.env.scope x:=by first|exact Or.inl rfl|exact Or.inr (Or.inl rfl)|exact Or.inr (Or.inr rfl))(hd:(x == ("__debug__" : Str))=false:=by decide)
 (hcd:(x == ("__classdict__" : Str))=false:=by decide):PE X (.Name x pos) (mV i):=(Bm hN hv hd hcd).imp λσ H Q q=>by
 unfold mV at q
 split at q
 ·exact⟨_,by assumption,q⟩
 ·exact q.elim
section
variable {X:Cx}{a b:Expr}{ta tb:TE}{pos:Pos}{bH:List Expr}
def tS(ta tb:TE):TE:=λσ H Q=>ta σ H λx H1=>match x with
 | .bl c=>if c=true then tb σ H1 Q else Q (.bl false) H1
 | _=>False
def BR(ta tb:TE):TE:=λσ H Q=>ta σ H λx H1=>match x with
 | .bl c=>if c=true then Q (.bl true) H1 else tb σ H1 Q
 | _=>False
def BS(ta:TE):TE:=λσ H Q=>ta σ H λx H1=>match x with
 | .bl c=>Q (.bl (!c)) H1
 | _=>False
theorem L7(ha:PE X a ta)(hb:PE X (.BoolOp .And (b::bH) pos) tb):PE X (.BoolOp .And (a::b::bH) pos) (tS ta tb):=by
 intro pins s σ H Q I h;refine BoolOp_and (aD (ha pins s σ H _ I h) λv s1 ⟨x,H1,I1,r1,q1⟩=>?_);cases x with
 | bl c =>
  cases r1;refine wpAny_truthy_bool ?_;cases c with
  | true=>exact hb pins s1 σ H1 Q I1 q1
  | false=>exact⟨.bl false,H1,I1,rfl,q1⟩
 | _=>exact False.elim q1
theorem LX(ha:PE X a ta)(hb:PE X (.BoolOp .Or (b::bH) pos) tb):PE X (.BoolOp .Or (a::b::bH) pos) (BR ta tb):=by
 intro pins s σ H Q I h;refine BoolOp_or (aD (ha pins s σ H _ I h) λv s1 ⟨x,H1,I1,r1,q1⟩=>?_);cases x with
 | bl c =>
  cases r1;refine wpAny_truthy_bool ?_;cases c with
  | false=>exact hb pins s1 σ H1 Q I1 q1
  | true=>exact⟨.bl true,H1,I1,rfl,q1⟩
 | _=>exact False.elim q1
theorem LY(ha:PE X a ta):PE X (.UnaryOp .Not a pos) (BS ta):=by
 intro pins s σ H Q I h;refine UnaryOp_ (aD (ha pins s σ H _ I h) λv s1 ⟨x,H1,I1,r1,q1⟩=>?_);cases x with
 | bl c =>
  cases r1;exact not_of (wpAny_truthy_bool ⟨.bl (!c),H1,I1,Z,q1⟩)
 | _=>exact False.elim q1
def mB(t:TE):TT:=λσ H Q=>t σ H λx H1=>match x with
 | .bl c=>Q c H1
 | _=>False
theorem Lb{e:Expr}{t:TE}(h:PE X e t)(he:∀whole,isTrue e X.env whole=(do let v <- whole;standAt e.pos;holding [v] (truthy v)):=by intro _;rfl):PT X e (mB t):=by
 intro pins s σ H Q I hw;refine isTrue_plain (aD (h pins s σ H _ I hw) λv s1 ⟨x,H1,I1,r1,q1⟩=>?_) (he _);cases x with
 | bl c =>
  cases r1;exact wpAny_truthy_bool ⟨H1,I1,q1⟩
 | _=>exact False.elim q1
theorem Lg{op:CmpOp}{r:R2}(ho:ba X (compareOp op) r)(ha:PE X a ta)(hb:PE X b tb)(hm:behindInMarks op b=false):PT X (.Compare a [op] [b] pos) (mB (fE r ta tb)):=by
 intro pins s σ H Q I h;refine wpAny_isTrue_Compare1 (aD (ha pins s σ H _ I h) λv s1 ⟨x,H1,I1,r1,q1⟩=>aD (hb pins s1 σ H1 _ I1 q1) λu s2 ⟨y,H2,I2,r2,q2⟩ =>
  aD (ho pins s2 σ H2 x y v u _ I2 r1 r2 q2) λc s3 ⟨z,H3,I3,r3,q3⟩=>?_) hm
 cases z with
 | bl k =>
  cases r3;exact wpAny_truthy_bool ⟨H3,I3,q3⟩
 | _=>exact False.elim q3
def pQ(r r':R2)(ta tb tc:TE):TE:=λσ H Q=>ta σ H λx H1=>tb σ H1 λy H2=>r x y H2 λz H3=>match z with
 | .bl k=>if k=true then tc σ H3 λw' H4=>r' y w' H4 Q else Q (.bl false) H3
 | _=>False
theorem L6{c:Expr}{tc:TE}{op op':CmpOp}{r r':R2}(ho:ba X (compareOp op) r)(ho':ba X (compareOp op') r')(ha:PE X a ta)(hb:PE X b tb)(hc:PE X c tc)
 (hm:lastMarks [op,op'] [b,c]=false:=by with_unfolding_all rfl):PE X (.Compare a [op,op'] [b,c] pos) (pQ r r' ta tb tc):=by
 intro pins s σ H Q I h;refine Compare_chain (aD (ha pins s σ H _ I h) λv s1 ⟨x,H1,I1,r1,q1⟩=>chain_link (aD (hb pins s1 σ H1 _ I1 q1) λu s2 ⟨y,H2,I2,r2,q2⟩ =>
  aD (ho pins s2 σ H2 x y v u _ I2 r1 r2 q2) λd s3 ⟨z,H3,I3,r3,q3⟩=>?_)) hm
 cases z with
 | bl k =>
  cases r3;refine wpAny_truthy_bool ?_;cases k with
  | false=>exact ite_ff ⟨.bl false,H3,I3,rfl,q3⟩
  | true=>exact ite_tt (chain_last (aD (hc pins s3 σ H3 _ I3 q3) λw' s4 ⟨z',H4,I4,r4,q4⟩=>ho' pins s4 σ H4 y z' u w' Q I4 r2 r4 q4))
 | _=>exact False.elim q3
theorem Lh{c:Expr}{tc:TE}{op op':CmpOp}{r r':R2}(ho:ba X (compareOp op) r)(ho':ba X (compareOp op') r')(ha:PE X a ta)(hb:PE X b tb)(hc:PE X c tc)
 (hm:lastMarks [op,op'] [b,c]=false:=by with_unfolding_all rfl):PT X (.Compare a [op,op'] [b,c] pos) (mB (pQ r r' ta tb tc)):=by
 intro pins s σ H Q I h;refine isTrue_chain (aD (ha pins s σ H _ I h) λv s1 ⟨x,H1,I1,r1,q1⟩=>test_link (aD (hb pins s1 σ H1 _ I1 q1) λu s2 ⟨y,H2,I2,r2,q2⟩ =>
  aD (ho pins s2 σ H2 x y v u _ I2 r1 r2 q2) λd s3 ⟨z,H3,I3,r3,q3⟩=>?_)) hm
 cases z with
 | bl k =>
  cases r3;refine wpAny_truthy_bool ?_;cases k with
  | false=>exact ite_ff ⟨H3,I3,q3⟩
  | true =>
   refine ite_tt (test_last (aD (hc pins s3 σ H3 _ I3 q3) λw' s4 ⟨z',H4,I4,r4,q4⟩=>aD (ho' pins s4 σ H4 y z' u w' _ I4 r2 r4 q4) λd' s5 ⟨z2,H5,I5,r5,q5⟩=>?_));cases z2 with
   | bl k2 =>
    cases r5;exact wpAny_truthy_bool ⟨H5,I5,q5⟩
   | _=>exact False.elim q5
 | _=>exact False.elim q3
def tR(K:W.Frag)(t:TE):TT:=λσ H Q=>t σ H λx H1=>match x with
 | .non=>Q false H1
 | .bl c=>Q c H1
 | .int i=>Q (i != 0) H1
 | .ref p=>∃xs,(aF K H1 p xs\/bo K H1 p xs)/\Q (!xs.isEmpty) H1
 | _=>False
theorem Lc{e:Expr}{t:TE}(h:PE X e t)(he:∀whole,isTrue e X.env whole=(do let v <- whole;standAt e.pos;holding [v] (truthy v)):=by intro _;rfl):PT X e (tR X.K t):=by
 intro pins s σ H Q I hw;refine isTrue_plain (aD (h pins s σ H _ I hw) λv s1 ⟨x,H1,I1,r1,q1⟩=>?_) (he _);cases x with
 | non=>exact mS pins s1 σ H1 _ v Q I1 r1 ⟨false,rfl,q1⟩
 | bl c=>exact mS pins s1 σ H1 _ v Q I1 r1 ⟨c,rfl,q1⟩
 | int i=>exact mS pins s1 σ H1 _ v Q I1 r1 ⟨i != 0,rfl,q1⟩
 | ref p =>
  obtain⟨xs,hx,q1⟩:=q1;rcases hx with hx|hx
  ·exact mS pins s1 σ H1 _ v Q I1 r1 ⟨_,.inl ⟨xs,hx,Z⟩,q1⟩
  ·exact mS pins s1 σ H1 _ v Q I1 r1 ⟨_,.inr (.inl ⟨xs,hx,Z⟩),q1⟩
 | _=>exact False.elim q1
end
section
variable {X:Cx}{a b:Expr}{ta tb:TE}{pos:Pos}
def gI(C:Int->Int->Prop)(g:Int->Int->V):R2:=λx y H Q=>match x,y with
 | .int i,.int j=>C i j/\Q (g i j) H
 | _,_=>False
def mz(g:Int->Int->V):R2:=λx y H Q=>match x,y with
 | .int i,.int j=>Q (g i j) H
 | _,_=>False
theorem nF{f:Value->Value->Sem Value}{g:Int->Int->V}(h:ba X f (iA g)):ba X f (mz g):=h.imp λx y H Q q=>by
 cases x<;>cases y<;>first|exact False.elim q|exact⟨_,_,rfl,rfl,q⟩
theorem uB{f:Value->Value->Sem Value}{C:Int->Int->Prop}{g:Int->Int->V}(h:ba X f (rI C g)):ba X f (gI C g):=h.imp λx y H Q q=>by
 cases x<;>cases y<;>first|exact False.elim q|exact⟨_,_,rfl,rfl,q.1,q.2⟩
theorem cD:ba X (binaryOp .Sub) (mz λi j=>.int (i-j)):=nF Kw
theorem qj:ba X (binaryOp .Mod) (gI (λ_ j=>0<j) λi j=>.int (i%j)):=uB BB
theorem OJ:ba X (binaryOp .RShift) (gI (λ_ j=>0<=j) λi j=>.int (i/2 ^ j.toNat)):=uB Kx
theorem cV:ba X (compareOp .Lt) (mz λi j=>.bl (decide (i<j))):=nF KD
theorem fw:ba X (compareOp .LtE) (mz λi j=>.bl (decide (i<=j))):=nF KE
theorem fK:ba X (compareOp .Gt) (mz λi j=>.bl (decide (j<i))):=nF KH
theorem CZ:ba X (compareOp .GtE) (mz λi j=>.bl (decide (j<=i))):=nF KI
def BT(j:Int)(ta:TE):TE:=λσ H Q=>ta σ H λx H1=>match x with
 | .int i=>Q (.int (i/j)) H1
 | _=>False
def pP(j:Int)(ta:TE):TE:=λσ H Q=>ta σ H λx H1=>match x with
 | .int i=>Q (.int (i%j)) H1
 | _=>False
theorem L4{j:Int}{k:Nat}{p:Pos}(ha:PE X a ta)(hj:0<j/\j<1073741824:=by decide):PE X (.BinOp a .FloorDiv (.Constant (.int j) k p) pos) (BT j ta):=by
 intro pins s σ H Q I h;refine wpAny_BinOp (aD (ha pins s σ H _ I h) λv s1 ⟨x,H1,I1,r1,q1⟩=>?_);refine aD (pC pins s1 σ H1 (λy H2=>y=.int j/\H2=H1) I1 ⟨rfl,rfl⟩) λu s2 ⟨y,H2,I2,r2,e1,e2⟩=>?_;subst e1 e2;cases x with
 | int i=>exact KJ pins s2 σ H2 (.int i) (.int j) v u Q I2 r1 r2 ⟨i,j,rfl,rfl,hj,q1⟩
 | _=>exact False.elim q1
theorem LZ{j:Int}{k:Nat}{p:Pos}(ha:PE X a ta)(hj:0<j:=by decide):PE X (.BinOp a .Mod (.Constant (.int j) k p) pos) (pP j ta):=by
 intro pins s σ H Q I h;refine wpAny_BinOp (aD (ha pins s σ H _ I h) λv s1 ⟨x,H1,I1,r1,q1⟩=>?_);refine aD (pC pins s1 σ H1 (λy H2=>y=.int j/\H2=H1) I1 ⟨rfl,rfl⟩) λu s2 ⟨y,H2,I2,r2,e1,e2⟩=>?_;subst e1 e2;cases x with
 | int i=>exact BB pins s2 σ H2 (.int i) (.int j) v u Q I2 r1 r2 ⟨i,j,rfl,rfl,hj,q1⟩
 | _=>exact False.elim q1
end
section
variable {X:Cx}
theorem Qe{pins:List (Addr × Obj)}{s:Shared}{σ:St}{H:Hp}{l b:Addr}{xs zs:List V}{Q:VK}(I:ai X pins σ H s)(hl:aF X.K H l xs)(hb:aF X.K H b zs)(hz:xs.length+zs.length<=sizeLine)
 (q:∀p H',bi H p (.lst (xs++zs)) H'->Q (.ref p) H'):wpAny (model X.prog X.w) X.A (binaryOp .Add (.ref l) (.ref b)) (EP X pins σ Q) X.xe s:=by
 obtain⟨its,r,pl,_⟩:=I.list hl;obtain⟨its2,r2,pl2,_⟩:=I.list hb;have e1:=r.length;have e2:=r2.length;obtain⟨⟨cls,dd,data,sl⟩,ho,hc,n,hd⟩:=pl.isList;obtain⟨⟨cls2,dd2,data2,sl2⟩,ho2,hc2,n2,hd2⟩:=pl2.isList;simp only at hc hd hc2 hd2;subst hc hd hc2 hd2;have ea:its.toArray++its2.toArray=(its++its2).toArray:=by simp
 refine concat_meets ⟨_,ho,rfl⟩ ⟨_,ho2,rfl⟩ noFill_list_add seq_list_add PySem.F.slot_list_add PySem.F.entry_list_add (PySem.F.args_list_add_2 _ _) (list_addW l b its.toArray its2.toArray n n2 dd dd2 sl sl2 (by rw[Um,Um];omega)) ⟨ho,ho2,?_⟩;rw[ea];exact⟨.ref _,_,I.lnew (t':=s.toks) (r.append r2) (by rw[Ud];omega),rfl,q _ _ (.mk' I.fresh)⟩
def uD(K:W.Frag):R2:=λx y H Q=>match x,y with
 | .int i,.int j=>Q (.int (i+j)) H
 | .ref l,.ref b=>∃xs zs,aF K H l xs/\aF K H b zs/\xs.length+zs.length<=sizeLine/\∀p H',bi H p (.lst (xs++zs)) H'->Q (.ref p) H'
 | _,_=>False
theorem Pe:ba X (binaryOp .Add) (uD X.K):=by
 intro pins s σ H x y v u Q I rx ry q;cases x with
 | int i =>
  cases y with
  | int j=>exact KK pins s σ H _ _ v u Q I rx ry ⟨i,j,rfl,rfl,q⟩
  | _=>exact False.elim q
 | ref l =>
  cases y with
  | ref b =>
   obtain⟨xs,zs,h1,h2,h3,q⟩:=q;cases rx;cases ry;exact Qe I h1 h2 h3 q
  | _=>exact False.elim q
 | _=>exact False.elim q
def Pg:R2:=λx y H Q=>match x,y with
 | .int i,.int j=>sr i j/\Q (.int (i*j)) H
 | .ref l,.int k=>∃xs,H l=some (.lst xs)/\-(2 ^ 63)<=k/\k<2 ^ 63/\xs.length*k.toNat<=sizeLine/\∀p H',bi H p (.lst (List.replicate k.toNat xs).flatten) H'->Q (.ref p) H'
 | _,_=>False
theorem fu:ba X (binaryOp .Mult) Pg:=by
 intro pins s σ H x y v u Q I rx ry q;cases x with
 | int i =>
  cases y with
  | int j=>exact KC pins s σ H _ _ v u Q I rx ry ⟨i,j,rfl,rfl,q.1,q.2⟩
  | _=>exact False.elim q
 | ref l =>
  cases y with
  | int k =>
   obtain⟨xs,h1,h2,h3,h4,q⟩:=q;exact Kz pins s σ H _ _ v u Q I rx ry ⟨l,k,xs,Z,Z,h1,h2,h3,h4,λp hp=>q p _ (.mk' hp)⟩
  | _=>exact False.elim q
 | _=>exact False.elim q
def tX(x:V)(c:Bool):Bool:=match x with
 | .bl d=>d == c
 | _=>false
theorem A6{x:V}{v:Value}{c:Bool}(r:aQ x v)(hf:∀f,x ≠ .ty f):plainIs v (.bool c)=true/\(v == Value.bool c)=tX x c:=by
 cases x with
 | non=>cases r;exact⟨rfl,rfl⟩
 | bl d=>cases r;exact⟨rfl,by cases d<;>cases c<;>rfl⟩
 | int _=>obtain⟨t,rfl⟩:=r;exact⟨rfl,rfl⟩
 | str _=>obtain⟨t,rfl⟩:=r;exact⟨rfl,rfl⟩
 | byt _=>obtain⟨t,rfl⟩:=r;exact⟨rfl,rfl⟩
 | flt _=>obtain⟨t,rfl⟩:=r;exact⟨rfl,rfl⟩
 | ref _=>cases r;exact⟨rfl,rfl⟩
 | ty f=>exact absurd rfl (hf f)
def qo(neg:Bool):R2:=λx y H Q=>match y with
 | .non=>Q (.bl (if neg then !decide (x=.non) else decide (x=.non))) H
 | .bl c=>(∀f,x ≠ .ty f)/\Q (.bl (if neg then !tX x c else tX x c)) H
 | _=>False
theorem ig:ba X (compareOp .Is) (qo false):=by
 intro pins s σ H x y v u Q I rx ry q;cases y with
 | non=>exact KF pins s σ H x _ v u Q I rx ry ⟨rfl,q⟩
 | bl c =>
  cases ry;obtain⟨h1,h2⟩:=A6 (c:=c) rx q.1;exact wpAny_is_plain h1 ⟨.bl _,H,I,by rw[h2];rfl,q.2⟩
 | _=>exact False.elim q
theorem uq:ba X (compareOp .IsNot) (qo true):=by
 intro pins s σ H x y v u Q I rx ry q;cases y with
 | non=>exact KA pins s σ H x _ v u Q I rx ry ⟨rfl,q⟩
 | bl c =>
  cases ry;obtain⟨h1,h2⟩:=A6 (c:=c) rx q.1;exact wpAny_isNot_plain h1 ⟨.bl _,H,I,by rw[h2];rfl,q.2⟩
 | _=>exact False.elim q
end
def bq(K:W.Frag)(H:Hp)(d:PyData)(x:V):Prop:=∀(X:Cx) (pins:List (Addr × Obj)) (σ:St) (s:Shared) (u:Value),X.K=K->ai X pins σ H s->aQ x u->∃as,Reads s.heap u d as
def eG(K:W.Frag)(H:Hp)(ds:List PyData)(xs:List V):Prop:=∀(X:Cx) (pins:List (Addr × Obj)) (σ:St) (s:Shared) (us:List Value),X.K=K->ai X pins σ H s->aL xs us->∃as,ReadsAll s.heap us ds as
section
variable {K:W.Frag}{H:Hp}
theorem bq.non:bq K H .none .non:=λ_ _ _ _ _ _ _ r=>by cases r;exact⟨_,.none⟩
theorem bq.int(i:Int):bq K H (.int i) (.int i):=λ_ _ _ _ _ _ _ r=>by obtain⟨t,rfl⟩:=r;exact⟨_,.int i t⟩
theorem bq.str(x:Str):bq K H (.str x) (.str x):=λ_ _ _ _ _ _ _ r=>by obtain⟨t,rfl⟩:=r;exact⟨_,.str x t⟩
theorem eG.nil:eG K H [] []:=λ_ _ _ _ _ _ _ r=>by cases r;exact⟨_,.nil⟩
theorem eG.cons{d:PyData}{ds:List PyData}{x:V}{xs:List V}(a:bq K H d x)(b:eG K H ds xs):eG K H (d::ds) (x::xs):=λX pins σ s us e I r=>by
 cases r with
 | cons r1 r2 =>
  obtain⟨as,ha⟩:=a X pins σ s _ e I r1;obtain⟨bs,hb⟩:=b X pins σ s _ e I r2;exact⟨_,.cons ha hb⟩
theorem bq.lst{ds:List PyData}{p:Addr}{xs:List V}(h:aF K H p xs)(b:eG K H ds xs):bq K H (.list ds) (.ref p):=λX pins σ s u e I r=>by
 cases r;subst e;obtain⟨its,rv,⟨o,n,ho,hc,_,hd⟩,_⟩:=I.list h;obtain⟨as,ha⟩:=b X pins σ s its rfl I rv;exact⟨_,.list ho hc hd (by simpa using ha)⟩
theorem bq.tup{ds:List PyData}{p:Addr}{xs:List V}(h:bo K H p xs)(b:eG K H ds xs):bq K H (.tuple ds) (.ref p):=λX pins σ s u e I r=>by
 cases r;subst e;obtain⟨its,rv,⟨o,ho,hc,n,hd⟩,_⟩:=I.tuple h;obtain⟨as,ha⟩:=b X pins σ s its rfl I rv;exact⟨_,.tuple ho hc hd (by simpa using ha)⟩
theorem eG.ints:∀ns:List Int,eG K H (ns.map PyData.int) (ns.map V.int)
 | []=>.nil
 | n::ns=>.cons (.int n) (eG.ints ns)
end
open SeqAt (shaped)
def nG(K:W.Frag)(neg:Bool):R2:=λx y H Q=>match x,y with
 | .int i,.int j=>Q (.bl (if neg then !decide (i=j) else decide (i=j))) H
 | .bl a,.bl b=>Q (.bl (if neg then !(a == b) else a == b)) H
 | _,_=>∃d e,bq K H d x/\bq K H e y/\shaped d=true/\shaped e=true/\Q (.bl (if neg then !d.eqv e else d.eqv e)) H
section
variable {X:Cx}
theorem Dh{pins:List (Addr × Obj)}{s:Shared}{σ:St}{H:Hp}{x y:V}{v u:Value}{Q:VK}{neg:Bool}(hu:X.A.units+64<cLine)(I:ai X pins σ H s)(rx:aQ x v)(ry:aQ y u)
 (q:∃d e,bq X.K H d x/\bq X.K H e y/\shaped d=true/\shaped e=true/\Q (.bl (if neg then !d.eqv e else d.eqv e)) H) :
 wpAny (model X.prog X.w) X.A (compareOp (if neg then .NotEq else .Eq) v u) (EP X pins σ Q) X.xe s:=by
 obtain⟨d,e,hd,he,h1,h2,q⟩:=q;obtain⟨as,ra⟩:=hd X pins σ s v rfl I rx;obtain⟨bs,rb⟩:=he X pins σ s u rfl I ry;cases neg with
 | true=>exact ne_dataH ra rb h1 h2 hu ⟨.bl _,H,I,rfl,q⟩
 | false=>exact eq_dataH ra rb h1 h2 hu ⟨.bl _,H,I,rfl,q⟩
theorem Dl{i j:Int}:decide (V.int i=V.int j)=decide (i=j):=by simp
theorem O6(hu:X.A.units+64<cLine):ba X (compareOp .Eq) (nG X.K false):=by
 intro pins s σ H x y v u Q I rx ry q;have D:=λq'=>Dh (neg:=false) (Q:=Q) hu I rx ry q';cases x with
 | int i =>
  cases y with
  | int j=>exact BC pins s σ H _ _ v u Q I rx ry ⟨rfl,by rw[Dl];exact q⟩
  | _=>exact D q
 | bl i =>
  cases y with
  | bl j=>exact BC pins s σ H _ _ v u Q I rx ry ⟨rfl,by rw[qL];exact q⟩
  | _=>exact D q
 | _=>exact D q
theorem OP(hu:X.A.units+64<cLine):ba X (compareOp .NotEq) (nG X.K true):=by
 intro pins s σ H x y v u Q I rx ry q;have D:=λq'=>Dh (neg:=true) (Q:=Q) hu I rx ry q';cases x with
 | int i =>
  cases y with
  | int j=>exact BA pins s σ H _ _ v u Q I rx ry ⟨rfl,by rw[Dl];exact q⟩
  | _=>exact D q
 | bl i =>
  cases y with
  | bl j=>exact BA pins s σ H _ _ v u Q I rx ry ⟨rfl,by rw[qL];exact q⟩
  | _=>exact D q
 | _=>exact D q
def qp(K:W.Frag)(neg:Bool):R2:=λx y H Q=>match y with
 | .ref p=>∃xs,(aF K H p xs\/bo K H p xs)/\fX x=true/\xs.all fX=true/\Q (.bl (if neg then !bC x xs else bC x xs)) H
 | _=>False
theorem O4:ba X (compareOp .In) (qp X.K false):=KG.imp λx y H Q q=>by
 cases y with
 | ref p=>obtain⟨xs,h1,h2,h3,q⟩:=q;exact⟨p,xs,Z,h1,h2,h3,q⟩
 | _=>exact False.elim q
theorem OO:ba X (compareOp .NotIn) (qp X.K true):=KB.imp λx y H Q q=>by
 cases y with
 | ref p=>obtain⟨xs,h1,h2,h3,q⟩:=q;exact⟨p,xs,Z,h1,h2,h3,q⟩
 | _=>exact False.elim q
def fM(K:W.Frag):R2:=λx y H Q=>match x,y with
 | .ref p,.int i=>∃xs v,(aF K H p xs\/bo K H p xs)/\cW xs i=some v/\Q v H
 | _,_=>False
theorem OU:gq X (fM X.K):=(MD.or MC).imp λx y H Q q=>by
 cases x with
 | ref p =>
  cases y with
  | int i =>
   obtain⟨xs,v,h1,h2,q⟩:=q;rcases h1 with h1|h1
   ·exact .inl ⟨p,xs,i,v,Z,Z,h1,h2,q⟩
   ·exact .inr ⟨p,xs,i,v,Z,Z,h1,h2,q⟩
  | _=>exact False.elim q
 | _=>exact False.elim q
theorem rJ{α:Type}{xs:List α}{i:Int}(h0:0<=i)(h1:i<xs.length):∃v,v∈xs/\cW xs i=some v/\xs[i.toNat]? = some v:=by
 have hl:i.toNat<xs.length:=by omega
 refine⟨xs[i.toNat],Wn hl,?_,by simp[hl]⟩;have e:xs[i.toNat]? = some xs[i.toNat]:=by simp[hl]
 have:=aB e
 rwa [Wo h0]at this
def C1(K:W.Frag):V->Option Int->Option Int->Hp->VK->Prop:=λx lo hi H Q=>match x with
 | .ref a=>∃xs,aF K H a xs/\∀p H',bi H p (.lst (dD xs lo hi)) H'->Q (.ref p) H'
 | _=>False
theorem OH:jd X (C1 X.K):=by
 intro pins s σ H x v vl vu lo hi sl Q I rx hs pl pu q;cases x with
 | ref a=>obtain⟨xs,h1,q⟩:=q;exact Hc pins s σ H _ v vl vu lo hi sl Q I rx hs pl pu ⟨a,xs,Z,h1,λp hp=>q p _ (.mk' hp)⟩
 | _=>exact False.elim q
def uw(K:W.Frag):List V->Hp->VK->Prop:=λxs H Q=>match xs with
 | [.ref p]=>∃ys,(aF K H p ys\/bo K H p ys)/\Q (.int ys.length) H
 | _=>False
theorem Qq:cw X (.builtin "len") (uw X.K):=Qh.imp λxs H Q q=>by
 unfold uw at q
 split at q
 ·obtain⟨ys,h1,q⟩:=q;exact⟨_,ys,Z,h1,q⟩
 ·exact q.elim
def uv(K:W.Frag):List V->Hp->VK->Prop:=λxs H Q=>match xs with
 | [.ref p]=>∃ys,(aF K H p ys\/bo K H p ys)/\∀l H',bi H l (.lst ys) H'->Q (.ref l) H'
 | _=>False
theorem Qp:cw X (.type "list") (uv X.K):=Qg.imp λxs H Q q=>by
 unfold uv at q
 split at q
 ·obtain⟨ys,h1,q⟩:=q;exact⟨_,ys,Z,h1,λl hl=>q l _ (.mk' hl)⟩
 ·exact q.elim
def uz:List V->Hp->VK->Prop:=λxs H Q=>match xs with
 | [.int i]=>Q (.int i) H
 | [.bl k]=>Q (.int (if k then 1 else 0)) H
 | _=>False
theorem ik:cw X (.type "int") uz:=Qi.imp λxs H Q q=>by
 unfold uz at q
 split at q
 ·exact .inl ⟨_,Z,q⟩
 ·exact .inr ⟨_,Z,q⟩
 ·exact q.elim
def uA(K:W.Frag):List V->Hp->VK->Prop:=λxs H Q=>match xs with
 | [x,.ty T]=>∃t b,c7 K H x t/\W.kitOne K t (.type T)=some b/\Q (.bl b) H
 | [x,.ref C]=>∃t b,c7 K H x t/\W.kitOne K t (.ref C)=some b/\Q (.bl b) H
 | _=>False
theorem Qr:cw X (.builtin "isinstance") (uA X.K):=by
 intro pins s σ H xs us Q I r q;unfold uA at q
 split at q
 ·obtain⟨t,b,h1,h2,q⟩:=q;obtain⟨u,w',rfl,r1,r2⟩:=zt r;cases r2;exact B8 I r1 h1 h2 λtk=>⟨.bl b,H,I.tok _,Z,q⟩
 ·obtain⟨t,b,h1,h2,q⟩:=q;obtain⟨u,w',rfl,r1,r2⟩:=zt r;cases r2;exact B8 I r1 h1 h2 λtk=>⟨.bl b,H,I.tok _,Z,q⟩
 ·exact q.elim
theorem QK {x:Str} {T:String} {pos:Pos} (hg:Gl X x) (hm:X.mg x=none) (hv:bootBuiltins x=some (.type T)) (hn:x ≠ "__name__":=by decide) (hd:(x == ("__debug__" : Str))=false:=by decide):PE X (.Name x pos) (tC (.ty T)) :=
 Kr hg hm hv rfl hn hd
end
def cL:Expr->Bool
 | .Starred _ _=>true
 | _=>false
theorem bZ{e:Expr}{es:List Expr}{env:Env}(h:cL e=false):starEach (e::es) env=(false,eval e env)::starEach es env:=by
 cases e<;>first|rfl|cases h
def dY:List Expr->Bool
 | []=>true
 | e::r=>!cL e && dY r
theorem iC{env:Env}{pos:Pos}:∀ {es:List Expr},dY es=true->(backTo pos (starEach es env)).any (·.1)=false
 | [],_=>rfl
 | e::r,h=>by
  have h':(!cL e && dY r)=true:=h;rw[UD]at h';have h1:cL e=false:=by simpa using h'.1
  rw[bZ h1];show (false || (backTo pos (starEach r env)).any (·.1))=false;rw[Bool.false_or];exact iC h'.2
theorem eV{e:Expr}{es:List Expr}(h:dY (e::es)=true):cL e=false/\dY es=true:=by
 have h':(!cL e && dY es)=true:=h;rw[UD]at h';exact⟨by simpa using h'.1,h'.2⟩
theorem Bw{X:Cx}{e:Expr}{es:List Expr}{te:TE}{t:TA}(ha:PE X e te)(hr:PA X es t)(hs:cL e=false:=by rfl):PA X (e::es) (jU te t):=Ks ha hr (bZ hs)
def rc:Expr->Option V
 | .Constant (.int i) _ _=>some (.int i)
 | .Constant (.bool b) _ _=>some (.bl b)
 | .Constant .none _ _=>some .non
 | .Constant (.str x) _ _=>some (.str x)
 | _=>none
def q9:List Expr->Option (List V)
 | []=>some []
 | e::r=>match rc e,q9 r with
  | some v,some vs=>some (v::vs)
  | _,_=>none
def sO(vs:List V):TA:=λ_ H Q=>Q vs H
theorem Ki{X:Cx}{e:Expr}{v:V}(h:rc e=some v):PE X e (tC v):=by
 unfold rc at h
 split at h
 ·cases h;exact pC
 ·cases h;exact Br
 ·cases h;exact Bo
 ·cases h;exact Bn
 ·cases h
theorem P3{e:Expr}{v:V}(h:rc e=some v):cL e=false:=by
 cases e<;>first|rfl|cases h
theorem Bv{X:Cx}:∀ {es:List Expr} {vs:List V},q9 es=some vs->PA X es (sO vs)
 | [],vs,h=>by
  cases h;exact Bu
 | e::r,vs,h=>by
  unfold q9 at h
  split at h
  ·rename_i v ws h1 h2;cases h;exact Bw (Ki h1) (Bv h2) (P3 h1)
  ·cases h
section
variable {X:Cx}{es:List Expr}{t:TA}{pos:Pos}
def tQ(t:TA):TE:=λσ H Q=>t σ H λxs H1=>xs.length<=sizeLine/\∀p H',bi H1 p (.tup xs) H'->Q (.ref p) H'
def ny(t:TA):TE:=λσ H Q=>t σ H λxs H1=>xs.length<=sizeLine/\∀p H',bi H1 p (.lst xs) H'->Q (.ref p) H'
theorem LV{x1}(h:PA X es t):PE X (.Tuple es x1 pos) (tQ t):=by
 intro pins s σ H Q I hq;refine wpAny_Tuple_spliced (aD (h pos pins s σ H _ I hq) λus s1 ⟨xs,H1,I1,r,z,q⟩=>⟨by rw[<- r.length];exact z,?_⟩);have hf:H1 s1.heap.objs.size=none:=I1.hok.fresh (Ue _);refine⟨.ref s1.heap.objs.size,upd H1 s1.heap.objs.size (.tup xs),I1.laid (t':=s1.toks) (λb u e=>Uj _ e) (Ue _) ?_,Z,q _ _ (.mk' hf)⟩;exact⟨z,us,r,⟨_,UG _ Z,Z,_,Z⟩⟩
theorem L0(h:PA X es t):PE X (.List es pos) (ny t):=by
 intro pins s σ H Q I hq;refine wpAny_List_spliced (aD (h pos pins s σ H _ I hq) λus s1 ⟨xs,H1,I1,r,z,q⟩=>⟨by rw[<- r.length];exact z,?_⟩);have hf:H1 s1.heap.objs.size=none:=I1.hok.fresh (Ue _);refine⟨.ref s1.heap.objs.size,upd H1 s1.heap.objs.size (.lst xs),I1.laid (t':=s1.toks) (λb u e=>Uj _ e) (Ue _) ?_,Z,q _ _ (.mk' hf)⟩;exact⟨z,us,0,r,UG _ Z⟩
def BU:TE:=λ_ H Q=>∀p H',bi H p (.dK []) H'->Q (.ref p) H'
theorem L5:PE X (.Dict [] [] pos) BU:=Kf.imp λσ H Q q=>λp hp=>q p _ (.mk' hp)
end
theorem cE{Q:VK}{H:Hp}{a b:Bool}(k:Q (.bl a) H)(e:a=b):Q (.bl b) H:=e ▸ k
def tW:V->Bool
 | .int _=>true
 | .bl _=>true
 | _=>false
def Cb:V->Bool
 | .bl _=>true
 | _=>false
inductive fZ (K:W.Frag) (H:Hp):V->Prop where
 | non:fZ K H .non
 | bl (b:Bool):fZ K H (.bl b)
 | int (i:Int):fZ K H (.int i)
 | str (x:Str):fZ K H (.str x)
 | lst {a:Addr} {xs:List V} (e:H a=some (.lst xs)):fZ K H (.ref a)
 | tup {a:Addr} {xs:List V} (e:H a=some (.tup xs)):fZ K H (.ref a)
 | dK {a:Addr} {kvs:List (aR × V)} (e:H a=some (.dK kvs)):fZ K H (.ref a)
theorem fZ.isInt {K:W.Frag} {H:Hp} {v:V} (k:fZ K H v):∃ty,c7 K H v ty/\W.kitOne K ty (.type "int")=some (tW v):=by
 cases k with
 | non=>exact⟨_,.non,by with_unfolding_all rfl⟩
 | bl b=>exact⟨_,.bl b,by with_unfolding_all rfl⟩
 | int i=>exact⟨_,.int i,by with_unfolding_all rfl⟩
 | str x=>exact⟨_,.str x,by with_unfolding_all rfl⟩
 | lst e=>exact⟨_,.lst e,by with_unfolding_all rfl⟩
 | tup e=>exact⟨_,.tup e,by with_unfolding_all rfl⟩
 | dK e=>exact⟨_,.dK e,by with_unfolding_all rfl⟩
theorem fZ.isBl {K:W.Frag} {H:Hp} {v:V} (k:fZ K H v):∃ty,c7 K H v ty/\W.kitOne K ty (.type "bool")=some (Cb v):=by
 cases k with
 | non=>exact⟨_,.non,by with_unfolding_all rfl⟩
 | bl b=>exact⟨_,.bl b,by with_unfolding_all rfl⟩
 | int i=>exact⟨_,.int i,by with_unfolding_all rfl⟩
 | str x=>exact⟨_,.str x,by with_unfolding_all rfl⟩
 | lst e=>exact⟨_,.lst e,by with_unfolding_all rfl⟩
 | tup e=>exact⟨_,.tup e,by with_unfolding_all rfl⟩
 | dK e=>exact⟨_,.dK e,by with_unfolding_all rfl⟩
theorem sz{n:Nat}(h:Nat.ble n 1000=true):n<=sizeLine:=UE (UI h) (by decide)
theorem ci{n:Nat}(h:n<=100000):n<=sizeLine:=UE h (by decide)
theorem eQ{n:Nat}(h:n<=100000):n<sizeLine:=Nat.lt_of_le_of_lt h (by decide)
section
variable {X:Cx}
theorem A9(bs:List Bool):(List.range bs.length).map (λi=>(bs[i]?).getD false)=bs:=by
 apply List.ext_getElem
 ·simp
 ·intro i h1 h2;simp[UL h2]
theorem ID(bs:List Bool):((List.range bs.length).all λi=>(bs[i]?).getD false)=bs.all id:=by
 conv=>rhs;rw[<- A9 bs]
 rw[List.all_map]
 rfl
theorem IC(bs:List Bool):((List.range bs.length).any λi=>(bs[i]?).getD false)=bs.any id:=by
 conv=>rhs;rw[<- A9 bs]
 rw[List.any_map]
 rfl
def mC(K:W.Frag)(one:Bool):List V->Hp->VK->Prop:=λxs H Q=>match xs with
 | [.ref p]=>∃bs:List Bool,aF K H p (bs.map V.bl)/\Q (.bl (if one then bs.any id else bs.all id)) H
 | _=>False
theorem DL{prog:Program}{w:World}{A:Around}{bs:List Bool}{its:List Value}(r:aL (bs.map V.bl) its):TruthOf prog w A (λi v=>its.toArray[i]? = some v) λi=>(bs[i]?).getD false:=λi v s Q E hP hQ=>by
 dsimp only at hP hQ;have hi:i<its.length:=by
  have:=(WX.mp hP).1;simpa using this
 have hl:=r.length;rw[Uc]at hl;have hb:i<bs.length:=by omega
 obtain⟨u,hu,ru⟩:=r.get (i:=i) (x:=V.bl bs[i]) (by simp[hb]);have e:its.toArray[i]? = some u:=by simpa using hu
 rw[e]at hP;cases hP;cases ru;rw[UL hb]at hQ;exact wpAny_truthy_bool hQ
theorem Qu (hc:X.calm=true):cw X (.builtin "all") (mC X.K false):=by
 intro pins s σ H xs us Q I r q;unfold mC at q
 split at q
 ·rename_i p;obtain⟨bs,hq,q⟩:=q;obtain⟨u,rfl,rx⟩:=iw r;cases rx;obtain⟨its,rv,pl,_⟩:=I.list hq;have hl:=rv.length;rw[Uc]at hl;have hne:p≠s.heap.objs.size:=by
   obtain⟨o,n,e,_⟩:=pl;exact Uo (Uf e)
  refine call_all_walk (wpAny_pyIter_list pl.isList ⟨s.heap.objs.size,_,_,_,_,_,λi=>(bs[i]?).getD false,rfl,Walks.list (A:=X.A.in1) (show X.A.in1.handled=none from I.ok.hd hc) s.heap.objs.size p hne its.toArray,⟨⟨_,UG _ rfl,rfl,rfl⟩,?_⟩,DL rv,λh' tk k=>?_⟩)
  ·exact pl.isList.at λo e=>Uj _ e
  ·refine⟨.bl _,H,I.kept (h':=h') (t':=tk) λb o e=>k b o (λz=>?_) (Uj _ e),?_,q⟩
   ·have e':b=s.heap.objs.size:=by simpa using z
    exact absurd (Uf e) (by rw[e'];exact UW _)
   ·show Value.bool _=Value.bool _;rw[Um,<- hl,ID]
    rfl
 ·exact q.elim
theorem Qt (hc:X.calm=true):cw X (.builtin "any") (mC X.K true):=by
 intro pins s σ H xs us Q I r q;unfold mC at q
 split at q
 ·rename_i p;obtain⟨bs,hq,q⟩:=q;obtain⟨u,rfl,rx⟩:=iw r;cases rx;obtain⟨its,rv,pl,_⟩:=I.list hq;have hl:=rv.length;rw[Uc]at hl;have hne:p≠s.heap.objs.size:=by
   obtain⟨o,n,e,_⟩:=pl;exact Uo (Uf e)
  refine call_any_walk (wpAny_pyIter_list pl.isList ⟨s.heap.objs.size,_,_,_,_,_,λi=>(bs[i]?).getD false,rfl,Walks.list (A:=X.A.in1) (show X.A.in1.handled=none from I.ok.hd hc) s.heap.objs.size p hne its.toArray,⟨⟨_,UG _ rfl,rfl,rfl⟩,?_⟩,DL rv,λh' tk k=>?_⟩)
  ·exact pl.isList.at λo e=>Uj _ e
  ·refine⟨.bl _,H,I.kept (h':=h') (t':=tk) λb o e=>k b o (λz=>?_) (Uj _ e),?_,q⟩
   ·have e':b=s.heap.objs.size:=by simpa using z
    exact absurd (Uf e) (by rw[e'];exact UW _)
   ·show Value.bool _=Value.bool _;rw[Um,<- hl,IC]
    rfl
 ·exact q.elim
def ur(K:W.Frag):List V->Hp->VK->Prop:=λxs H Q=>match xs with
 | [.ref p]=>∃ys,aF K H p ys/\∀l H',bi H l (.tup ys) H'->Q (.ref l) H'
 | _=>False
theorem Qm:cw X (.type "tuple") (ur X.K):=Qf.imp λxs H Q q=>by
 unfold ur at q
 split at q
 ·obtain⟨ys,h1,q⟩:=q;exact⟨_,ys,Z,.inl ⟨h1,λl hl=>q l _ (.mk' hl)⟩⟩
 ·exact q.elim
def C3:V->List V->Hp->VK->Prop:=λx vs H Q=>match x,vs with
 | .ref l,[y]=>∃xs,H l=some (.lst xs)/\xs.length<sizeLine/\Q .non (upd H l (.lst (xs++[y])))
 | _,_=>False
theorem gR:gp X "list.append" C3:=by
 intro pins s σ H x vs v us Q I rx rv q;unfold C3 at q
 split at q
 ·obtain⟨xs,h1,h2,q⟩:=q;exact Li pins s σ H _ _ v us Q I rx rv ⟨_,xs,_,Z,Z,h1,h2,q⟩
 ·exact q.elim
def uC(K:W.Frag):V->List V->Hp->VK->Prop:=λx vs H Q=>match x,vs with
 | .ref l,[.ref b]=>∃xs zs,H l=some (.lst xs)/\H b=some (.lst zs)/\xs.length+zs.length<=sizeLine/\Q .non (upd H l (.lst (xs++zs)))
 | _,_=>False
theorem LT:gp X "list.extend" (uC X.K):=by
 intro pins s σ H x vs v us Q I rx rv q;unfold uC at q
 split at q
 ·obtain⟨xs,zs,h1,h2,h3,q⟩:=q;exact Lf pins s σ H _ _ v us Q I rx rv ⟨_,_,xs,zs,Z,Z,h1,h2,h3,q⟩
 ·exact q.elim
end
structure bp (P:Program) (w:World) (K:W.Frag) (mg:Str->Option Value) (base:Heap) (x:Str) (k:Nat) (f:Addr) (fd:FuncData) (ps:List Str) (sp:Sp):Prop where
 gm:mg x=some (.ref f)
 kp:W.keepIn K (.ref f)=true
 b:aq K fd ps []
 ok:bA P w K mg base bR k f fd ps sp
section
variable {X:Cx}{k j:Nat}{f:Addr}{fd:FuncData}{ps:List Str}{sp:Sp}{x:Str}{p pos:Pos}{e:Expr}{es:List Expr}{t:TA}
theorem Ql(F:bp X.prog X.w X.K X.mg X.base x j f fd ps sp)(hr:bW k X.A)(ha:PA X (e::es) t)(hj:j<=k:=by decide)(hg:Gl X x:=by rfl)
 (hdb:(x == ("__debug__" : Str))=false:=by decide) (hn:dY (e::es)=true:=by rfl) :
 PE X (.Call (.Name x p) (e::es) [] pos) (mU sp [] E0 t):=Kn F.ok (hr.mono hj) hg F.gm F.kp F.b .nil Bs ha hdb (bZ (eV hn).1) (iC (eV hn).2)
theorem Qk{id:String}{r:List V->Hp->VK->Prop}(hc:cw X (.builtin id) r)(hm:X.mg x=none)(hv:bootBuiltins x=some (.builtin id))(ha:PA X (e::es) t)(hg:Gl X x:=by rfl)(hx:x ≠ "__name__":=by decide)(hdb:(x == ("__debug__" : Str))=false:=by decide)
 (hn:dY (e::es)=true:=by rfl):PE X (.Call (.Name x p) (e::es) [] pos) (jV r t):=Km hc hg hm hv ha hx hdb (bZ (eV hn).1) (iC (eV hn).2)
theorem Qj{T:String}{r:List V->Hp->VK->Prop}(hc:cw X (.type T) r)(hm:X.mg x=none)(hv:bootBuiltins x=some (.type T))(ha:PA X (e::es) t)(hg:Gl X x:=by rfl)(hx:x ≠ "__name__":=by decide)(hdb:(x == ("__debug__" : Str))=false:=by decide)
 (hn:dY (e::es)=true:=by rfl):PE X (.Call (.Name x p) (e::es) [] pos) (jV r t):=Kl hc hg hm hv ha hx hdb (bZ (eV hn).1) (iC (eV hn).2)
theorem gi{n:Int}{u:Tok}(hm:X.mg x=some (.int n u))(hg:Gl X x:=by rfl)(hd:(x == ("__debug__" : Str))=false:=by decide):PE X (.Name x pos) (tC (.int n)):=Bq hg hm ⟨u,rfl⟩ hd
end
def gk(cells:List (Str × Addr)):List (Str × NameKind)->List (Str × Addr)->List (Str × Addr)
 | [],acc=>acc
 | (n,k)::r,acc=>gk cells r (if (k == NameKind.free)=true then (n,(cells.lookup n).getD 0)::acc else acc)
theorem DA{scope:Scope}{env:Env}(h:∀n,(n,NameKind.free)∈scope.names->∃c,env.cells.lookup n=some c):closureFor scope env=pure (gk env.cells scope.names []):=by
 unfold closureFor;have key:∀(l:List (Str × NameKind)) (acc:List (Str × Addr)),(∀n,(n,NameKind.free)∈l->∃c,env.cells.lookup n=some c) ->
  (forIn l acc (λx __s=>match x with
    | (name,kind) =>
     if (kind == NameKind.free)=true then do
      let __do_lift <- cellOf env name
      pure (ForInStep.yield ((name,__do_lift)::__s))
     else pure (ForInStep.yield __s)):Sem (List (Str × Addr)))=pure (gk env.cells l acc):=by
  intro l
  induction l with
  | nil=>intro acc _;rfl
  | cons x r ih =>
   intro acc hf;obtain⟨n,k⟩:=x;have hr:∀n,(n,NameKind.free)∈r->∃c,env.cells.lookup n=some c:=λn hn=>hf n (Uw _ hn);rw[List.forIn_cons];by_cases hk:(k == NameKind.free)=true
   ·have hk':k=NameKind.free:=by simpa using hk
    subst hk';obtain⟨c,hc⟩:=hf n Uv;have e:cellOf env n=pure c:=by unfold cellOf;rw[hc]
    show (if (NameKind.free == NameKind.free)=true then _ else _) >>= _=_;rw[if_pos hk,e];show (forIn r ((n,c)::acc) _:Sem (List (Str × Addr)))=_;rw[ih _ hr];show _=pure (gk env.cells r (if (NameKind.free == NameKind.free)=true then (n,(List.lookup n env.cells).getD 0)::acc else acc));rw[if_pos hk,hc]
    rfl
   ·show (if (k == NameKind.free)=true then _ else _) >>= _=_;rw[if_neg hk];show (forIn r acc _:Sem (List (Str × Addr)))=_;rw[ih _ hr];show _=pure (gk env.cells r (if (k == NameKind.free)=true then _ else acc));rw[if_neg hk]
 show (forIn scope.names [] _ >>= _:Sem (List (Str × Addr)))=_;rw[key _ _ h]
 rfl
theorem xc{cells:List (Str × Addr)}:∀(l:List (Str × NameKind)) (acc:List (Str × Addr)) (x:Str) (c:Addr),(gk cells l acc).lookup x=some c->(∀n,(n,NameKind.free)∈l->∃c,cells.lookup n=some c)->((x,NameKind.free)∈l/\cells.lookup x=some c)\/acc.lookup x=some c
 | [],acc,x,c,h,_=>.inr h
 | (n,k)::r,acc,x,c,h,hf=>by
  have hr:∀n,(n,NameKind.free)∈r->∃c,cells.lookup n=some c:=λn hn=>hf n (Uw _ hn);rcases xc r _ x c h hr with ⟨h1,h2⟩|h1
  ·exact .inl ⟨Uw _ h1,h2⟩
  ·by_cases hk:(k == NameKind.free)=true
   ·rw[if_pos hk]at h1;have hk':k=NameKind.free:=by simpa using hk
    subst hk';obtain⟨c',hc⟩:=hf n Uv;rw[hc]at h1;rw[U1]at h1;by_cases e:(x == n)=true
    ·rw[e]at h1;have e':x=n:=by simpa using e
     subst e';have:c'=c:=UO h1;subst this;exact .inl ⟨Uv,hc⟩
    ·have e':(x == n)=false:=by simpa using e
     rw[e']at h1;exact .inr h1
   ·rw[if_neg hk]at h1;exact .inr h1
theorem xf{cells:List (Str × Addr)}:∀(l:List (Str × NameKind)) (acc:List (Str × Addr)) (x:Str),((x,NameKind.free)∈l\/∃c,acc.lookup x=some c)->∃c,(gk cells l acc).lookup x=some c
 | [],acc,x,h=>by
  rcases h with h|h
  ·cases h
  ·exact h
 | (n,k)::r,acc,x,h=>by
  unfold gk;refine xf r _ x ?_;rcases h with h|⟨c,h⟩
  ·rcases Uy.mp h with e|e
   ·cases e;exact .inr ⟨_,by simp;rfl⟩
   ·exact .inl e
  ·refine .inr ?_;by_cases hk:(k == NameKind.free)=true
   ·rw[if_pos hk,U1];cases (x == n)
    ·exact⟨c,h⟩
    ·exact⟨_,Z⟩
   ·rw[if_neg hk];exact⟨c,h⟩
section
variable {prog:Program}{w:World}{A:Around}{s:Shared}{R:Result->Shared->Prop}
theorem P9{elt target iter:Expr}{ifs:List Expr}{scope:Scope}{pos:Pos}{it acc:Value}{env:Env}(I:Nat->Shared->Prop)
 (turn:∀n s,I n s->wpAny (model prog w) A (pyNext it) (λr s₁=>match r with
   | none=>R (.ok .next) s₁
   | some v=>wpAny (model prog w) A (letOwnedTupleGo target it v) (λ_ s₁'=>wpAny (model prog w) A (assign target env v) (λ_ s₂ =>
    wpAny (model prog w) A (forIn ifs true λc r=>if r=true then do let ok <- isTrue c env (eval c env);pure (ForInStep.yield ok) else pure (ForInStep.yield r)) (λok s₃ =>
     if ok=true then wpAny (model prog w) A (eval elt env) (λx s₄ =>
      wpAny (model prog w) A (call (.builtin "list.append") [acc,x]) (λ_ s₅=>∃m,m<n/\I m s₅) (λ_ _=>False) s₄) (λ_ _=>False) s₃
     else ∃m,m<n/\I m s₃) (λ_ _=>False) s₂) (λ_ _=>False) s₁') (λ_ _=>False) s₁) (λ_ _=>False) s)
 (n:Nat) (h:I n s) :
 codeAny (model prog w) A (.compLoop (.ListComp elt [⟨target,iter,ifs,0⟩] scope pos) 0 it acc env) R s:=by
 refine codeAny_loop Z I (λn s hI=>?_) n h;show wpAny _ A ((compTurn (.ListComp elt [⟨target,iter,ifs,0⟩] scope pos) 0 it acc env).onRaise (λx=>do noteFrame x env;theTreesLotGoes x)) _ _ s;refine wpAny_noted ?_;rw[compTurn_list];refine wpAny_bind (wpAny_standAt (wpAny_bind (wpAny_mono (turn n s hI) (λr s₁ h₁=>?_) λ_ _ h'=>h'.elim)));cases r with
 | none=>exact wpAny_pure h₁
 | some v =>
  refine wpAny_bind (wpAny_mono h₁ (λ_ s₁' h₁'=>?_) λ_ _ h'=>h'.elim);refine wpAny_bind (wpAny_mono h₁' (λ_ s₂ h₂=>wpAny_bind (wpAny_mono h₂ (λok s₃ h₃=>?_) λ_ _ h'=>h'.elim)) λ_ _ h'=>h'.elim);cases ok with
  | false=>exact wpAny_pure ⟨rfl,h₃⟩
  | true =>
   exact wpAny_bind (wpAny_bind (wpAny_mono h₃ (λx s₄ h₄=>wpAny_bind (wpAny_mono h₄ (λ_ s₅ h₅=>wpAny_pure (wpAny_pure ⟨rfl,h₅⟩)) λ_ _ h'=>h'.elim)) λ_ _ h'=>h'.elim))
end
def di(X:Cx)(Nc:List Str)(scope:Scope)(C:Addr)(s:Shared)(H:Hp)(fp:List Addr):Cx where
 prog:=X.prog
 w:=X.w
 K:=X.K
 mg:=X.mg
 base:=X.base
 A:=X.A
 N:=Nc
 s₀:=s
 H₀:=H
 env:=compEnvC scope (gk X.env.cells scope.names []) C X.env
 outer:=X.stack
 stack:=X.stack
 ex:=fp
 fn:=λ_=>false
 calm:=X.calm
 pn:=X.pn
 xe:=λ_ _=>False
def mK(X:Cx)(ifs:List Expr)(t:TT):Prop :=
 ∀(pins:List (Addr × Obj)) (s:Shared) (σ:St) (H:Hp) (Q:Bool->Hp->Prop),ai X pins σ H s->t σ H Q ->
  wpAny (model X.prog X.w) X.A (forIn ifs true λc r=>if r=true then do let ok <- isTrue c X.env (eval c X.env);pure (ForInStep.yield ok) else pure (ForInStep.yield r)) (TP X pins σ Q) X.xe s
def gy:TT:=λ_ H Q=>Q true H
theorem Jo{X:Cx}:mK X [] gy:=λ_ _ _ H _ I h=>wpAny_tests_nil ⟨H,I,h⟩
theorem Jn{X:Cx}{c:Expr}{t:TT}(h:PT X c t):mK X [c] t:=λpins s σ H Q I q=>wpAny_tests_one (h pins s σ H Q I q)
theorem bQ.adopt{P:Program}{w:World}{H:Hp}{h:Heap}{a:Addr}{o:HO}(x:bQ P w H h)(hn:H a=none)(new:cg P w (upd H a o) h a o):bQ P w (upd H a o) h:=λb u e=>by
 by_cases hb:b=a
 ·subst hb;rw[bc]at e;cases e;exact new
 ·rw[az hb]at e;exact (x b u e).stay (λc v _ q=>q) (λc q=>by rw[az (aN q hn)];exact q) λc xs q=>by rw[az (aN q hn)];exact q
def iQ(J:It)(H1:Hp)(σ0:St)(g:TG)(tt:TT)(te:TE)(Q:VK):Prop:=∃W:Nat->Nat->List V->St->Hp->Prop,
 (∃m,W 0 m [] σ0 H1)/\∀i m ys σ1 H2,W i m ys σ1 H2 ->
   (J.stop i H2/\ys.length<=sizeLine/\∀p H',bi H2 p (.lst ys) H'->Q (.ref p) H') \/
   (J.go i H2/\ys.length<sizeLine/\∃Nx:List V->St->Hp->Prop,(∀ys' σ' H',Nx ys' σ' H'->∃m',m'<m/\W (i+1) m' ys' σ' H') /\
     ∀x H',J.yld i H2 x H'->g x σ1 H' λσ2 H3=>tt σ2 H3 λb H4=>if b=true then te σ2 H4 λy H5=>Nx (ys++[y]) σ2 H5 else Nx ys σ2 H4)
def oK(nv:Nat)(caps:List Nat)(wi:TI)(g:TG)(tt:TT)(te:TE):TE:=λσ H Q=>wi σ H λJ H1=>iQ J H1 (List.replicate nv none++caps.map λj=>(σ[j]?).join) g tt te Q
structure cZ (X:Cx) (Nc:List Str) (nv:Nat) (caps:List Nat) (scope:Scope):Prop where
 kind:scope.kind=.function
 nocell:∀y∈scope.names,y.2 ≠ .cell
 names:∀y∈scope.names,y.2=.local->scope.names.lookup y.1=some .local
 free:∀n,(n,NameKind.free)∈scope.names->X.env.kindOf n=some .cell\/X.env.kindOf n=some .free
 len:Nc.length=nv+caps.length
 cap:∀k j,caps[k]? = some j->∃x,Nc[nv+k]? = some x/\X.N[j]? = some x/\scope.names.lookup x=some .free
def Dz(fns:List (Str × NameKind))(N Nc:List Str)(nv:Nat)(caps:List Nat)(sc:Scope):Bool :=
 (sc.kind == .function) && (sc.names.all λy=>!(y.2 == .cell)) && (sc.names.all λy=>!(y.2 == .local) || sc.names.lookup y.1 == some .local) &&
 (sc.names.all λy=>!(y.2 == .free) || (fns.lookup y.1 == some .cell || fns.lookup y.1 == some .free)) && (Nc.length == nv+caps.length) &&
 ((List.range caps.length).all λk=>match caps[k]?,Nc[nv+k]? with
   | some j,some x=>N[j]? == some x && sc.names.lookup x == some .free
   | _,_=>false)
theorem cZ.of{X:Cx}{fns:List (Str × NameKind)}{N Nc:List Str}{nv:Nat}{caps:List Nat}{sc:Scope}(hf:X.env.scope.names=fns)(hN:X.N=N)(h:Dz fns N Nc nv caps sc=true):cZ X Nc nv caps sc:=by
 unfold Dz at h;simp only [UD]at h;obtain⟨⟨⟨⟨⟨h1,h2⟩,h3⟩,h4⟩,h5⟩,h6⟩:=h;refine⟨by simpa using h1,λy hy e=>?_,λy hy e=>?_,λn hn=>?_,by simpa using h5,λk j e=>?_⟩
 ·have:=Vz.mp h2 y hy;rw[e]at this;simp at this
 ·have:=Vz.mp h3 y hy;rw[e]at this;simpa using this
 ·have:=Vz.mp h4 _ hn;show X.env.scope.names.lookup n=some .cell\/X.env.scope.names.lookup n=some .free;rw[hf];simpa using this
 ·have hk:k<caps.length:=(Uk.mp e).1;have:=Vz.mp h6 k (U3.mpr hk);rw[e]at this;cases ex:Nc[nv+k]? with
  | none=>rw[ex]at this;simp at this
  | some x =>
   rw[ex]at this;simp only [UD]at this;exact⟨x,rfl,by rw[hN];simpa using this.1,by simpa using this.2⟩
theorem pR{env:Env}:∀ {names:List (Str × NameKind)} {x:Str} {k:NameKind},
 (names.map λ(n,k)=>if (k == NameKind.free && env.scope.kind == .function && env.kindOf n == some .cell) then (n,NameKind.cell) else (n,k)).lookup x=some k ->
 ∃k0,names.lookup x=some k0/\(k=k0\/(k0=.free/\k=.cell))
 | [],_,_,h=>by simp at h
 | (n,k0)::r,x,k,h=>by
  have h':List.lookup x ((if (k0 == NameKind.free && env.scope.kind == .function && env.kindOf n == some .cell)=true then (n,NameKind.cell) else (n,k0)) ::
   r.map λ(n,k)=>if (k == NameKind.free && env.scope.kind == .function && env.kindOf n == some .cell) then (n,NameKind.cell) else (n,k))=some k:=h
  cases hx:x == n with
  | true =>
   refine⟨k0,by simp[U1,hx],?_⟩;by_cases hc:(k0 == NameKind.free && env.scope.kind == .function && env.kindOf n == some .cell)=true
   ·rw[if_pos hc,U1,hx]at h';have:NameKind.cell=k:=UO h';refine .inr ⟨?_,this.symm⟩;rw[UD,UD]at hc;simpa using hc.1.1
   ·rw[if_neg hc,U1,hx]at h';exact .inl (UO h').symm
  | false =>
   have h2:(r.map λ(n,k)=>if (k == NameKind.free && env.scope.kind == .function && env.kindOf n == some .cell) then (n,NameKind.cell) else (n,k)).lookup x=some k:=by
    by_cases hc:(k0 == NameKind.free && env.scope.kind == .function && env.kindOf n == some .cell)=true
    ·rw[if_pos hc,U1,hx]at h';exact h'
    ·rw[if_neg hc,U1,hx]at h';exact h'
   obtain⟨k1,h3,h4⟩:=pR h2;exact⟨k1,by simp[U1,hx,h3],h4⟩
theorem jb{a b n:Addr}(h:a<n)(h':n<=b):a≠b:=Uo (Uh h h')
theorem nz{α β:Type}[BEq α][LawfulBEq α]:∀ {l:List (α × β)} {x:α} {k:β},l.lookup x=some k->(x,k)∈l
 | [],_,_,h=>by simp at h
 | (n,k0)::r,x,k,h=>by
  cases hx:x == n with
  | true =>
   simp only [U1,hx]at h;cases h;have e:x=n:=by simpa using hx
   subst e;exact Uv
  | false =>
   simp only [U1,hx]at h;exact Uw _ (nz h)
section
variable {X:Cx}{elt tg iter:Expr}{ifs:List Expr}{scope:Scope}{Nc:List Str}{nv:Nat}{caps:List Nat}
theorem MK{pins:List (Addr × Obj)}{σ:St}{H:Hp}{s:Shared}{fp:List Addr}{h₁:Heap}{tk:Nat}{D C:Addr}{m:Str->Option Value}(S:cZ X Nc nv caps scope)(I:ai X pins σ H s)
 (hf:∀b∈fp,gu X pins H b) (hfl:∀b∈fp,b<s.heap.objs.size) (hD:s.heap.objs.size<=D) (hC:s.heap.objs.size<=C) (hDC:D≠C) (hn:h₁.Ns C m) {oD:Obj} (hDo:h₁.get? D=some oD) (hDd:∀v,oD.data ≠ .cell v) (old:∀b o,s.heap.get? b=some o->h₁.get? b=some o) :
 ai (di X Nc scope C s H fp) (pins++[(D,oD)]) (List.replicate nv none++caps.map λj=>(σ[j]?).join) H { s with heap:=h₁,toks:=tk }:=by
 have hcells:∀n,(n,NameKind.free)∈scope.names->∃c,X.env.cells.lookup n=some c:=λn hm=>I.ok.has n (S.free n hm);have clX:∀x c,(gk X.env.cells scope.names []).lookup x=some c->(x,NameKind.free)∈scope.names/\X.env.cells.lookup x=some c:=λx c e=>by
  rcases xc _ _ _ _ e hcells with h|h
  ·exact h
  ·simp at h
 have frm:∀b∈d9 X.stack,b<s.heap.objs.size:=λb hb=>by
  obtain⟨_,o,ho,_⟩:=I.stack.mem hb;exact Uf ho
 have cellLt:∀x c,X.env.cells.lookup x=some c->c<s.heap.objs.size:=λx c e=>by
  obtain⟨v,q⟩:=I.cell x c e;exact q.lt
 refine⟨⟨I.ok.mod,S.kind,I.ok.glob,I.ok.blt,hC,λx y c e1 e2=>I.ok.inj x y c (clX x c e1).2 (clX y c e2).2,λx hx=>?_,λx c z=>absurd z (by show ¬(false=true);decide),I.ok.hd,I.ok.frames,.inl rfl,λb hb=>⟨?_,λx c e z=>?_⟩,λb o e=>I.bs b o e,UE I.ok.bsz I.sz,λb o e hb=>?_,λb hb z=>?_,I.stack,I.stkFree⟩,
  rfl,I.bare,Un.kept old,⟨m,hn,λi x v h1 h2 h3=>?_⟩,λx c e=>?_,I.hok.fresh hC,λx c e=>I.freeC x c (clX x c e).2,λp hp=>?_,I.hok.kept old,?_⟩
 ·-- a cell or free name of the block has its cell
  have hx':(relabel scope X.env).names.lookup x=some .cell\/(relabel scope X.env).names.lookup x=some .free:=hx;have hm:(x,NameKind.free)∈scope.names:=by
   rcases hx' with hx'|hx'
   ·obtain⟨k0,e,z⟩:=pR hx';rcases z with z|⟨z,_⟩
    ·subst z;exact absurd Z (S.nocell _ (nz e))
    ·subst z;exact nz e
   ·obtain⟨k0,e,z⟩:=pR hx';rcases z with z|⟨_,z⟩
    ·subst z;exact nz e
    ·cases z
  exact xf _ _ _ (.inl hm)
 ·exact Uo (Uh (hfl b hb) hC)
 ·exact (hf b hb).2.2.2.2.1 x c (clX x c e).2 z
 ·have hx:=(hf b hb).2.2.2.1;rcases hx with z|z
  ·exact I.ok.noex b o e z
  ·exact absurd (Uh (Uh (Uf e) I.ok.bsz) z) (UW _)
 ·rcases Uy.mp (I.stkSub b z) with q|q
  ·exact (hf b hb).2.1 q
  ·exact (hf b hb).2.2.1 q
 ·-- the names' values
  have hi:nv<=i:=by
   refine Nat.le_of_not_lt λhlt=>?_;rw[Vw (by simpa using hlt),WR,if_pos hlt]at h2;cases h2
  obtain⟨k,rfl⟩:=Nat.le.dest hi;rw[Vi (by simp)]at h2;simp only [Wg,Vo,Ug]at h2;cases ek:caps[k]? with
  | none=>rw[ek]at h2;cases h2
  | some j =>
   rw[ek]at h2;have h2':(σ[j]?).join=some v:=UO h2;have hσ:σ[j]? = some (some v):=by
    cases e:σ[j]? with
    | none=>rw[e]at h2';cases h2'
    | some z=>rw[e]at h2';cases z with
     | none=>cases h2'
     | some z=>have:z=v:=UO h2';rw[this]
   obtain⟨y,e1,e2,e3⟩:=S.cap k j ek;have h1':Nc[nv+k]? = some x:=h1;rw[e1]at h1';cases h1';have hm:=nz e3;have hk:=S.free x hm;obtain⟨m0,hn0,hl⟩:=I.loc;obtain⟨u,ru,lk⟩:=hl j x v e2 hσ (by
    rcases hk with z|z
    ·exact .inr (.inl z)
    ·exact .inr (.inr z))
   refine⟨u,ru,?_⟩;rcases lk with ⟨z,_⟩|⟨_,c,hc,hcell⟩
   ·rcases hk with z'|z'<;>rw[z]at z'<;>cases z'
   ·refine .inr ⟨?_,c,?_,hcell.keeps old⟩
    ·rcases h3 with z|z|z
     ·exfalso
      obtain⟨k0,e,z'⟩:=pR (show (relabel scope X.env).names.lookup x=some .local from z);rw[e3]at e;cases e;rcases z' with z'|⟨_,z'⟩<;>cases z'
     ·exact .inl z
     ·exact .inr z
    ·obtain⟨c',hc'⟩:=xf (cells:=X.env.cells) scope.names [] x (.inl hm);rw[(clX x c' hc').2]at hc;cases hc;exact hc'
 ·obtain⟨v,z⟩:=I.cell x c (clX x c e).2;exact⟨v,z.keeps old⟩
 ·-- pins
  have hp':p∈X.pn++(pins++[(D,oD)]):=hp;rw[<- UN]at hp';rcases Us.mp hp' with z|z
  ·obtain⟨e,n,ne,nf,d⟩:=I.pin p z;have hlt:=Uf e;refine⟨old _ _ e,n,Uo (Uh hlt hC),λq=>?_,d⟩;rcases Uy.mp (I.stkSub p.1 q) with q|q
   ·exact ne q
   ·exact nf q
  ·have e:p=(D,oD):=by simpa using z
   subst e;exact⟨hDo,I.hok.fresh hD,hDC,λq=>absurd (Uh (frm _ q) hD) (UW _),hDd⟩
 ·show (List.replicate nv none++caps.map λj=>(σ[j]?).join).length=Nc.length;rw[Ud,Wg,Uc,S.len]
abbrev iE(its:List Value)(n:Nat):Obj:={ cls:=.type "list",data:=.seq its.toArray n }
theorem BY(its:List Value)(n:Nat):∀v,(iE its n).data ≠ .cell v:=λv z=>by
 have z':Data.seq its.toArray n=Data.cell v:=z;cases z'
theorem Dy{g:TG}{tt:TT}{te:TE}{pos:Pos}{pins:List (Addr × Obj)}{σ:St}{H:Hp}{s:Shared}{Q:VK}{E:Value->Shared->Prop}{RR:Value->Addr->Result->Shared->Prop}(hc:X.calm=true)(S:cZ X Nc nv caps scope)
 (hg:∀C s H fp,PG (di X Nc scope C s H fp) tg g) (ht:∀C s H fp,mK (di X Nc scope C s H fp) ifs tt) (he:∀C s H fp,PE (di X Nc scope C s H fp) elt te)
 {it:Addr} {fp:List Addr} {tn:Nat->Heap->Prop} {J:It} (I:ai X pins σ H s) (T:jc X.prog X.w X.K tg J fp it tn) (st:tn 0 s.heap) (hf:∀b∈fp,gu X pins H b)
 {W:Nat->Nat->List V->St->Hp->Prop} {m0:Nat} (w0:W 0 m0 [] (List.replicate nv none++caps.map λj=>(σ[j]?).join) H)
 (turn:∀i m ys σ1 H2,W i m ys σ1 H2->(J.stop i H2/\ys.length<=sizeLine/\∀p H',bi H2 p (.lst ys) H'->Q (.ref p) H') \/
   (J.go i H2/\ys.length<sizeLine/\∃Nx:List V->St->Hp->Prop,(∀ys' σ' H',Nx ys' σ' H'->∃m',m'<m/\W (i+1) m' ys' σ' H') /\
     ∀x H',J.yld i H2 x H'->g x σ1 H' λσ2 H3=>tt σ2 H3 λb H4=>if b=true then te σ2 H4 λy H5=>Nx (ys++[y]) σ2 H5 else Nx ys σ2 H4))
 (hRR:∀(D C:Addr) (s1:Shared) (H':Hp),ai X pins σ H' s1->gu X pins H' C->(∃m,s1.heap.Ns C m)->Q (.ref D) H'->RR (.ref D) C (.ok .next) s1) :
 wpAny (model X.prog X.w) X.A (newList []) (λacc s₃=>wpAny (model X.prog X.w) X.A (newFunctionEnv scope X.env.globals (gk X.env.cells scope.names []) [] X.env.qual none .none (some X.env)) (λcenv s₄ =>
  codeAny (model X.prog X.w) X.A (.compStart (.ListComp elt [⟨tg,iter,ifs,0⟩] scope pos) 0 (.ref it) acc { cenv with scope:=relabel scope X.env }) (RR acc cenv.locals) s₄) E s₃) E s:=by
 refine wpAny_newObj_type (wpAny_newFunctionEnv S.nocell (by intro y hy;simp at hy) (λh₁ hns₁ hsb₁=>?_) S.kind);dsimp only at hns₁ hsb₁ ⊢;generalize hH2:s.heap.push { cls:=.type "list",dict:=none,data:=.seq ([]:List Value).toArray }=h2 at hns₁ hsb₁ ⊢;have hC:h2.objs.size=s.heap.objs.size+1:=by rw[<- hH2,Vg]
 have hDC:s.heap.objs.size≠h2.objs.size:=by rw[hC];exact Uo (Uz _)
 have hCle:s.heap.objs.size<=h2.objs.size:=by rw[hC];exact Vh _
 have old:∀b o,s.heap.get? b=some o->h₁.get? b=some o:=λb o e=>hsb₁.extBut b o (Uo (Uh (Uf e) hCle)) (Uj _ (hH2 ▸ Uj _ e));have hacc:h₁.get? s.heap.objs.size=some (iE [] 0):=hsb₁.extBut _ _ hDC (Uj _ (hH2 ▸ UG _ rfl));have hfl:∀b∈fp,b<s.heap.objs.size:=λb hb=>by
  obtain⟨o,ho,_⟩:=T.obj _ _ st b hb;exact Uf ho
 have frm:∀b∈d9 X.stack,b<s.heap.objs.size:=λb hb=>by
  obtain⟨_,o,ho,_⟩:=I.stack.mem hb;exact Uf ho
 have cellLt:∀x c,X.env.cells.lookup x=some c->c<s.heap.objs.size:=λx c e=>by
  obtain⟨v,q⟩:=I.cell x c e;exact q.lt
 have hcells:∀n,(n,NameKind.free)∈scope.names->∃c,X.env.cells.lookup n=some c:=λn hm=>I.ok.has n (S.free n hm);have clX:∀x c,(gk X.env.cells scope.names []).lookup x=some c->X.env.cells.lookup x=some c:=λx c e=>by
  rcases xc _ _ _ _ e hcells with h|h
  ·exact h.2
  ·simp at h
 have pinLt:∀p∈X.pn++pins,p.1<s.heap.objs.size:=λp hp=>Uf (I.pin p hp).1;generalize hDD:s.heap.objs.size=D at hacc hDC ⊢;generalize hCC:h2.objs.size=C at hDC hCle hns₁ hsb₁ ⊢;have leD:s.heap.objs.size<=D:=Vt hDD;have leC:s.heap.objs.size<=C:=by omega
 have fpc:∀ {H1:Hp} (o:Obj),(∀b∈fp,H1 b=none)->∀b∈fp,gu (di X Nc scope C s H fp) (pins++[(D,o)]) H1 b:=λ{H1} o hn b hb=>by
  refine⟨hn b hb,Uo (Uh (hfl b hb) leC),λz=>?_,.inl hb,λx c e z=>(hf b hb).2.2.2.2.1 x c (clX x c e) z,λp hp=>?_⟩
  ·rcases Uy.mp (I.stkSub b z) with q|q
   ·exact (hf b hb).2.1 q
   ·exact (hf b hb).2.2.1 q
  ·have hp':p∈X.pn++(pins++[(D,o)]):=hp;rw[<- UN]at hp';rcases Us.mp hp' with z|z
   ·exact (hf b hb).2.2.2.2.2 p z
   ·have e:p=(D,o):=by simpa using z
    subst e;exact λq=>jb (hfl b hb) leD q.symm
 have loop:∀s₃:Shared,s₃ = { s with heap:=h₁,toks:=s.toks+([]:List (Str × Value)).length } ->
  codeAny (model X.prog X.w) X.A (.compLoop (.ListComp elt [⟨tg,iter,ifs,0⟩] scope pos) 0 (.ref it) (.ref D) (compEnvC scope (gk X.env.cells scope.names []) C X.env)) (RR (.ref D) C) s₃:=by
  rintro s₃ rfl;refine P9 (λn s'=>∃(i:Nat) (ys:List V) (its:List Value) (nn:Nat) (σ1:St) (H1:Hp),ai (di X Nc scope C s H fp) (pins++[(D,iE its nn)]) σ1 H1 s'/\tn i s'.heap/\(∀b∈fp,H1 b=none)/\aL ys its/\W i n ys σ1 H1) ?_ m0
   ⟨0,[],[],0,_,H,MK S I hf hfl leD leC hDC hns₁ hacc (BY _ _) old,T.keep _ _ _ st λb _ o e=>old b o e,λb hb=>(hf b hb).1,.nil,w0⟩
  rintro n s' ⟨i,ys,its,nn,σ1,H1,I1,st1,fr1,rv,w1⟩;have pinD:∀ {σ':St} {H':Hp} {s'':Shared} {pl:List (Addr × Obj)},ai (di X Nc scope C s H fp) ((pins++[(D,iE its nn)])++pl) σ' H' s''->s''.heap.get? D=some (iE its nn)/\H' D=none:=λ{σ' H' s'' pl} I'=>by
   have z:=I'.pin (D,iE its nn) (UA _ (UQ _ (UA _ (by simp))));exact⟨z.1,z.2.1⟩
  rcases turn i n ys σ1 H1 w1 with ⟨stop,hz,q⟩|⟨go,hz,Nx,hNx,step⟩
  ·refine aD (T.done (di X Nc scope C s H fp) Z Z Z hc i _ s' σ1 H1 _ I1 (fpc _ fr1) st1 stop) λr s4 ⟨hr,I4⟩=>?_;subst hr;obtain⟨eD,nD⟩:=pinD (pl:=[]) (by rw[UC];exact I4);obtain⟨m,hnC,_⟩:=I4.loc;have u4:Un (d9 X.stack) fp H H1 s.heap s4.heap:=I4.base;have dNone:s.heap.get? D=none:=WM (Vt hDD);have noD:∀b o,s.heap.get? b=some o->b≠D:=λb o e z=>by rw[z,dNone]at e;cases e
   have u5:Un (d9 X.stack) fp H (upd H1 D (.lst ys)) s.heap s4.heap:=by
    refine⟨u4.keep,u4.slot,λb o e n hx=>?_,u4.there,λb xs e=>?_,λb o u e=>?_,λb ps e=>?_⟩
    ·rw[az (noD b o e)];exact u4.free b o e n hx
    ·have z:=u4.tups b xs e;rw[az (aN z nD)];exact z
    ·have z:=u4.frzs b o u e;rw[az (aN z nD)];exact z
    ·obtain⟨more,z⟩:=u4.tbls b ps e;exact⟨more,by rw[az (aN z nD)];exact z⟩
   have hok:bQ X.prog X.w (upd H1 D (.lst ys)) s4.heap:=bQ.adopt I4.hok nD ⟨hz,its,nn,rv,eD⟩;have IX:ai X pins σ (upd H1 D (.lst ys)) s4:=I.call' I4.os u5 hok I4.bare λb hb=>⟨(hf b hb).2.2.2.1,(hf b hb).2.1,(hf b hb).2.2.2.2.1,(hf b hb).2.2.2.2.2⟩;have fpC:gu X pins (upd H1 D (.lst ys)) C:=by
    have hl:X.env.locals<s.heap.objs.size:=I.lt;exact⟨by rw[az (Ne.symm hDC)];exact I4.free,(jb hl leC).symm,I.nofs leC,.inr (UE I.sz leC),λx c e z=>jb (cellLt x c e) leC z,λp hp z=>jb (pinLt p hp) leC z⟩
   exact hRR D C s4 _ IX fpC ⟨m,hnC⟩ (q D _ (.mk' nD))
  ·refine aD (T.item (di X Nc scope C s H fp) Z Z Z hc i _ s' σ1 H1 _ I1 (fpc _ fr1) st1 go) λr s4 ⟨u,hr,h4⟩=>?_;subst hr;refine aD h4 λ_ s5 ⟨x,H5,I5,r5,y5,cT,fr5⟩=>?_;have I5':=I5.pinned (fpc _ fr5) (T.obj _ _ cT);have back:∀ {σ7:St} {H7:Hp} {s7:Shared},ai (di X Nc scope C s H fp) ((pins++[(D,iE its nn)])++m9 fp s5.heap) σ7 H7 s7->tn (i+1) s7.heap/\∀b∈fp,H7 b=none:=λ{σ7 H7 s7} I7=>by
    refine⟨T.keep _ _ _ cT λb hb o e=>(I7.pin (b,o) (UA _ (UA _ (pO hb e)))).1,λb hb=>?_⟩;obtain⟨o,e,d⟩:=T.obj _ _ cT b hb;exact (I7.pin (b,o) (UA _ (UA _ (pO hb e)))).2.1
   refine aD (hg _ _ _ _ _ s5 σ1 H5 x u _ I5' r5 (step x H5 y5)) λ_ s6 ⟨σ6,H6,I6,q6⟩=>?_;refine aD (ht _ _ _ _ _ s6 σ6 H6 _ I6 q6) λb s7 ⟨H7,I7,q7⟩=>?_;cases b with
   | false =>
    obtain⟨m',hm,w7⟩:=hNx _ _ _ q7;obtain⟨t7,f7⟩:=back I7;exact⟨m',hm,i+1,ys,its,nn,σ6,H7,I7.unpinned,t7,f7,rv,w7⟩
   | true =>
    refine aD (he _ _ _ _ _ s7 σ6 H7 _ I7 q7) λyv s8 ⟨y,H8,I8,r8,n8⟩=>?_;obtain⟨m',hm,w8⟩:=hNx _ _ _ n8;obtain⟨t8,f8⟩:=back I8;obtain⟨eD,nD⟩:=pinD I8;have hlen:=rv.length;refine call_meets F.slot_list_append ⟨_,eD,rfl⟩ F.entry_list_append (F.args_list_append_2 _ _) (PySem.list_append D its.toArray nn yv (by rw[Um];omega)) ⟨eD,?_⟩;have ea:its.toArray.push yv=(its++[yv]).toArray:=by simp
    obtain⟨n9,e9⟩:∃n9,(s8.heap.update D (Obj.mapSeq (·.push yv))).get? D=some (iE (its++[yv]) n9):=⟨_,by
     have z:=PySem.IsL.update eD (·.push yv);rw[ea]at z;exact z⟩
    have keep9:∀b o,b≠D->s8.heap.get? b=some o->(s8.heap.update D (Obj.mapSeq (·.push yv))).get? b=some o:=λb o hb e=>(Wk _ _ (Ne.symm hb)).trans e;have nfp:∀b∈fp,b≠D:=λb hb z=>jb (hfl b hb) leD z;have I8u:ai (di X Nc scope C s H fp) pins σ6 H8 s8:=I8.pins_of λp hp=>I8.pin p (UA _ (UQ _ (UQ _ hp)));have I9:=I8u.turned (t':=s8.toks) (it:=D) keep9 nD hDC (.inr leD) (λx c e z=>jb (cellLt x c (clX x c e)) leD z) (λp hp z=>jb (pinLt p hp) leD z);have t9:tn (i+1) (s8.heap.update D (Obj.mapSeq (·.push yv))):=T.keep _ _ _ t8 λb hb o e=>keep9 b o (nfp b hb) e;refine⟨m',hm,i+1,ys++[y],its++[yv],n9,σ6,H8,I9.pins_of λp hp=>?_,t9,f8,rv.append (.cons r8 .nil),w8⟩;rcases Us.mp hp with z|z
    ·exact I9.pin p (UA _ z)
    ·have e:p=(D,iE (its++[yv]) n9):=by simpa using z
     subst e;exact⟨e9,nD,hDC,λq=>jb (frm _ q) leD Z,BY _ _⟩
 have st':=λ(s₃:Shared) (e:s₃ = { s with heap:=h₁,toks:=s.toks+([]:List (Str × Value)).length })=>loop s₃ e;exact codeAny_compStart_list (loop _ Z) (T.self _ 0 _ _ _ (T.keep _ _ _ st λb _ o e=>old b o e) (loop _ Z))
theorem Kj{wi:TI}{g:TG}{tt:TT}{te:TE}{pos:Pos}(hc:X.calm=true)(S:cZ X Nc nv caps scope)(hi:PI X tg iter wi)
 (hg:∀C s H fp,PG (di X Nc scope C s H fp) tg g) (ht:∀C s H fp,mK (di X Nc scope C s H fp) ifs tt) (he:∀C s H fp,PE (di X Nc scope C s H fp) elt te)
 (hs:∀x,foldedSetIterable iter X.env x=pure x:=by intro _;rfl):PE X (.ListComp elt [⟨tg,iter,ifs,0⟩] scope pos) (oK nv caps wi g tt te):=by
 intro pins s σ H Q I h;rw[eval_ListComp];have hcells:∀n,(n,NameKind.free)∈scope.names->∃c,X.env.cells.lookup n=some c:=λn hm=>I.ok.has n (S.free n hm);refine wpAny_comprehension_free (use:=none) Z hs (DA hcells) S.kind S.names (aD (hi pins s σ H _ I h) λv s1 h1=>aD h1 λitv s2 h2=>?_);obtain⟨it,fp,tn,J,H2,rfl,I2,T,st2,f2,W,⟨m0,w0⟩,turn⟩:=h2;refine Dy (RR:=λacc C=>compPost (model X.prog X.w) X.A X.xe none (EP X pins σ Q) acc C) hc S hg ht he I2 T st2 f2 w0 turn λD C s4 H4 I4 fC hn q=>?_;obtain⟨m,hn⟩:=hn;refine⟨m,hn,λh' sb=>?_⟩;obtain⟨f0,f1,f2',f3,f4,f5⟩:=fC;exact⟨.ref D,H4,I4.turned (t':=s4.toks) (it:=C) (λb o hb e=>sb.extBut b o hb e) f0 f1 f3 f4 f5,Z,q⟩
theorem Jt{wi:TI}{g:TG}{tt:TT}{te:TE}{pos spos py:Pos}{i:Nat}{y:Str}(hN:X.N.Nodup)(hy:X.N[i]? = some y)(hx:jf X.env.scope y)(hc:X.calm=true)(S:cZ X Nc nv caps scope)(hi:PI X tg iter wi)
 (hg:∀C s H fp,PG (di X Nc scope C s H fp) tg g) (ht:∀C s H fp,mK (di X Nc scope C s H fp) ifs tt) (he:∀C s H fp,PE (di X Nc scope C s H fp) elt te)
 (hsw:swapsWith (.ListComp elt [⟨tg,iter,ifs,0⟩] scope pos) (some (.Name y py)) spos.line X.env=pure true:=by rfl)
 (hs:∀x,foldedSetIterable iter X.env x=pure x:=by intro _;rfl) (hf:X.fn y=true\/X.env.scope.names.lookup y=some .local:=by first|exact .inl rfl|exact .inr rfl|assumption) :
 PS X (.Assign [.Name y py] (.ListComp elt [⟨tg,iter,ifs,0⟩] scope pos) spos) (jW (oK nv caps wi g tt te) (bT i)):=by
 intro pins s σ H D0 I h;have hcells:∀n,(n,NameKind.free)∈scope.names->∃c,X.env.cells.lookup n=some c:=λn hm=>I.ok.has n (S.free n hm);rw[exec_Assign_Name_used _ _ _ _ hsw];refine wpAny_bind (wpAny_standAt (wpAny_bind ?_));show wpAny _ X.A (do let _ <- comprehension (.ListComp elt [⟨tg,iter,ifs,0⟩] scope pos) scope X.env _ (newList []) false (eval iter X.env) (some (assign (.Name y py) X.env))) _ _ s;refine wpAny_bind (wpAny_mono (wpAny_comprehension_free (use:=some (assign (.Name y py) X.env)) (Q:=λ_ s'=>SP X pins D0 .next s') Z hs (DA hcells) S.kind S.names
  (aD (hi pins s σ H _ I h) λv s1 h1=>aD h1 λitv s2 h2=>?_)) (λ_ s' hq=>wpAny_pure (wpAny_pure hq)) λ_ _ e=>e)
 obtain⟨it,fp,tn,J,H2,rfl,I2,T,st2,f2,W,⟨m0,w0⟩,turn⟩:=h2;refine Dy (RR:=λacc C=>compPost (model X.prog X.w) X.A X.xe (some (assign (.Name y py) X.env)) (λ_ s'=>SP X pins D0 .next s') acc C) (Q:=λx H1=>bT i x σ H1 D0.nx) hc S hg ht he I2 T st2 f2 w0 turn λD C s4 H4 I4 fC hn q=>?_;obtain⟨m,hn⟩:=hn;obtain⟨f0,f1,f2',f3,f4,f5⟩:=fC;show wpAny _ X.A (assign (.Name y py) X.env (.ref D)) _ _ _;refine wpAny_assign_Name (Ac I4 hN hy hx (show aQ (.ref D) (.ref D) from rfl) (λs5 I5 sb5=>?_) hf);obtain⟨a5,sb5,ha5⟩:=sb5;have hCa:C≠a5:=by
  rcases ha5 with z|z
  ·rw[z];exact f1
  ·exact λe=>f4 _ _ z e.symm
 refine⟨m,hn.sameBut sb5 hCa,λh' sb=>?_⟩;exact⟨_,H4,I5.turned (t':=s5.toks) (it:=C) (λb o hb e=>sb.extBut b o hb e) f0 f1 f3 f4 f5,q⟩
end
theorem rf{K:W.Frag}{a:Addr}{xs:List V}{cs:St}{tt:TT}{te:TE}{H:Hp}{Q:VK}(Pv:Nat->List V->Hp->Prop)(h0:Pv 0 [] H)(hl:∀i ys H,i<=xs.length->Pv i ys H->aF K H a xs/\ys.length<=i)(hz:xs.length<=sizeLine)
 (hs:∀i x ys H (N:List V->Hp->Prop),xs[i]? = some x->Pv i ys H->(∀ys' H',Pv (i+1) ys' H'->N ys' H')->tt (some x::cs) H λb H4=>if b=true then te (some x::cs) H4 λy H5=>N (ys++[y]) H5 else N ys H4)
 (hd:∀ys H p H',Pv xs.length ys H->bi H p (.lst ys) H'->Q (.ref p) H') :
 iQ (jh K a) H (List.replicate 1 none++cs) (bT 0) tt te Q:=by
 refine⟨λi m ys σ H=>m=xs.length-i/\i<=xs.length/\Pv i ys H/\∃v0,σ=v0::cs,⟨xs.length,by simp,Ux _,h0,none,rfl⟩,?_⟩;rintro i m ys σ H2 ⟨rfl,hi,p,v0,rfl⟩;obtain⟨q,ql⟩:=hl i ys H2 hi p;by_cases hlt:i<xs.length
 ·refine .inr ⟨⟨xs,xs[i],q,by simp[hlt]⟩,by omega,λys' σ' H'=>Pv (i+1) ys' H'/\∃v0,σ'=v0::cs,λys' σ' H' ⟨p',e⟩=>⟨xs.length-(i+1),by omega,rfl,hlt,p',e⟩,λx H' y=>?_⟩;obtain⟨e,y⟩:=y;subst e;exact hs i x ys H' (λys' H'=>Pv (i+1) ys' H'/\∃v0,some x::cs=v0::cs) (y xs q) p λ_ _ z=>⟨z,_,Z⟩
 ·have e:i=xs.length:=by omega
  subst e;exact .inl ⟨⟨xs,q,Ue _⟩,by omega,λp' H' g=>hd ys H2 p' H' p g⟩
theorem P8{lo:Int}{n:Nat}{cs:St}{tt:TT}{te:TE}{H:Hp}{Q:VK}(Pv:Nat->List V->Hp->Prop)(h0:Pv 0 [] H)(hl:∀i ys H,i<=n->Pv i ys H->ys.length<=i)(hz:n<=sizeLine)
 (hs:∀i ys H (N:List V->Hp->Prop),i<n->Pv i ys H->(∀ys' H',Pv (i+1) ys' H'->N ys' H')->tt (some (.int (lo+i))::cs) H λb H4=>if b=true then te (some (.int (lo+i))::cs) H4 λy H5=>N (ys++[y]) H5 else N ys H4)
 (hd:∀ys H p H',Pv n ys H->bi H p (.lst ys) H'->Q (.ref p) H') :
 iQ (iP lo n) H (List.replicate 1 none++cs) (bT 0) tt te Q:=by
 refine⟨λi m ys σ H=>m=n-i/\i<=n/\Pv i ys H/\∃v0,σ=v0::cs,⟨n,by simp,Ux _,h0,none,rfl⟩,?_⟩;rintro i m ys σ H2 ⟨rfl,hi,p,v0,rfl⟩;have ql:=hl i ys H2 hi p;by_cases hlt:i<n
 ·refine .inr ⟨hlt,by omega,λys' σ' H'=>Pv (i+1) ys' H'/\∃v0,σ'=v0::cs,λys' σ' H' ⟨p',e⟩=>⟨n-(i+1),by omega,rfl,hlt,p',e⟩,λx H' y=>?_⟩;obtain⟨e,y⟩:=y;subst e y;exact hs i ys H' (λys' H'=>Pv (i+1) ys' H'/\∃v0,some (V.int (lo+i))::cs=v0::cs) hlt p λ_ _ z=>⟨z,_,Z⟩
 ·have e:i=n:=by omega
  subst e;exact .inl ⟨Ue _,by omega,λp' H' g=>hd ys H2 p' H' p g⟩
def fY{α:Type}(xs:List α)(lo hi:Option Int):List α:=(xs.drop (HT.sIx xs.length 0 lo)).take (HT.sIx xs.length xs.length hi-HT.sIx xs.length 0 lo)
theorem P1{α β:Type}(f:α->β)(xs:List α)(lo hi:Option Int):fY (xs.map f) lo hi=(fY xs lo hi).map f:=by
 unfold fY;rw[Uc,List.map_take,List.map_drop]
theorem qM{α:Type}(xs:List α)(k:Nat):fY xs none (some (k:Int))=xs.take k:=by
 unfold fY HT.sIx;simp only [VS,Nat.sub_zero];have h:¬((k:Int)<0):=by omega
 rw[if_neg h,Vy,<- Wp,UJ]
theorem jL{α:Type}(xs:List α)(k:Nat):fY xs (some (k:Int)) none=xs.drop k:=by
 unfold fY HT.sIx;have h:¬((k:Int)<0):=by omega
 dsimp only;rw[if_neg h,Vy];by_cases hk:k<=xs.length
 ·rw[UT hk];exact UU (by simp)
 ·rw[Wq (by omega),VT,Wr,Vp (by omega)]
theorem wp{α:Type}(xs:List α)(k m:Nat):fY xs (some (k:Int)) (some ((k:Int)+(m:Int)))=(xs.drop k).take m:=by
 unfold fY HT.sIx;have h:¬((k:Int)<0):=by omega
 have h':¬((k:Int)+(m:Int)<0):=by omega
 have e:((k:Int)+(m:Int)).toNat=k+m:=by omega
 dsimp only;rw[if_neg h,if_neg h',Vy,e];by_cases hk:k<=xs.length
 ·rw[UT hk];by_cases hm:k+m<=xs.length
  ·rw[UT hm,Vo]
  ·rw[Wq (by omega),UU (by simp),UU (by simp;omega)]
 ·rw[Wq (by omega:xs.length<=k),VT,Wr,Vp (by omega),Wr]
theorem fz(ns:List Int)(lo hi:Option Int):dD (ns.map V.int) lo hi=(fY ns lo hi).map V.int:=P1 _ _ _ _
theorem qJ(ns ms:List Int):PyData.eqv (.list (ns.map PyData.int)) (.list (ms.map PyData.int))=decide (ns=ms):=by
 show PyData.eqvAll _ _=_;exact W.ked_eqvAll ns ms
theorem gS{K:W.Frag}{H:Hp}{a b:Addr}{ns ms:List Int}{neg:Bool}{Q:VK}(h1:aF K H a (ns.map V.int))(h2:aF K H b (ms.map V.int))(q:Q (.bl (if neg then !decide (ns=ms) else decide (ns=ms))) H) :
 nG K neg (.ref a) (.ref b) H Q:=by
 refine⟨_,_,bq.lst h1 (eG.ints ns),bq.lst h2 (eG.ints ms),W.ke_shaped_ints ns,W.ke_shaped_ints ms,?_⟩;rw[qJ];exact q
structure QE (X:Cx) (e:Expr) (t:TE):Prop where
 h:PE X e t
structure QT (X:Cx) (e:Expr) (t:TT):Prop where
 h:PT X e t
structure QW (X:Cx) (e:Expr) (t:TT):Prop where
 h:PW X e t
structure QA (X:Cx) (es:List Expr) (t:TA):Prop where
 h:PA X es t
structure QS (X:Cx) (st:Stmt) (t:TS):Prop where
 h:PS X st t
structure iO (X:Cx) (st:List Stmt) (t:TS):Prop where
 h:gn X st t
structure QG (X:Cx) (e:Expr) (t:TG):Prop where
 h:PG X e t
structure oq (X:Cx) (es:List Expr) (t:ip):Prop where
 h:ot X es t
structure QI (X:Cx) (tg e:Expr) (t:TI):Prop where
 h:PI X tg e t
structure QO (X:Cx) (e:Option Expr) (t:TO):Prop where
 h:PO X e t
structure sd (X:Cx) (es:List Expr) (t:TT):Prop where
 h:mK X es t
section
variable {X:Cx}{a b c e o:Expr}{es bH:List Expr}{pos p p2:Pos}{ta tb tc te to:TE}{tA tB' tt:TT}{t tk:TA}
theorem ae{i j pos}:QE X (.Constant (.int i) j pos) (tC (.int i)):=⟨pC⟩
theorem gz{b j pos}:QE X (.Constant (.bool b) j pos) (tC (.bl b)):=⟨Br⟩
theorem bL{j pos}:QE X (.Constant .none j pos) (tC .non):=⟨Bo⟩
theorem aU{x j pos}:QE X (.Constant (.str x) j pos) (tC (.str x)):=⟨Bn⟩
theorem aa(i:Nat){x:Str}(hN:X.N[i]? = some x:=by rfl)(hv:oj X.env.scope x:=by first|exact Or.inl rfl|exact Or.inr (Or.inl rfl)|exact Or.inr (Or.inr rfl))(hd:(x == ("__debug__" : Str))=false:=by decide)
 (hcd:(x == ("__classdict__" : Str))=false:=by decide):QE X (.Name x pos) (mV i):=⟨vv i hN hv hd hcd⟩
theorem cm{x:Str}{n:Int}{u:Tok}(hm:X.mg x=some (.int n u))(hg:Gl X x:=by rfl)(hd:(x == ("__debug__" : Str))=false:=by decide):QE X (.Name x pos) (tC (.int n)):=⟨gi hm hg hd⟩
theorem iB {x:Str} {v:V} {u:Value} (hg:Gl X x) (hm:X.mg x=some u) (r:aQ v u) (hd:(x == ("__debug__" : Str))=false:=by decide):QE X (.Name x pos) (tC v):=⟨Bq hg hm r hd⟩
theorem gP {x:Str} {T:String} (hg:Gl X x) (hm:X.mg x=none) (hv:bootBuiltins x=some (.type T)) (hn:x ≠ "__name__":=by decide) (hd:(x == ("__debug__" : Str))=false:=by decide):QE X (.Name x pos) (tC (.ty T)):=⟨QK hg hm hv hn hd⟩
theorem ck{j:Int}{k:Nat}(ha:QE X a ta)(hj:0<j/\j<1073741824:=by decide):QE X (.BinOp a .FloorDiv (.Constant (.int j) k p) pos) (BT j ta):=⟨L4 ha.h hj⟩
theorem bB{j:Int}{k:Nat}(ha:QE X a ta)(hj:0<j:=by decide):QE X (.BinOp a .Mod (.Constant (.int j) k p) pos) (pP j ta):=⟨LZ ha.h hj⟩
theorem aw{op:Operator}{r:R2}(ho:ba X (binaryOp op) r)(ha:QE X a ta)(hb:QE X b tb):QE X (.BinOp a op b pos) (fE r ta tb):=⟨J6 ho ha.h hb.h⟩
theorem tz(ha:QE X a ta):QE X (.UnaryOp .Not a pos) (BS ta):=⟨LY ha.h⟩
theorem gc(ha:QE X a ta)(hb:QE X (.BoolOp .And (b::bH) pos) tb):QE X (.BoolOp .And (a::b::bH) pos) (tS ta tb):=⟨L7 ha.h hb.h⟩
theorem pz(ha:QE X a ta)(hb:QE X (.BoolOp .Or (b::bH) pos) tb):QE X (.BoolOp .Or (a::b::bH) pos) (BR ta tb):=⟨LX ha.h hb.h⟩
theorem fS{op}(h:QE X a ta):QE X (.BoolOp op [a] pos) ta:=⟨J7 h.h⟩
theorem dJ{op:CmpOp}{r:R2}(ho:ba X (compareOp op) r)(ha:QE X a ta)(hb:QE X b tb)(hm:behindInMarks op b=false):QE X (.Compare a [op] [b] pos) (fE r ta tb):=⟨Kk ho ha.h hb.h hm⟩
theorem mj{op op':CmpOp}{r r':R2}(ho:ba X (compareOp op) r)(ho':ba X (compareOp op') r')(ha:QE X a ta)(hb:QE X b tb)(hc:QE X c tc)
 (hm:lastMarks [op,op'] [b,c]=false:=by with_unfolding_all rfl):QE X (.Compare a [op,op'] [b,c] pos) (pQ r r' ta tb tc):=⟨L6 ho ho' ha.h hb.h hc.h hm⟩
theorem hW(hc:QT X c tA)(ha:QE X a ta)(hb:QE X b tb):QE X (.IfExp c a b pos) (zS tA ta tb):=⟨Kb hc.h ha.h hb.h⟩
theorem bO(h:QW X e tt):QT X e tt:=⟨PW.pt h.h⟩
theorem gb(ha:QT X a tA):QW X (.BoolOp .And [a] pos) tA:=⟨Jk ha.h⟩
theorem db(ha:QT X a tA):QW X (.BoolOp .Or [a] pos) tA:=⟨Ji ha.h⟩
theorem fR(ha:QT X a tA)(hb:QW X (.BoolOp .And (b::bH) pos) tB'):QW X (.BoolOp .And (a::b::bH) pos) (Aa tA tB'):=⟨Jl ha.h hb.h⟩
theorem cU(ha:QT X a tA)(hb:QW X (.BoolOp .Or (b::bH) pos) tB'):QW X (.BoolOp .Or (a::b::bH) pos) (zM tA tB'):=⟨Jj ha.h hb.h⟩
theorem dN(ha:QT X a tA):QT X (.UnaryOp .Not a pos) (zN tA):=⟨Jp ha.h⟩
theorem au{op:CmpOp}{r:R2}(ho:ba X (compareOp op) r)(ha:QE X a ta)(hb:QE X b tb)(hm:behindInMarks op b=false):QT X (.Compare a [op] [b] pos) (mB (fE r ta tb)):=⟨Lg ho ha.h hb.h hm⟩
theorem pq{op op':CmpOp}{r r':R2}(ho:ba X (compareOp op) r)(ho':ba X (compareOp op') r')(ha:QE X a ta)(hb:QE X b tb)(hc:QE X c tc)
 (hm:lastMarks [op,op'] [b,c]=false:=by with_unfolding_all rfl):QT X (.Compare a [op,op'] [b,c] pos) (mB (pQ r r' ta tb tc)):=⟨Lh ho ho' ha.h hb.h hc.h hm⟩
theorem dw(h:QE X e te)(he:∀whole,isTrue e X.env whole=(do let v <- whole;standAt e.pos;holding [v] (truthy v)):=by intro _;rfl):QT X e (mB te):=⟨Lb h.h he⟩
theorem Jc(h:QE X e te)(he:∀whole,isTrue e X.env whole=(do let v <- whole;standAt e.pos;holding [v] (truthy v)):=by intro _;rfl):QT X e (tR X.K te):=⟨Lc h.h he⟩
theorem ad:QA X [] jm:=⟨Bu⟩
theorem ab(ha:QE X e te)(hr:QA X es t)(hs:cL e=false:=by rfl):QA X (e::es) (jU te t):=⟨Bw ha.h hr.h hs⟩
theorem iX{vs:List V}(h:q9 es=some vs):QA X es (sO vs):=⟨Bv h⟩
theorem aO(h:QA X es t):QE X (.List es pos) (ny t):=⟨L0 h.h⟩
theorem bN{x1}(h:QA X es t):QE X (.Tuple es x1 pos) (tQ t):=⟨LV h.h⟩
theorem Bg:QE X (.Dict [] [] pos) BU:=⟨L5⟩
theorem eS:QO X none zO:=⟨JO⟩
theorem cA(h:QE X e te):QO X (some e) (zK te):=⟨JN h.h⟩
theorem du{r:V->Option Int->Option Int->Hp->VK->Prop}{lo hi:Option Expr}{tl th:TO}(hr:jd X r)(he:QE X e te)(hl:QO X lo tl)(hu:QO X hi th):QE X (.Subscript e (.Slice lo hi none p2) pos) (zH r te tl th):=⟨J4 hr he.h hl.h hu.h⟩
theorem ax{r:R2}(hr:gq X r)(ha:QE X a ta)(hb:QE X b tb)(hs:D4 b):QE X (.Subscript a b pos) (fE r ta tb):=⟨Ka hr ha.h hb.h hs⟩
section
variable {k j:Nat}{f:Addr}{fd:FuncData}{ps:List Str}{sp:Sp}{x:Str}
theorem aP(F:bp X.prog X.w X.K X.mg X.base x j f fd ps sp)(hr:bW k X.A)(ha:QA X (e::es) t)(hj:j<=k:=by decide)(hg:Gl X x:=by rfl)
 (hdb:(x == ("__debug__" : Str))=false:=by decide) (hn:dY (e::es)=true:=by rfl):QE X (.Call (.Name x p) (e::es) [] pos) (mU sp [] E0 t):=⟨Ql F hr ha.h hj hg hdb hn⟩
theorem bh{id:String}{r:List V->Hp->VK->Prop}(hc:cw X (.builtin id) r)(hm:X.mg x=none)(hv:bootBuiltins x=some (.builtin id))(ha:QA X (e::es) t)(hg:Gl X x:=by rfl)(hx:x ≠ "__name__":=by decide)(hdb:(x == ("__debug__" : Str))=false:=by decide)
 (hn:dY (e::es)=true:=by rfl):QE X (.Call (.Name x p) (e::es) [] pos) (jV r t):=⟨Qk hc hm hv ha.h hg hx hdb hn⟩
theorem cv{T:String}{r:List V->Hp->VK->Prop}(hc:cw X (.type T) r)(hm:X.mg x=none)(hv:bootBuiltins x=some (.type T))(ha:QA X (e::es) t)(hg:Gl X x:=by rfl)(hx:x ≠ "__name__":=by decide)(hdb:(x == ("__debug__" : Str))=false:=by decide)
 (hn:dY (e::es)=true:=by rfl):QE X (.Call (.Name x p) (e::es) [] pos) (jV r t):=⟨Qj hc hm hv ha.h hg hx hdb hn⟩
end
section
variable {name:Str}{apos cpos:Pos}{T id:String}{r:V->List V->Hp->VK->Prop}
theorem Ja (pa:PlainAttrs T) (slot:Slot T name id) (hty:typeOf (.builtin id)=pure (.type "method_descriptor")) (hm:gp X id r) (ho:QE X o to)
 (hbase:attributeBase o name X.env (eval o X.env)=eval o X.env:=by rfl) (hline:(apos.endLine == cpos.line)=true:=by rfl):QE X (.Call (.Attribute o name apos) [] [] cpos) (sP X.K T r to):=⟨Ko pa slot hty hm ho.h hbase hline⟩
theorem BH{env:Env}{pos:Pos}:∀ {es:List Expr},dY es=true->(backTo pos (starEach es env)).all (λx=>!x.1)=true
 | [],_=>rfl
 | e::r,h=>by
  obtain⟨h1,h2⟩:=eV h;rw[bZ h1];show (!false && (backTo pos (starEach r env)).all (λx=>!x.1))=true;rw[BH h2]
  rfl
theorem Jb (pa:PlainAttrs T) (slot:Slot T name id) (hty:typeOf (.builtin id)=pure (.type "method_descriptor")) (hm:gp X id r) (ho:QE X o to) (ha:QA X (e::es) t)
 (hbase:attributeBase o name X.env (eval o X.env)=eval o X.env:=by rfl) (hn:dY (e::es)=true:=by rfl) (hf:decide ((e::es).length+0+0<30)=true:=by rfl)
 (hline:(apos.endLine == cpos.line)=true:=by rfl):QE X (.Call (.Attribute o name apos) (e::es) [] cpos) (sQ X.K T r to t) :=
 ⟨Kq pa slot hty hm ho.h ha.h hbase (by rw[BH hn];exact hf) hline (bZ (eV hn).1) (iC (eV hn).2)⟩
end
section
variable {st:Stmt}{sts ss2:List Stmt}{s t1 u1:TS}{tg it:Expr}{g:TG}{gs:ip}{wi:TI}
theorem aA:iO X [] gY:=⟨Jr⟩
theorem af(h1:QS X st t1)(h2:iO X sts u1):iO X (st::sts) (oJ t1 u1):=⟨Js h1.h h2.h⟩
theorem ag(h1:QS X st t1):iO X [st] t1:=⟨Jq h1.h⟩
theorem gN:QS X st zP:=⟨Jx⟩
theorem IT:QS X (.Break pos) zZ:=⟨JE⟩
theorem ap(he:QE X e te):QS X (.Return (some e) pos) (sN te):=⟨Jv he.h⟩
theorem df(he:QE X e te)(hs:swapsWith e none pos.line X.env=pure false:=by rfl):QS X (.Expr e pos) (zV te):=⟨JC he.h hs⟩
theorem av(hc:QT X c tA)(ha:iO X sts t1)(hb:iO X ss2 u1):QS X (.If c sts ss2 pos) (jT tA t1 u1):=⟨Jy hc.h ha.h hb.h⟩
theorem aG{i:Nat}{x:Str}{pos':Pos}(hN:X.N.Nodup)(hi:X.N[i]? = some x)(hx:jf X.env.scope x)(he:QE X e te)(hs:swapsWith e (some (.Name x pos')) pos.line X.env=pure false:=by rfl)(hf:X.fn x=true\/X.env.scope.names.lookup x=some .local:=by first|exact .inl rfl|exact .inr rfl|assumption) :
 QS X (.Assign [.Name x pos'] e pos) (jW te (bT i)):=⟨Ju hN hi hx he.h hs hf⟩
theorem jy(he:QE X e te)(hg:QG X tg g)(hs:swapsWithSole [tg] e pos.line X.env=pure false:=by rfl)(hw:swappedStores [tg] e X.env=pure none:=by rfl)
 (h1:(assignEach [tg] X.env).map (·.2)=[assign tg X.env]:=by rfl):QS X (.Assign [tg] e pos) (jW te g):=⟨JF he.h hg.h hs hw h1⟩
theorem aT{i:Nat}{x:Str}(hN:X.N.Nodup)(hi:X.N[i]? = some x)(hx:jf X.env.scope x)(hf:X.fn x=true\/X.env.scope.names.lookup x=some .local:=by first|exact .inl rfl|exact .inr rfl|assumption):QG X (.Name x pos) (bT i):=⟨J3 hN hi hx hf⟩
theorem fh:oq X [] qm:=⟨J0⟩
theorem bI(h1:QG X e g)(h2:oq X es gs)(hs:(assignEach (e::es) X.env).map (·.2)=assign e X.env::(assignEach es X.env).map (·.2):=by rfl):oq X (e::es) (jF g gs):=⟨J1 h1.h h2.h hs⟩
theorem I0{k n:Nat}(hc:X.calm=true)(h:oq X es gs)(hn:(assignEach es X.env).length=n:=by rfl)(hst:(assignEach es X.env).findIdx? (·.1)=none:=by rfl):QG X (.Tuple es k pos) (nE X.K n gs):=⟨J2 hc h.h hn hst⟩
theorem IZ{l:Expr}{tl:TE}(hl:QE X l tl):QI X tg l (t0 X.K tl):=⟨JY hl.h⟩
theorem IW{l:Expr}{tl:TE}(hl:QE X l tl):QI X tg l (tZ X.K tl):=⟨JT hl.h⟩
theorem mi (hg:Gl X "range") (hm:X.mg "range" = none) (ha:QA X [a] t) (hs:cL a=false:=by rfl):QI X tg (.Call (.Name "range" p) [a] [] pos) (Ci t):=⟨JX hg hm ha.h (bZ hs)⟩
theorem Be (hg:Gl X "range") (hm:X.mg "range" = none) (ha:QA X [a,b] t) (hs:cL a=false:=by rfl) (hs2:cL b=false:=by rfl):QI X tg (.Call (.Name "range" p) [a,b] [] pos) (Ch t) :=
 ⟨JW hg hm ha.h (by rw[bZ hs,bZ hs2];rfl) (bZ hs2)⟩
theorem dt{body:List Stmt}{tb1:TS}(hp:PassesOwn (model X.prog X.w) X.A X.env X.xe)(hc:X.calm=true)(hi:QI X tg it wi)(hg:QG X tg g)(hb:iO X body tb1)
 (hs:∀x,foldedSetIterable it X.env x=pure x:=by intro _;rfl):QS X (.For tg it body [] pos) (zT wi g tb1):=⟨Jz hp hc hi.h hg.h hb.h hs⟩
theorem fg:sd X [] gy:=⟨Jo⟩
theorem IS(h:QT X c tA):sd X [c] tA:=⟨Jn h.h⟩
theorem fT{scope:Scope}{Nc:List Str}{nv:Nat}{caps:List Nat}{ifs:List Expr}(hc:X.calm=true)(S:cZ X Nc nv caps scope)(hi:QI X tg it wi)
 (hg:∀C s H fp,QG (di X Nc scope C s H fp) tg g) (ht:∀C s H fp,sd (di X Nc scope C s H fp) ifs tt) (he:∀C s H fp,QE (di X Nc scope C s H fp) e te)
 (hs:∀x,foldedSetIterable it X.env x=pure x:=by intro _;rfl):QE X (.ListComp e [⟨tg,it,ifs,0⟩] scope pos) (oK nv caps wi g tt te) :=
 ⟨Kj hc S hi.h (λC s H fp=>(hg C s H fp).h) (λC s H fp=>(ht C s H fp).h) (λC s H fp=>(he C s H fp).h) hs⟩
theorem tu{scope:Scope}{Nc:List Str}{nv:Nat}{caps:List Nat}{ifs:List Expr}{spos py:Pos}{i:Nat}{y:Str}(hN:X.N.Nodup)(hy:X.N[i]? = some y)(hx:jf X.env.scope y)(hc:X.calm=true)(S:cZ X Nc nv caps scope)(hi:QI X tg it wi)
 (hg:∀C s H fp,QG (di X Nc scope C s H fp) tg g) (ht:∀C s H fp,sd (di X Nc scope C s H fp) ifs tt) (he:∀C s H fp,QE (di X Nc scope C s H fp) e te)
 (hsw:swapsWith (.ListComp e [⟨tg,it,ifs,0⟩] scope pos) (some (.Name y py)) spos.line X.env=pure true:=by rfl)
 (hs:∀x,foldedSetIterable it X.env x=pure x:=by intro _;rfl) (hf:X.fn y=true\/X.env.scope.names.lookup y=some .local:=by first|exact .inl rfl|exact .inr rfl|assumption) :
 QS X (.Assign [.Name y py] (.ListComp e [⟨tg,it,ifs,0⟩] scope pos) spos) (jW (oK nv caps wi g tt te) (bT i)) :=
 ⟨Jt hN hy hx hc S hi.h (λC s H fp=>(hg C s H fp).h) (λC s H fp=>(ht C s H fp).h) (λC s H fp=>(he C s H fp).h) hsw hs hf⟩
end
end
section
variable {X:Cx}{K:W.Frag}{a b c e o:Expr}{es bH:List Expr}{pos p p2:Pos}{ta tb tc te to:TE}{tA tB' tt:TT}{t tk:TA}
theorem ay(h:X.K=K):gq X (fM K):=by subst h;exact OU
theorem dR(h:X.K=K):jd X (C1 K):=by subst h;exact OH
theorem bf(h:X.K=K):ba X (binaryOp .Add) (uD K):=by subst h;exact Pe
theorem aX(h:X.K=K)(hu:X.A.units+64<cLine):ba X (compareOp .Eq) (nG K false):=by subst h;exact O6 hu
theorem ie(h:X.K=K)(hu:X.A.units+64<cLine):ba X (compareOp .NotEq) (nG K true):=by subst h;exact OP hu
theorem jE(h:X.K=K):ba X (compareOp .In) (qp K false):=by subst h;exact O4
theorem uo(h:X.K=K):ba X (compareOp .NotIn) (qp K true):=by subst h;exact OO
theorem bz (h:X.K=K):cw X (.builtin "len") (uw K):=by subst h;exact Qq
theorem fN (h:X.K=K):cw X (.type "list") (uv K):=by subst h;exact Qp
theorem xA (h:X.K=K):cw X (.type "tuple") (ur K):=by subst h;exact Qm
theorem rE (h:X.K=K) (hc:X.calm=true):cw X (.builtin "all") (mC K false):=by subst h;exact Qu hc
theorem Qs (h:X.K=K) (hc:X.calm=true):cw X (.builtin "any") (mC K true):=by subst h;exact Qt hc
theorem gU (h:X.K=K):cw X (.builtin "isinstance") (uA K):=by subst h;exact Qr
theorem BP (h:X.K=K):gp X "list.extend" (uC K):=by subst h;exact LT
theorem gO(h:X.K=K)(q:QE X e te)(he:∀whole,isTrue e X.env whole=(do let v <- whole;standAt e.pos;holding [v] (truthy v)):=by intro _;rfl):QT X e (tR K te):=by subst h;exact Jc q he
theorem dI{tg l:Expr}{tl:TE}(h:X.K=K)(hl:QE X l tl):QI X tg l (t0 K tl):=by subst h;exact IZ hl
theorem IV{tg l:Expr}{tl:TE}(h:X.K=K)(hl:QE X l tl):QI X tg l (tZ K tl):=by subst h;exact IW hl
theorem fi{k n:Nat}{gs:ip}(h:X.K=K)(hc:X.calm=true)(q:oq X es gs)(hn:(assignEach es X.env).length=n:=by rfl)(hst:(assignEach es X.env).findIdx? (·.1)=none:=by rfl):QG X (.Tuple es k pos) (nE K n gs):=by subst h;exact I0 hc q hn hst
theorem d7 {name:Str} {apos cpos:Pos} {T id:String} {r:V->List V->Hp->VK->Prop} (h:X.K=K) (pa:PlainAttrs T) (slot:Slot T name id) (hty:typeOf (.builtin id)=pure (.type "method_descriptor")) (hm:gp X id r) (ho:QE X o to) (ha:QA X (e::es) t)
 (hbase:attributeBase o name X.env (eval o X.env)=eval o X.env:=by rfl) (hn:dY (e::es)=true:=by rfl) (hf:decide ((e::es).length+0+0<30)=true:=by rfl)
 (hline:(apos.endLine == cpos.line)=true:=by rfl):QE X (.Call (.Attribute o name apos) (e::es) [] cpos) (sQ K T r to t):=by subst h;exact Jb pa slot hty hm ho ha hbase hn hf hline
theorem ph {name:Str} {apos cpos:Pos} {T id:String} {r:V->List V->Hp->VK->Prop} (h:X.K=K) (pa:PlainAttrs T) (slot:Slot T name id) (hty:typeOf (.builtin id)=pure (.type "method_descriptor")) (hm:gp X id r) (ho:QE X o to)
 (hbase:attributeBase o name X.env (eval o X.env)=eval o X.env:=by rfl) (hline:(apos.endLine == cpos.line)=true:=by rfl):QE X (.Call (.Attribute o name apos) [] [] cpos) (sP K T r to):=by subst h;exact Ja pa slot hty hm ho hbase hline
end
theorem aS.okQ{P:Program}{w:World}{K:W.Frag}{mg:Str->Option Value}{base:Heap}{x qual:Str}{st:Stmt}{f:Addr}{fd:FuncData}{N ps:List Str}{k:Nat}{sp:Sp}(F:aS K x qual st f fd)(S:aM N ps (ak st))(len:∀vs H Q E,sp vs H Q E->vs.length=ps.length)
 (hbody:∀(cdv:Value) (A:Around) (outer:List Env) (s:Shared) (H:Hp) (vs:List V) (Q:VK) (E:XK),bW k (A.deeper (envOfC qual (ak st) s.heap.objs.size f cdv))->sp vs H Q E ->
   ∃t,iO (ja bR P w K mg base N qual (ak st) f cdv A outer s H E).nox (aH st) t/\t { nx:=λ_ H'=>Q .non H',rt:=Q } (gZ N vs) H):bA P w K mg base bR (k+1) f fd ps sp :=
 F.ok S len λcdv A outer s H vs Q E hr h=>let ⟨t,q,r⟩:=hbody cdv A outer s H vs Q E hr h;⟨t,q.h,r⟩
section
variable {X:Cx}{pins:List (Addr × Obj)}{σ:St}{H:Hp}{s:Shared}{h':Heap}
theorem ai.turnedL{t':Nat}{fp:List Addr}(I:ai X pins σ H s)(k:∀b o,b∉fp->s.heap.get? b=some o->h'.get? b=some o)(hf:∀b∈fp,gu X pins H b):ai X pins σ H { s with heap:=h',toks:=t' }:=by
 have nit:∀b u,H b=some u->b∉fp:=λb u e z=>by rw[(hf b z).1]at e;cases e
 refine I.step (g':=s.gens) (d':=s.drawn) (ch:=fp) (λb hb=>?_) (λb o _ _ hc e _=>k b o hc e) (λb o _ _ hc e _=>⟨o.slots,k b o hc e⟩) (λ_ _ _ _ n=>n) (λb o hc e=>⟨o,k b o hc e⟩) (λ_ _ e=>e) (λ_ _ _ e=>e) (λb ps e=>⟨#[],by rw[e];simp⟩) (λm hm=>?_) (λb u e=>?_) I.bare
 ·obtain⟨f0,f1,f2,f3,f4,f5⟩:=hf b hb;exact⟨f3,f1,f4,f5⟩
 ·obtain⟨o,es,ep,ho,r⟩:=hm;exact⟨o,es,ep,k _ o (λz=>(hf _ z).2.1 Z) ho,r⟩
 ·refine (I.hok b u e).stay (λc v hc q=>k c v ?_ q) (λ_ q=>q) λ_ _ q=>q;rcases hc with z|z
  ·rw[z];exact nit b u e
  ·exact nit c _ z
theorem ai.turnedN{t':Nat}{fp:List Addr}{T:Addr}{ob:HO}(I:ai X pins σ H s)(k:∀b o,b∉fp->s.heap.get? b=some o->h'.get? b=some o)(hf:∀b∈fp,gu X pins H b)(hT:s.heap.objs.size<=T)
 (new:cg X.prog X.w (upd H T ob) h' T ob):ai X pins σ (upd H T ob) { s with heap:=h',toks:=t' }:=by
 have I1:ai X pins σ H { s with heap:=h',toks:=t' }:=I.turnedL k hf;have hn:H T=none:=I.hok.fresh hT;have ne:∀b u,H b=some u->b≠T:=λb u e z=>by rw[z,hn]at e;cases e
 refine I.step (g':=s.gens) (d':=s.drawn) (ch:=fp) (λb hb=>?_) (λb o _ _ hc e _=>k b o hc e) (λb o _ _ hc e _=>⟨o.slots,k b o hc e⟩) (λb o _ e n=>?_) (λb o hc e=>⟨o,k b o hc e⟩) (λb xs e=>by rw[az (ne b _ e)];exact e) (λb o u e=>by rw[az (ne b _ e)];exact e) (λb ps e=>⟨#[],by rw[az (ne b _ e),e];simp⟩) (λm hm=>?_) (I1.hok.adopt hn new) I.bare
 ·obtain⟨f0,f1,f2,f3,f4,f5⟩:=hf b hb;exact⟨f3,f1,f4,f5⟩
 ·rw[az (λz=>absurd (Uh (Uf e) (by rw[z];exact hT)) (UW _))];exact n
 ·obtain⟨o,es,ep,ho,r⟩:=hm;exact⟨o,es,ep,k _ o (λz=>(hf _ z).2.1 Z) ho,r⟩
end
def mL(K:W.Frag)(a:Addr):It :=
 ⟨λi H=>∃xs x,aF K H a xs/\xs[i]? = some x,λi H x H'=>∃p v,x=.ref p/\(∀xs,aF K H a xs->xs[i]? = some v)/\bi H p (.tup [.int (i:Int),v]) H',λi H=>∃xs,aF K H a xs/\xs.length<=i⟩
theorem Bt{P:Program}{w:World}{H:Hp}{h:Heap}{T:Addr}{v1 v2:V}{u1 u2:Value}(hT:h.IsTuple T #[u1,u2])(r1:aQ v1 u1)(r2:aQ v2 u2):cg P w (upd H T (.tup [v1,v2])) h T (.tup [v1,v2]):=by
 refine⟨sz Z,[u1,u2],.cons r1 (.cons r2 .nil),?_⟩;exact hT
theorem FS{P:Program}{w:World}{K:W.Frag}{es:List Expr}{kk:Nat}{pp:Pos}(a e it:Addr)(hei:e≠it):jc P w K (.Tuple es kk pp) (mL K a) [e,it] e (λi h=>(∃old,IsEnum h e it i old)/\h.IsListIter it a i) where
 mem:=by simp
 obj:=λi h st b hb=>by
  obtain⟨⟨old,h1⟩,o,e2,c,d⟩:=st;have hb':b=e\/b=it:=by simpa using hb
  rcases hb' with z|z
  ·subst z;exact⟨_,h1,λv z=>by cases (show Data.fields _=Data.cell v from z)⟩
  ·subst z;exact⟨o,e2,λv z=>by rw[d]at z;cases z⟩
 keep:=λi h h' st k=>by
  obtain⟨⟨old,h1⟩,h2⟩:=st
  exact⟨⟨old,k e (by simp) _ h1⟩,h2.at λo x=>k it (by simp) o x⟩
 item:=by
  intro X hP hw hK hc i pins s σ H E I hf st hg;subst hP hw hK;obtain⟨⟨old,h1⟩,h2⟩:=st;obtain⟨xs,x,hq,hx⟩:=hg;obtain⟨its,rv,p,hz⟩:=I.list hq;obtain⟨u,hu,ru⟩:=rv.get hx;have helt:e<s.heap.objs.size:=Uf h1;have hilt:it<s.heap.objs.size:=by obtain⟨_,z,_⟩:=h2;exact Uf z
  refine wpAny_pyNext_enum_item h1 h2 p.isList (x:=u) (by simpa using hu) hei λh' ho hit' hT hsz hk=>?_;refine⟨_,rfl,wpAny_letOwnedTupleGo_enum (s:={ s with heap:=h',toks:=s.toks+1 }) ho λh'' he' hs'=>?_⟩;have hTe:s.heap.objs.size≠e:=U4 helt;have hT2:h''.get? s.heap.objs.size=some { cls:=.type "tuple",data:=.seq #[.int i s.toks,u] }:=(hs'.2 _ hTe).trans hT;have I2:ai X pins σ (upd H s.heap.objs.size (.tup [.int (i:Int),x])) { s with heap:=h'',toks:=s.toks+1 }:=by
   refine I.turnedN (fp:=[e,it]) (λb o hb eo=>?_) hf (Ue _) (Bt ⟨_,hT2,Z,_,Z⟩ ⟨_,Z⟩ ru);have hbe:b≠e:=λz=>hb (by simp[z]);have hbi:b≠it:=λz=>hb (by simp[z]);exact (hs'.2 b hbe).trans (hk b o hbe hbi eo)
  refine⟨.ref s.heap.objs.size,_,I2,rfl,⟨_,x,rfl,λys hy=>by rw[I.list_inj hy hq];exact hx,.mk' I.fresh⟩,⟨⟨_,by simpa using he'⟩,hit'.at λo y=>(hs'.2 it hei.symm).trans y⟩,λb hb=>?_⟩;have hb':b=e\/b=it:=by simpa using hb
  rw[az (by rcases hb' with z|z<;>(rw[z];first|exact Uo helt|exact Uo hilt))];exact (hf b hb).1
 done:=by
  intro X hP hw hK hc i pins s σ H E I hf st hg;subst hP hw hK;obtain⟨⟨old,h1⟩,h2⟩:=st;obtain⟨xs,hq,hx⟩:=hg;obtain⟨its,rv,p,hz⟩:=I.list hq;have hl:=rv.length;refine wpAny_pyNext_enum_end (I.ok.hd hc) h1 h2 p.isList (by simp;omega) λh' eb=>⟨rfl,I.turnedL (t':=s.toks) (fp:=[e,it]) (λb o hb eo=>eb b o (λz=>hb (by simp[z])) eo) hf⟩
 self:=λ_ _ _ _ _ st h=>wpAny_pyIter_enum st.1.choose_spec h
def Cj(K:W.Frag)(ta:TA):TI:=λσ H R=>ta σ H λvs H1=>∃a xs,vs=[.ref a]/\aF K H1 a xs/\R (mL K a) H1
section
variable {X:Cx}{tg:Expr}{es:List Expr}{kk:Nat}{pp:Pos}
theorem JZ {a:Expr} {ta:TA} {p pos:Pos} (hg:Gl X "enumerate") (hm:X.mg "enumerate" = none) (ha:PA X [a] ta) (hs:starEach [a] X.env=[(false,eval a X.env)]:=by rfl):PI X (.Tuple es kk pp) (.Call (.Name "enumerate" p) [a] [] pos) (Cj X.K ta):=by
 intro pins s σ H R I h;refine Call_ (fW I hg hm boot_enumerate (UX (aD (ha pos pins s σ H _ I h) λus s1 ⟨vs,H1,I1,r1,q1⟩=>?_) hs Z));obtain⟨l,xs,e,hq,q⟩:=q1;subst e;cases r1 with
 | cons r rr =>
  cases rr;cases r;obtain⟨its,rv,pl,hz⟩:=I1.list hq;refine call_enumerate_list pl.isList λh' he hit hsz hk=>?_;refine wpAny_pyIter_enum (s:={ s1 with heap:=h' }) he ?_;have I2:ai X pins σ H1 { s1 with heap:=h' }:=I1.kept (t':=s1.toks) hk;refine⟨s1.heap.objs.size+1,[s1.heap.objs.size+1,s1.heap.objs.size],_,mL X.K l,H1,Z,I2,FS l _ _ (Nat.succ_ne_self _),⟨⟨_,he⟩,hit⟩,λb hb=>?_,q⟩;have hb':b=s1.heap.objs.size+1\/b=s1.heap.objs.size:=by simpa using hb
  have hle:s1.heap.objs.size<=b:=by
   rcases hb' with z|z
   ·rw[z];exact Vh _
   ·rw[z];exact Ue _
  exact I1.fpOk hle (I1.hok.fresh hle)
end
theorem Io:typeLookup (.type "list_reverseiterator") "__len__" = pure none:=by rw[typeLookup_type,builtinLookup_eq_fast];kernel_rfl
theorem Ip:typeLookup (.type "list_reverseiterator") "__length_hint__" = pure (some (.builtin "list_reverseiterator.__length_hint__")):=by rw[typeLookup_type,builtinLookup_eq_fast];kernel_rfl
section
variable {prog:Program}{w:World}{A:Around}{E:Value->Shared->Prop}{s:Shared}{r:Addr}
theorem Iq {Q:Bool->Shared->Prop} (hT:s.TypeIs (.ref r) "list_reverseiterator") (h:Q false s):wpAny (model prog w) A (Builtin.List.listLengthHint (.ref r)) Q E s:=by
 unfold Builtin.List.listLengthHint;refine wpAny_bind (wpAny_specialOf hT Io ?_);show wpAny _ A (specialOf (Value.ref r) (Str.ofString "__length_hint__") >>= _) _ _ _;refine wpAny_bind (wpAny_specialOf hT Ip ?_);generalize hid:("list_reverseiterator.__length_hint__" : String)=id0
 wp_delta
 rw[show splitId id0=some ("list_reverseiterator", "__length_hint__") from by subst hid;decide +kernel];subst hid;refine wpAny_bind (wpAny_isInstance (T := "list_reverseiterator") (b:=true) hT (by rw[isSubtype_type];kernel_rfl) ?_);refine wpAny_ite_split (λhab=>absurd hab (by decide)) (λ_=>?_);refine wpAny_ite_split (λ_=>?_) (λhab=>absurd (by decide +kernel) hab);refine wpAny_ite_split (λhab=>absurd hab (by decide +kernel)) (λ_=>?_);exact wpAny_pure h
theorem Ir{R:Result->Shared->Prop}{l:Addr}{items:Array Value}(hh:A.handled=none)(S:Addr)(res:Value)(c₀:Nat)(hne:l≠r)(hSr:S≠r)(hSl:S≠l)(hit:s.heap.IsRevIter r l ((items.size:Int)-1))(hl:s.heap.IsList l items)
 (hS:s.heap.get? S=some { cls:=.type "list",data:=.seq #[] c₀ })
 (hR:∀h' tk acc' c',(∀b o,b≠S->b≠r->s.heap.get? b=some o->h'.get? b=some o)->h'.get? S=some { cls:=.type "list",dict:=none,data:=.seq acc' c',slots:=#[] }->ItemsOf (λi v=>items[items.size-1-i]? = some v) acc' items.size->R (.ok (.ret res)) { s with heap:=h',toks:=tk }) (hn:items.size<=sizeLine) :
 wpAny (model prog w) A.in1 (Builtin.List.listExtendWith (.ref S) (.ref r) res)
  (λfin s'=>match fin with|.done f=>R (.ok f) s'|.again c'=>c'.quiet=true/\codeAny (model prog w) A c' R s') (λe s'=>R (.error e) s') s:=by
 have W:=(Walks.listRev (prog:=prog) (w:=w) (A:=A.in1) hh r l hne items);have hSf:S∉[r,l]:=by simp[hSr,hSl]
 unfold Builtin.List.listExtendWith;refine wpAny_bind (wpAny_typeOf (T := "list_reverseiterator") hit.typeIs ?_);have h1:Builtin.List.listSameRef (.ref S) (.ref r)=false:=by simp[Builtin.List.listSameRef,hSr]
 have h2:(Value.type "list_reverseiterator" == Value.type "list")=false:=by decide
 have h3:(Value.type "list_reverseiterator" == Value.type "tuple")=false:=by decide
 simp only [h1,h2,h3,Bool.or_false,US,if_false];refine wpAny_bind (wpAny_pyIter_revIter hit ?_);refine wpAny_bind (wpAny_holding (Iq hit.typeIs ?_));refine wpAny_ite_split (λhab=>absurd hab (by decide +kernel)) (λ_=>wpAny_pure ⟨plainId_quiet PySem.F.plain_extend_loop _,?_⟩);refine codeAny_extend_loopS W.toS hn S hSf res items.size 0 _ #[] c₀ rfl (Ux _) ⟨Ux _,by simpa using hit,hl⟩ hS (ItemsOf.nil _) λs' acc' c' hm hS' hacc=>?_;rw[Moved.eq_with hm];refine hR s'.heap s'.toks acc' c' (λb o hb hbr e=>hm.heap b o (λhmem=>?_) e) hS' hacc;rcases Uy.mp hmem with e'|hmem
 ·exact hb e'
 ·exact hbr (Uq.mp hmem)
theorem Iu{l:Addr}{items:Array Value}{Q:Value->Shared->Prop}(hh:A.handled=none)(hne:l≠r)(hit:s.heap.IsRevIter r l ((items.size:Int)-1))(hl:s.heap.IsList l items)(hn:items.size<=sizeLine)
 (hQ:∀h' tk acc' c',(∀b o,b≠r->s.heap.get? b=some o->h'.get? b=some o)->h'.get? s.heap.objs.size=some { cls:=.type "list",dict:=none,data:=.seq acc' c',slots:=#[] }->ItemsOf (λi v=>items[items.size-1-i]? = some v) acc' items.size->Q (.ref s.heap.objs.size) { s with heap:=h',toks:=tk }) :
 wpAny (model prog w) A (call (.type "list") [.ref r]) Q E s:=by
 refine callType_codes (Q₁:=λobj s₁=>obj=.ref s.heap.objs.size/\s₁ = { s with heap:=s.heap.push { cls:=.type "list",data:=.seq #[] } }) PySem.F.called_list (PySem.F.typeCall_list_1 _) PySem.F.entry_list_init
  (code_list_new _ ⟨rfl,rfl⟩) λobj s₁ h₁=>?_
 obtain⟨rfl,rfl⟩:=h₁;have hS:(s.heap.push { cls:=.type "list",data:=.seq #[] }).get? s.heap.objs.size=some { cls:=.type "list",data:=.seq #[] }:=UG _ rfl;have lr:r<s.heap.objs.size:=by obtain⟨o,e,_⟩:=hit;exact Uf e
 have ll:l<s.heap.objs.size:=by obtain⟨o,e,_⟩:=hl;exact Uf e
 refine⟨⟨_,hS,Z⟩,PySem.F.args_list_init_2 _ _,?_⟩;show wpAny _ _ (do let old <- Builtin.List.listItems (.ref s.heap.objs.size);Builtin.List.listUpdate (.ref s.heap.objs.size) (λ_=>#[]);letGo old.toList.reverse;Builtin.List.listExtendWith (.ref s.heap.objs.size) (.ref r) .none) _ _ _;refine wpAny_bind ?_;unfold Builtin.List.listItems;refine wpAny_bind (wpAny_seqItems hS Z (wpAny_pure ?_));show wpAny _ _ (updateSeq s.heap.objs.size (λ_=>#[]) >>= λ_=>letGo (#[]:Array Value).toList.reverse >>= λ_=>Builtin.List.listExtendWith (.ref s.heap.objs.size) (.ref r) .none) _ _ _;refine wpAny_bind (wpAny_updateSeq hS Z ?_);have hS₂:=Heap.get?_update_self (Obj.mapSeq (λ_=>(#[]:Array Value))) hS rfl;have oth:∀b o,b≠s.heap.objs.size->s.heap.get? b=some o->((s.heap.push { cls:=.type "list",data:=.seq #[] }).update s.heap.objs.size (Obj.mapSeq (λ_=>(#[]:Array Value)))).get? b=some o :=
  λb o hb e=>(Wk _ _ (Ne.symm hb)).trans (Uj _ e)
 refine wpAny_bind (wpAny_letGo ?_);refine Ir (A:=A.in1) hh _ .none _ hne (U4 lr) (U4 ll) (hit.at λo e=>oth r o (Uo lr) e) (hl.at λo e=>oth l o (Uo ll) e) hS₂ (λh' tk acc' c' hk hS' hacc=>?_) hn;exact⟨rfl,hQ h' tk acc' c' (λb o hb e=>hk b o (Uo (Uf e)) hb (oth b o (Uo (Uf e)) e)) hS' hacc⟩
end
def zJ(K:W.Frag)(ta:TA):TE:=λσ H Q=>ta σ H λvs H1=>∃a xs,vs=[.ref a]/\aF K H1 a xs/\∀p H',bi H1 p (.lst xs.reverse) H'->Q (.ref p) H'
theorem LW {X:Cx} {a:Expr} {ta:TA} {p1 p2 pos pos2:Pos} (hc:X.calm=true) (hg1:Gl X "list") (hm1:X.mg "list" = none) (hg2:Gl X "reversed") (hm2:X.mg "reversed" = none) (ha:PA X [a] ta) (hs:starEach [a] X.env=[(false,eval a X.env)]:=by rfl)
 (hs1:starEach [.Call (.Name "reversed" p2) [a] [] pos2] X.env=[(false,eval (.Call (.Name "reversed" p2) [a] [] pos2) X.env)]:=by rfl):PE X (.Call (.Name "list" p1) [.Call (.Name "reversed" p2) [a] [] pos2] [] pos) (zJ X.K ta):=by
 intro pins s σ H Q I h;refine Call_ (fW I hg1 hm1 boot_list (UX ?_ hs1 Z));rw[hs1];refine Calls.spliced_cons (Call_ (fW I hg2 hm2 boot_reversed (UX (aD (ha pos2 pins s σ H _ I h) λus s1 ⟨vs,H1,I1,r1,q1⟩=>?_) hs Z)));obtain⟨l,xs,e,hq,q⟩:=q1;subst e;cases r1 with
 | cons r rr =>
  cases rr;cases r;obtain⟨its,rv,pl,hz⟩:=I1.list hq;have hlen:=rv.length;refine call_reversed_list pl.isList (Calls.spliced_nil ?_);have ll:l<s1.heap.objs.size:=by obtain⟨o,_,e,_⟩:=pl;exact Uf e
  have I2:ai X pins σ H1 { s1 with heap:=s1.heap.push (revObj l ((its.toArray.size:Int)-1)) }:=I1.kept (t':=s1.toks) λb o e=>Uj _ e;refine Iu (s:={ s1 with heap:=s1.heap.push (revObj l ((its.toArray.size:Int)-1)) }) (items:=its.toArray) (I.ok.hd hc) (Uo ll) ⟨_,UG _ rfl,rfl,rfl⟩ (pl.isList.at λo e=>Uj _ e) (by rw[Um,<- hlen];exact hz) λh' tk acc' c' hk hS hacc=>?_;have hacc2:acc'.toList=its.reverse:=by
   refine List.ext_getElem? λi=>?_;have hn:acc'.size=its.length:=hacc.1.trans Um;have hi:∀i v,acc'[i]? = some v->its.toArray[its.length-1-i]? = some v:=λi v e=>by
    have z:=hacc.2 i v e
    rwa [Um]at z
   by_cases hlt:i<its.length
   ·have hia:i<acc'.size:=by omega
    have e1:=hi i acc'[i] (Ws hia);rw[WY hlt,VP,Ws hia,<- e1];simp
   ·rw[U7 (by rw[UF];omega),U7 (by rw[VQ];omega)]
  have rr:aL xs.reverse its.reverse:=rv.reverse;refine⟨.ref _,_,?_,Z,q _ _ (.mk' I2.fresh)⟩;refine I1.turnedN (s:=s1) (fp:=[s1.heap.objs.size]) (t':=tk) (λb o hb e=>hk b o (λz=>hb (by simp[z])) (Uj _ e)) (λb hb=>?_) ?_ ⟨by rw[VQ];exact hz,its.reverse,c',rr,?_⟩
  ·have e:b=s1.heap.objs.size:=by simpa using hb
   subst e;exact I1.fpOk (Ue _) I1.fresh
  ·exact UE (Vh _) (Vt (Vg _ _).symm)
  ·have e:acc'=its.reverse.toArray:=by rw[<- hacc2]
   rw[<- e];exact hS
def jg(lo c:Int)(n:Nat):It:=⟨λi _=>i<n,λi H x H'=>H'=H/\x=.int (lo+i*c),λi _=>n<=i⟩
theorem zA{P:Program}{w:World}{K:W.Frag}{tg:Expr}(it:Addr)(lo c:Int)(n:Nat):jc P w K tg (jg lo c n) [it] it (λi h=>IsRangeIter h it (lo+(i:Nat)*c) ((n:Int)-(i:Nat)) c) where
 mem:=by simp
 obj:=λi h st b hb=>by
  have e:b=it:=by simpa using hb
  subst e;exact⟨_,st,λv z=>by
   have z':Data.fields _=Data.cell v:=z;cases z'⟩
 keep:=λi h h' st k=>k it (by simp) _ st
 item:=by
  intro X hP hw hK hc i pins s σ H E I hf st hg;subst hP hw hK;obtain⟨f0,f1,f2,f3,f4,f5⟩:=hf it (by simp);have W:=Walks.range (prog:=X.prog) (w:=X.w) (I.ok.hd hc) it lo c n;refine W.item i s _ _ hg st λv h' tk hv st' kk=>?_;obtain⟨t,rfl⟩:=hv;have I1:ai X pins σ H { s with heap:=h',toks:=tk }:=I.turned (λb o hb e=>kk b o (by simpa using hb) e) f0 f1 f3 f4 f5;exact⟨_,rfl,qh (s:={ s with heap:=h',toks:=tk }) (n := "range_iterator") st' rfl rfl (by decide) ⟨.int (lo+i*c),H,I1,⟨t,rfl⟩,⟨rfl,rfl⟩,st',λb hb=>(hf b hb).1⟩⟩
 done:=by
  intro X hP hw hK hc i pins s σ H E I hf st hg;subst hP hw hK;obtain⟨f0,f1,f2,f3,f4,f5⟩:=hf it (by simp);exact wpAny_pyNext_range_end (I.ok.hd hc) st (by have:n<=i:=hg;omega) λh' eb=>⟨rfl,I.turned (t':=s.toks) (λb o hb e=>eb b o hb e) f0 f1 f3 f4 f5⟩
 self:=λ_ _ _ _ _ st h=>wpAny_pyIter_rangeiter st h
def Cg(ta:TA):TI:=λσ H R=>ta σ H λvs H1=>∃(n c:Nat),vs=[.int 0,.int (n:Int),.int (c:Int)]/\n<=1000000000/\0<c/\c<=1000000/\R (jg 0 (c:Int) ((n+(c-1))/c)) H1
theorem G7{n c:Nat}(hn:n<=1000000000)(h0:0<c)(hc:c<=1000000):Builtin.Range.rangeSize 0 (n:Int) (c:Int)=(((n+(c-1))/c:Nat):Int)/\Builtin.Range.small 0 (n:Int) (c:Int)=true:=by
 have e:Builtin.Range.rangeSize 0 (n:Int) (c:Int)=(((n+(c-1))/c:Nat):Int):=by
  rw[rangeSize_pos (by omega) (by omega)];rw[Int.natCast_ediv]
  congr 1
  omega
 refine⟨e,?_⟩;have hle:(n+(c-1))/c<=n+(c-1):=VU _ _;have hmul:(((n+(c-1))/c:Nat):Int)*(c:Int)<=n+(c-1):=by
  have:=Wt (n+(c-1)) c;rw[<- Int.natCast_mul];omega
 unfold Builtin.Range.small;rw[e];generalize (n+(c-1))/c=k at hle hmul ⊢;simp only [Builtin.Range.rangeFitsLong,UD,VA,decide_eq_true_eq,beq_iff_eq];refine⟨by omega,Or.inr ?_⟩;rw[if_pos (by omega)];simp only [UD,decide_eq_true_eq];omega
section
variable {X:Cx}{tg:Expr}
theorem JV {a b d:Expr} {ta:TA} {p pos:Pos} (hg:Gl X "range") (hm:X.mg "range" = none) (ha:PA X [a,b,d] ta) (hs:starEach [a,b,d] X.env=(false,eval a X.env)::starEach [b,d] X.env:=by rfl) (hpl:(backTo pos (starEach [b,d] X.env)).any (·.1)=false:=by rfl) :
 PI X tg (.Call (.Name "range" p) [a,b,d] [] pos) (Cg ta):=by
 intro pins s σ H R I h;refine Call_ (fW I hg hm boot_range (UX (aD (ha pos pins s σ H _ I h) λus s1 ⟨vs,H1,I1,r1,q1⟩=>?_) hs hpl));obtain⟨n,c,e,q1,q2,q3,q⟩:=q1;subst e;cases r1 with
 | cons r rr =>
  cases rr with
  | cons r' rr =>
   cases rr with
   | cons r'' rr =>
    cases rr;obtain⟨t,rfl⟩:=r;obtain⟨t',rfl⟩:=r';obtain⟨t'',rfl⟩:=r'';obtain⟨e,sm⟩:=G7 q1 q2 q3;refine call_range_3 (by omega) ?_ (Or.inl (Wd (by omega)));refine wpAny_pyIter_range (IsRange.new ..) sm ?_;have I2:ai X pins σ H1 { s1 with heap:=s1.heap.push { cls:=.type "range",data:=.fields #[.int 0 t,.int n t',.int c t''] },toks:=s1.toks }:=I1.kept λb o e=>Uj _ e;refine⟨_,[_],_,_,H1,Z,I2.kept (t':=s1.toks) λb o e=>Uj _ e,zA _ 0 (c:Int) ((n+(c-1))/c),?_,λb hb=>?_,q⟩
    ·show IsRangeIter _ _ (0+((0:Nat):Int)*_) ((((n+(c-1))/c:Nat):Int)-((0:Nat):Int)) _;have e1:(0:Int)+((0:Nat):Int)*(c:Int)=0:=by simp
     have e2:((((n+(c-1))/c:Nat):Int)-((0:Nat):Int))=Builtin.Range.rangeSize 0 (n:Int) (c:Int):=by rw[e];simp
     rw[e1,e2];exact UG _ Z
    ·have e:=Uq.mp hb;subst e;exact I2.fpOk (Ue _) (I2.hok.fresh (Ue _))
theorem C9{lo c:Int}{n:Nat}{g:TG}{tb:TS}{D:f6}{σ:St}{H:Hp}(Pv:Nat->St->Hp->Prop)(h0:Pv 0 σ H)
 (hs:∀i σ H,i<n->Pv i σ H->g (.int (lo+i*c)) σ H λσ2 H2=>tb { D with nx:=Pv (i+1),ct:=Pv (i+1),bk:=D.nx } σ2 H2) (hd:∀σ H,Pv n σ H->D.nx σ H) :
 ∃W:Nat->Nat->St->Hp->Prop,(∃m,W 0 m σ H)/\∀i m σ H,W i m σ H ->
  ((jg lo c n).stop i H/\D.nx σ H)\/((jg lo c n).go i H/\∃N:St->Hp->Prop,(∀σ' H',N σ' H'->∃m',m'<m/\W (i+1) m' σ' H')/\∀x H',(jg lo c n).yld i H x H'->g x σ H' λσ2 H2=>tb { D with nx:=N,ct:=N,bk:=D.nx } σ2 H2):=by
 refine⟨λi m σ H=>m=n-i/\i<=n/\Pv i σ H,⟨n,by simp,Ux _,h0⟩,?_⟩;rintro i m σ H ⟨rfl,hi,p⟩;by_cases hlt:i<n
 ·refine .inr ⟨hlt,Pv (i+1),λσ' H' p'=>⟨n-(i+1),by omega,rfl,hlt,p'⟩,λx H' y=>?_⟩;obtain⟨e,rfl⟩:=y;subst e;exact hs i σ H' hlt p
 ·have e:i=n:=by omega
  subst e;exact .inl ⟨Ue _,hd σ H p⟩
theorem nH{K:W.Frag}{a:Addr}{xs:List V}{g:TG}{tb:TS}{D:f6}{σ:St}{H:Hp}(Pv:Nat->St->Hp->Prop)(h0:Pv 0 σ H)(hl:∀i σ H,i<=xs.length->Pv i σ H->aF K H a xs)
 (hs:∀i x p σ H H',xs[i]? = some x->Pv i σ H->bi H p (.tup [.int (i:Int),x]) H'->g (.ref p) σ H' λσ2 H2=>tb { D with nx:=Pv (i+1),ct:=Pv (i+1),bk:=D.nx } σ2 H2) (hd:∀σ H,Pv xs.length σ H->D.nx σ H) :
 ∃W:Nat->Nat->St->Hp->Prop,(∃m,W 0 m σ H)/\∀i m σ H,W i m σ H ->
  ((mL K a).stop i H/\D.nx σ H)\/((mL K a).go i H/\∃N:St->Hp->Prop,(∀σ' H',N σ' H'->∃m',m'<m/\W (i+1) m' σ' H')/\∀x H',(mL K a).yld i H x H'->g x σ H' λσ2 H2=>tb { D with nx:=N,ct:=N,bk:=D.nx } σ2 H2):=by
 refine⟨λi m σ H=>m=xs.length-i/\i<=xs.length/\Pv i σ H,⟨xs.length,by simp,Ux _,h0⟩,?_⟩;rintro i m σ H ⟨rfl,hi,p⟩;have q:=hl i σ H hi p;by_cases hlt:i<xs.length
 ·refine .inr ⟨⟨xs,xs[i],q,by simp[hlt]⟩,Pv (i+1),λσ' H' p'=>⟨xs.length-(i+1),by omega,rfl,hlt,p'⟩,λx H' y=>?_⟩;obtain⟨pp,v,rfl,y,gr⟩:=y;exact hs i v pp σ H H' (y xs q) p gr
 ·have e:i=xs.length:=by omega
  subst e;exact .inl ⟨⟨xs,q,Ue _⟩,hd σ H p⟩
end
def ut(K:W.Frag):List V->Hp->VK->Prop:=λxs H Q=>match xs with
 | [.ref p]=>∃ns:List Int,aF K H p (ns.map V.int)/\Q (.int ns.sum) H
 | _=>False
theorem Bj(ns:List Int):∀k,k<=ns.length->preSum (λi=>(ns[i]?).getD 0) k=(ns.take k).sum
 | 0,_=>by simp[preSum]
 | k+1,h=>by
  have hk:k<ns.length:=by omega
  rw[preSum,Bj ns k (by omega),<- List.take_append_getElem hk,List.sum_append];simp[UL hk]
theorem Qo {X:Cx} (hc:X.calm=true):cw X (.builtin "sum") (ut X.K):=by
 intro pins s σ H xs us Q I r q;unfold ut at q
 split at q
 ·rename_i p;obtain⟨ns,hq,q⟩:=q;obtain⟨u,rfl,rx⟩:=iw r;cases rx;obtain⟨its,rv,pl,_⟩:=I.list hq;have hl:=rv.length;rw[Uc]at hl;have hlt:p<s.heap.objs.size:=by
   obtain⟨o,n,e,_⟩:=pl;exact Uf e
  have hne:p≠s.heap.objs.size:=Uo hlt;refine call_sum_walkG (wpAny_pyIter_list pl.isList ⟨s.heap.objs.size,_,_,_,_,_,λi=>(ns[i]?).getD 0,rfl,Walks.list (A:=X.A.in1) (show X.A.in1.handled=none from I.ok.hd hc) s.heap.objs.size p hne its.toArray,⟨⟨_,UG _ rfl,rfl,rfl⟩,?_⟩,λb hb=>?_,λi v hv=>?_,λh' tk t' k=>?_⟩)
  ·exact pl.isList.at λo e=>Uj _ e
  ·have hb':b=s.heap.objs.size\/b=p:=by simpa using hb
   show b<(s.heap.push _).objs.size;rw[Vg];rcases hb' with z|z
   ·rw[z];exact Uz _
   ·rw[z];exact Nat.lt_succ_of_lt hlt
  ·have hi:i<its.length:=by
    have:=(WX.mp hv).1;simpa using this
   have hb:i<ns.length:=by omega
   obtain⟨u,hu,ru⟩:=rv.get (i:=i) (x:=V.int ns[i]) (by simp[hb]);have e:its.toArray[i]? = some u:=by simpa using hu
   rw[e]at hv;cases hv;obtain⟨t,rfl⟩:=ru;exact⟨t,by simp[hb]⟩
  ·refine⟨.int ns.sum,H,I.kept (h':=h') (t':=tk) λb o e=>k b o (λz=>?_) (Uj _ e),⟨t',?_⟩,q⟩
   ·have e':b=s.heap.objs.size:=by simpa using z
    exact absurd (Uf e) (by rw[e'];exact UW _)
   ·rw[Um,<- hl,Bj ns _ (Ue _),UJ]
 ·exact q.elim
def S6(i j:Int):Prop:=0<=j/\(Builtin.Int.intBits i:Int)+j<=2 ^ 27
theorem CV{X:Cx}:ba X (binaryOp .LShift) (gI S6 λi j=>.int (i*2 ^ j.toNat)):=uB (ni λ_ _ _ _ _ _ _ hc q=>lshift_int hc.1 hc.2 q)
def C2:V->List V->Hp->VK->Prop:=λx vs H Q=>match x,vs with
 | .int i,[]=>Q (.int (Builtin.Int.intBits i)) H
 | _,_=>False
theorem LU {X:Cx}:gp X "int.bit_length" C2:=by
 intro pins s σ H x vs v us Q I rx rs q;unfold C2 at q
 split at q
 ·obtain⟨t,rfl⟩:=rx;cases rs;exact call_int_bit_length ⟨.int _,H,I.tok _,⟨_,Z⟩,q⟩
 ·exact q.elim
def sk(K:W.Frag)(a b:Addr):It :=
 ⟨λi H=>∃xs ys x y,aF K H a xs/\xs[i]? = some x/\aF K H b ys/\ys[i]? = some y,λi H x H'=>∃p v u,x=.ref p/\(∀xs,aF K H a xs->xs[i]? = some v)/\(∀ys,aF K H b ys->ys[i]? = some u)/\bi H p (.tup [v,u]) H',λi H=>∃xs ys,aF K H a xs/\aF K H b ys/\(xs.length<=i\/ys.length<=i)⟩
theorem FO{P:Program}{w:World}{K:W.Frag}{es:List Expr}{kk:Nat}{pp:Pos}(a b z TI TO i1 i2:Addr)(D:ZipApart z TI TO i1 i2 a b) :
 jc P w K (.Tuple es kk pp) (sk K a b) [z,TI,TO,i1,i2] z (λi h=>IsZip h z TI TO .none/\IsPair h TI (.ref i1) (.ref i2)/\(∃a b,IsPair h TO a b)/\h.IsListIter i1 a i/\h.IsListIter i2 b i) where
 mem:=by simp
 obj:=λi h st c hc=>by
  obtain⟨h1,h2,⟨u,v,h3⟩,⟨o4,e4,c4,d4⟩,o5,e5,c5,d5⟩:=st;have hc':c=z\/c=TI\/c=TO\/c=i1\/c=i2:=by simpa using hc
  rcases hc' with rfl|rfl|rfl|rfl|rfl
  ·exact⟨_,h1,λv z=>by cases (show Data.fields _=Data.cell v from z)⟩
  ·exact⟨_,h2,λv z=>by cases (show Data.seq _ _=Data.cell v from z)⟩
  ·exact⟨_,h3,λv z=>by cases (show Data.seq _ _=Data.cell v from z)⟩
  ·exact⟨o4,e4,λv z=>by rw[d4]at z;cases z⟩
  ·exact⟨o5,e5,λv z=>by rw[d5]at z;cases z⟩
 keep:=λi h h' st k=>by
  obtain⟨h1,h2,⟨u,v,h3⟩,h4,h5⟩:=st;exact⟨k z (by simp) _ h1,k TI (by simp) _ h2,⟨u,v,k TO (by simp) _ h3⟩,h4.at λo x=>k i1 (by simp) o x,h5.at λo x=>k i2 (by simp) o x⟩
 item:=by
  intro X hP hw hK hc i pins s σ H E I hf st hg;subst hP hw hK;obtain⟨h1,h2,⟨u,v,h3⟩,h4,h5⟩:=st;obtain⟨xs,ys,x,y,hq,hx,hq2,hy⟩:=hg;obtain⟨its,rv,p,hz⟩:=I.list hq;obtain⟨its2,rv2,p2,hz2⟩:=I.list hq2;obtain⟨ux,hu,ru⟩:=rv.get hx;obtain⟨uy,hu2,ru2⟩:=rv2.get hy;have lz:z<s.heap.objs.size:=Uf h1;have lTI:TI<s.heap.objs.size:=Uf h2;have lTO:TO<s.heap.objs.size:=Uf h3;have l1:i1<s.heap.objs.size:=by obtain⟨_,e,_⟩:=h4;exact Uf e
  have l2:i2<s.heap.objs.size:=by obtain⟨_,e,_⟩:=h5;exact Uf e
  refine wpAny_pyNext_zip_item D h1 h2 h3 h4 h5 p.isList p2.isList (x:=ux) (y:=uy) (by simpa using hu) (by simpa using hu2) λh' a1 a2 a3 a4 a5 a6 hk=>?_;refine⟨_,rfl,wpAny_letOwnedTupleGo_zip (s:={ s with heap:=h' }) a1 λh'' hz' hs'=>?_⟩;have kk:∀c o,c∉[z,TI,TO,i1,i2]->s.heap.get? c=some o->h''.get? c=some o:=λc o hb e=>by
   have n1:c≠z:=λw=>hb (by simp[w]);exact (hs'.2 c n1).trans (hk c o n1 (λw=>hb (by simp[w])) (λw=>hb (by simp[w])) (λw=>hb (by simp[w])) e)
  have hT2:h''.get? s.heap.objs.size=some { cls:=.type "tuple",data:=.seq #[ux,uy] }:=(hs'.2 _ (U4 lz)).trans a5;have I2:ai X pins σ (upd H s.heap.objs.size (.tup [x,y])) { s with heap:=h'' } :=
   I.turnedN (t':=s.toks) (fp:=[z,TI,TO,i1,i2]) kk hf (Ue _) (Bt ⟨_,hT2,rfl,_,rfl⟩ ru ru2)
  refine⟨.ref s.heap.objs.size,_,I2,rfl,⟨_,x,y,rfl,λys hy=>by rw[I.list_inj hy hq];exact hx,λzs hz=>by rw[I.list_inj hz hq2];exact hy,.mk' I.fresh⟩,
   ⟨hz',(hs'.2 _ D.TIz).trans (hk _ _ D.TIz D.TITO D.TIi1 D.TIi2 h2),⟨_,_,(hs'.2 _ D.TOz).trans a2⟩,a3.at λo e=>(hs'.2 _ D.i1z).trans e,a4.at λo e=>(hs'.2 _ D.i2z).trans e⟩,λc hc=>?_⟩
  have hc':c=z\/c=TI\/c=TO\/c=i1\/c=i2:=by simpa using hc
  have lc:c<s.heap.objs.size:=by rcases hc' with w|w|w|w|w<;>rw[w]<;>assumption
  rw[az (Uo lc)];exact (hf c hc).1
 done:=by
  intro X hP hw hK hc i pins s σ H E I hf st hg;subst hP hw hK;obtain⟨h1,h2,⟨u,v,h3⟩,h4,h5⟩:=st;obtain⟨xs,ys,hq,hq2,hx⟩:=hg;obtain⟨its,rv,p,hz⟩:=I.list hq;obtain⟨its2,rv2,p2,hz2⟩:=I.list hq2;have hl:=rv.length;have hl2:=rv2.length;refine wpAny_pyNext_zip_end (I.ok.hd hc) D h1 h2 h3 h4 h5 p.isList p2.isList (by rcases hx with w|w;exact .inl (by simp;omega);exact .inr (by simp;omega)) λh' hk=>⟨rfl,I.turnedL (t':=s.toks) (fp:=[z,TI,TO,i1,i2]) (λc o hb e=>hk c o (λw=>hb (by simp[w])) (λw=>hb (by simp[w])) (λw=>hb (by simp[w])) (λw=>hb (by simp[w])) e) hf⟩
 self:=λ_ _ _ _ _ st h=>wpAny_pyIter_zip st.1 h
def Ce(K:W.Frag)(ta:TA):TI:=λσ H R=>ta σ H λvs H1=>∃a b xs ys,vs=[.ref a,.ref b]/\aF K H1 a xs/\aF K H1 b ys/\R (sk K a b) H1
theorem E4(I l1 l2:Nat)(h1:l1<I)(h2:l2<I):ZipApart (I+4) (I+2) (I+3) I (I+1) l1 l2:=W.ktu_apart I l1 l2 h1 h2
theorem JS {X:Cx} {es:List Expr} {kk:Nat} {pp:Pos} {a b:Expr} {ta:TA} {p pos:Pos} (hg:Gl X "zip") (hm:X.mg "zip" = none) (ha:PA X [a,b] ta) (hs:starEach [a,b] X.env=(false,eval a X.env)::starEach [b] X.env:=by rfl) (hpl:(backTo pos (starEach [b] X.env)).any (·.1)=false:=by rfl) :
 PI X (.Tuple es kk pp) (.Call (.Name "zip" p) [a,b] [] pos) (Ce X.K ta):=by
 intro pins s σ H R I h;refine Call_ (fW I hg hm boot_zip (UX (aD (ha pos pins s σ H _ I h) λus s1 ⟨vs,H1,I1,r1,q1⟩=>?_) hs hpl));obtain⟨l1,l2,xs,ys,e,hq,hq2,q⟩:=q1;subst e;cases r1 with
 | cons r rr =>
  cases rr with
  | cons r' rr =>
   cases rr;cases r;cases r';obtain⟨its,rv,pl,hz⟩:=I1.list hq;obtain⟨its2,rv2,pl2,hz2⟩:=I1.list hq2;have ll1:l1<s1.heap.objs.size:=by obtain⟨o,_,e,_⟩:=pl;exact Uf e
   have ll2:l2<s1.heap.objs.size:=by obtain⟨o,_,e,_⟩:=pl2;exact Uf e
   have D:ZipApart (s1.heap.objs.size+4) (s1.heap.objs.size+2) (s1.heap.objs.size+3) s1.heap.objs.size (s1.heap.objs.size+1) l1 l2:=E4 _ _ _ ll1 ll2;refine call_zip_2 pl.isList pl2.isList λh' hz hTI hTO gE hi2 hsz hk=>?_;refine wpAny_pyIter_zip (s:={ s1 with heap:=h' }) hz ?_;have I2:ai X pins σ H1 { s1 with heap:=h' }:=I1.kept (t':=s1.toks) hk;refine⟨s1.heap.objs.size+4,_,_,sk X.K l1 l2,H1,Z,I2,FO l1 l2 _ _ _ _ _ D,⟨hz,hTI,⟨_,_,hTO⟩,gE,hi2⟩,λb hb=>?_,q⟩;have hb':b=s1.heap.objs.size+4\/b=s1.heap.objs.size+2\/b=s1.heap.objs.size+3\/b=s1.heap.objs.size\/b=s1.heap.objs.size+1:=by simpa using hb
   have hle:s1.heap.objs.size<=b:=by rcases hb' with w|w|w|w|w<;>rw[w]<;>first|exact Nat.le_add_right _ _|exact Ue _
   exact I1.fpOk hle (I1.hok.fresh hle)
theorem P4{K:W.Frag}{a b:Addr}{xs zs:List V}{cs:St}{tt:TT}{te:TE}{H:Hp}{Q:VK}(hlen:zs.length=xs.length)(Pv:Nat->List V->Hp->Prop)(h0:Pv 0 [] H)(hl:∀i ys H,i<=xs.length->Pv i ys H->aF K H a xs/\aF K H b zs/\ys.length<=i)(hz:xs.length<=sizeLine)
 (hs:∀i x z ys H H' (N:List V->Hp->Prop),xs[i]? = some x->zs[i]? = some z->Pv i ys H->aj H H'->(∀ys' H',Pv (i+1) ys' H'->N ys' H')->tt (some x::some z::cs) H' λb H4=>if b=true then te (some x::some z::cs) H4 λy H5=>N (ys++[y]) H5 else N ys H4)
 (hd:∀ys H p H',Pv xs.length ys H->bi H p (.lst ys) H'->Q (.ref p) H') :
 iQ (sk K a b) H (List.replicate 2 none++cs) (nE K 2 (jF (bT 0) (jF (bT 1) qm))) tt te Q:=by
 refine⟨λi m ys σ H=>m=xs.length-i/\i<=xs.length/\Pv i ys H/\∃v0 v1,σ=v0::v1::cs,⟨xs.length,by simp,Ux _,h0,none,none,rfl⟩,?_⟩;rintro i m ys σ H2 ⟨rfl,hi,p,v0,v1,rfl⟩;obtain⟨q,q2,ql⟩:=hl i ys H2 hi p;by_cases hlt:i<xs.length
 ·refine .inr ⟨⟨xs,zs,xs[i],zs[i]'(by omega),q,by simp[hlt],q2,by simp[hlen,hlt]⟩,by omega,λys' σ' H'=>Pv (i+1) ys' H'/\∃v0 v1,σ'=v0::v1::cs,λys' σ' H' ⟨p',e⟩=>⟨xs.length-(i+1),by omega,rfl,hlt,p',e⟩,λx H' y=>?_⟩;obtain⟨pp,v,u,rfl,y,y2,gr⟩:=y;refine⟨pp,_,Z,gr.tup,Z,_,_,Z,_,_,Z,Z,?_⟩;exact hs i v u ys H2 H' (λys' H'=>Pv (i+1) ys' H'/\∃v0 v1,some v::some u::cs=v0::v1::cs) (y xs q) (y2 zs q2) p gr.sm λ_ _ z=>⟨z,_,_,Z⟩
 ·have e:i=xs.length:=by omega
  subst e;exact .inl ⟨⟨xs,zs,q,q2,.inl (Ue _)⟩,by omega,λp' H' g=>hd ys H2 p' H' p g⟩
section
variable {X:Cx}{K:W.Frag}{a b c e o:Expr}{es bH:List Expr}{pos p p2 pos2:Pos}{t:TA}{kk:Nat}
theorem Qn (h:X.K=K) (hc:X.calm=true):cw X (.builtin "sum") (ut K):=by subst h;exact Qo hc
theorem Jd (h:X.K=K) (hc:X.calm=true) (hm1:X.mg "list" = none) (hm2:X.mg "reversed" = none) (ha:QA X [a] t) (hg1:Gl X "list":=by rfl) (hg2:Gl X "reversed":=by rfl) (hs:cL a=false:=by rfl) :
 QE X (.Call (.Name "list" p) [.Call (.Name "reversed" p2) [a] [] pos2] [] pos) (zJ K t):=by subst h;exact⟨LW hc hg1 hm1 hg2 hm2 ha.h (bZ hs) (bZ Z)⟩
theorem m6 (h:X.K=K) (hg:Gl X "enumerate") (hm:X.mg "enumerate" = none) (ha:QA X [a] t) (hs:cL a=false:=by rfl):QI X (.Tuple es kk p2) (.Call (.Name "enumerate" p) [a] [] pos) (Cj K t):=by subst h;exact⟨JZ hg hm ha.h (bZ hs)⟩
theorem IU (h:X.K=K) (hg:Gl X "zip") (hm:X.mg "zip" = none) (ha:QA X [a,b] t) (hs:cL a=false:=by rfl) (hs2:cL b=false:=by rfl):QI X (.Tuple es kk p2) (.Call (.Name "zip" p) [a,b] [] pos) (Ce K t):=by
 subst h;exact⟨JS hg hm ha.h (bZ hs) (by rw[bZ hs2];rfl)⟩
theorem Bd {tg:Expr} (hg:Gl X "range") (hm:X.mg "range" = none) (ha:QA X [a,b,c] t) (hs:cL a=false:=by rfl) (hs2:cL b=false:=by rfl) (hs3:cL c=false:=by rfl):QI X tg (.Call (.Name "range" p) [a,b,c] [] pos) (Cg t) :=
 ⟨JV hg hm ha.h (bZ hs) (by rw[bZ hs2,bZ hs3];rfl)⟩
end
def c6:List Int->List Value->Bool
 | [],[]=>true
 | n::r,.int m _::u=>n == m && c6 r u
 | _,_=>false
theorem c6.vals:∀ {ns:List Int} {us:List Value},c6 ns us=true->aL (ns.map V.int) us
 | [],[],_=>.nil
 | n::r,.int m _::u,h=>by
  have h':(n == m && c6 r u)=true:=h;rw[UD,beq_iff_eq]at h';obtain⟨rfl,h2⟩:=h';exact .cons ⟨_,Z⟩ (c6.vals h2)
theorem eK {K:W.Frag} {a:Addr} {od:Option Addr} {its:Array Value} {n:Nat} {sl:Array (Option Value)} {ns:List Int} (h:K.lookup a=some ⟨.type "tuple",od,.seq its n,sl⟩) (hv:c6 ns its.toList=true) (hz:its.size<=1000:=by decide) (H:Hp):bo K H a (ns.map V.int) :=
 .inr ⟨_,its,n,h,rfl,rfl,sz (WZ hz),c6.vals hv⟩
theorem bi.after{H H1 H2:Hp}{p:Addr}{o:HO}(s:aj H H1)(g:bi H1 p o H2):bi H p o H2:=⟨s.free g.nw,s.trans g.sm,g.at_⟩
def cu(b:Nat)(ps:List Int):Int:=ps.foldl (λa p=>a*2 ^ b+p) 0
theorem sJ(b:Nat):∀(ps:List Int) (a:Int),ps.foldl (λa p=>a*2 ^ b+p) a=a*2 ^ (b*ps.length)+cu b ps
 | [],a=>by simp[cu]
 | p::r,a=>by
  unfold cu;rw[Vn,Vn,sJ b r,sJ b r,UB,Wu,Wv];generalize (2:Int) ^ (b*r.length)=X;generalize (2:Int) ^ b=Y;rw[Ww,Ww,Int.mul_assoc,Wx Y X];omega
theorem zC(b:Nat)(ps qs:List Int):cu b (ps++qs)=cu b ps*2 ^ (b*qs.length)+cu b qs:=by
 conv=>lhs;unfold cu
 rw[List.foldl_append,sJ b qs]
 rfl
theorem FT(b:Nat)(ps:List Int)(p:Int):cu b (ps++[p])=cu b ps*2 ^ b+p:=by
 rw[zC];simp[cu]
theorem oH(k:Nat):(0:Int)<2 ^ k:=Int.pow_pos (by decide)
theorem FU{b:Nat}:∀ {ps:List Int},(∀p∈ps,0<=p/\p<2 ^ b)->0<=cu b ps/\cu b ps<2 ^ (b*ps.length):=by
 intro ps h
 induction ps with
 | nil=>simp[cu]
 | cons p r ih =>
  have h1:=h p (.head _);have h2:=ih λq hq=>h q (.tail _ hq);have e:cu b (p::r)=p*2 ^ (b*r.length)+cu b r:=by
   have:=zC b [p] r;simpa [cu] using this
  rw[e,UB,Wu,Wv];have hp:=oH (b*r.length);generalize (2:Int) ^ (b*r.length)=X at *;generalize (2:Int) ^ b=Y at *;have m1:0<=p*X:=Int.mul_nonneg h1.1 (VB hp);have m2:p*X+X<=X*Y:=by
   have:(p+1)*X<=Y*X:=Int.mul_le_mul_of_nonneg_right (by omega) (VB hp);rw[Ww,Int.one_mul]at this;rw[Wx X Y];exact this
  omega
def fG(b many:Nat)(n:Int):List Int:=(List.range many).map λi=>n/2 ^ (b*(many-1-i))%2 ^ b
theorem JH(b many:Nat)(n:Int):(fG b many n).length=many:=by simp[fG]
theorem JG(b many:Nat)(n:Int):((List.range many).map λi=>n/2 ^ (b*i)%2 ^ b).reverse=fG b many n:=by
 refine List.ext_getElem? λi=>?_;by_cases h:i<many
 ·rw[WY (by simpa using h)];simp[fG,h,show many-1-i<many by omega]
 ·rw[U7 (by simp;omega),U7 (by simp[fG];omega)]
theorem PN(n:Int)(b j:Nat):n/2 ^ (b*j)/2 ^ b=n/2 ^ (b*(j+1)):=by
 rw[Int.ediv_ediv_of_nonneg (VB (oH _)),<- Wv,Wu]
theorem LK(x:Int)(b:Nat):x-x/2 ^ b*2 ^ b=x%2 ^ b:=by
 rw[Int.emod_def,Wx]
abbrev bj(r:List Int):Prop:=∀p∈r,0<=p/\p<256
theorem f9{α:Type}{rs:List α}{i:Nat}{y:α}(h:rs[i]? = some y):rs.take (i+1)=rs.take i++[y]:=by rw[VV,h];rfl
theorem N6{α β:Type}{xs:List α}{rs:List β}{i:Nat}{x:α}(hl:rs.length=xs.length)(h:xs[i]? = some x):∃y,rs[i]? = some y:=by
 have:=(Uk.mp h).1;exact⟨rs[i]'(by omega),by simp⟩
theorem jM{K:W.Frag}{a:Addr}{xs:List V}{cs:St}{te:TE}{H:Hp}{Q:VK}(rs:List V)(hl:rs.length=xs.length)(hq:aF K H a xs)(hz:xs.length<=sizeLine)
 (hs:∀(i:Nat) x y H' (N:VK),xs[i]? = some x->rs[i]? = some y->aj H H'->(∀H'',aj H' H''->N y H'')->te (some x::cs) H' N) (hd:∀p H',bi H p (.lst rs) H'->Q (.ref p) H') :
 iQ (jh K a) H (List.replicate 1 none++cs) (bT 0) gy te Q:=by
 refine rf (λi ys H'=>aj H H'/\ys=rs.take i) ⟨aj.refl _,rfl⟩ (λi ys H' hi z=>⟨z.1.seq hq,by rw[z.2,Ul];omega⟩) hz (λi x ys H' N hx z hN=>?_) λys H' p H'' z g=>?_
 ·obtain⟨s,rfl⟩:=z;obtain⟨y,hy⟩:=N6 hl hx;simp only [gy,if_true];exact hs i x y H' _ hx hy s λH'' s'=>hN _ _ ⟨s.trans s',by rw[f9 hy]⟩
 ·obtain⟨s,rfl⟩:=z;rw[<- hl,UJ]at g;exact hd p H'' (g.after s)
theorem re{lo:Int}{n:Nat}{cs:St}{te:TE}{H:Hp}{Q:VK}(rs:List V)(hl:rs.length=n)(hz:n<=sizeLine)
 (hs:∀(i:Nat) y H' (N:VK),i<n->rs[i]? = some y->aj H H'->(∀H'',aj H' H''->N y H'')->te (some (.int (lo+(i:Int)))::cs) H' N) (hd:∀p H',bi H p (.lst rs) H'->Q (.ref p) H') :
 iQ (iP lo n) H (List.replicate 1 none++cs) (bT 0) gy te Q:=by
 refine P8 (λi ys H'=>aj H H'/\ys=rs.take i) ⟨aj.refl _,rfl⟩ (λi ys H' hi z=>by rw[z.2,Ul];omega) hz (λi ys H' N hi z hN=>?_) λys H' p H'' z g=>?_
 ·obtain⟨s,rfl⟩:=z;have hy:rs[i]? = some (rs[i]'(by omega)):=by simp
  simp only [gy,if_true];exact hs i (rs[i]'(by omega)) H' _ hi hy s λH'' s'=>hN _ _ ⟨s.trans s',by rw[f9 hy]⟩
 ·obtain⟨s,rfl⟩:=z;rw[<- hl,UJ]at g;exact hd p H'' (g.after s)
theorem fk{ns:List Int}{i:Nat}{x:V}(h:(ns.map V.int)[i]? = some x):∃p,ns[i]? = some p/\x=.int p:=by
 rw[Ug]at h;cases e:ns[i]? with
 | none=>rw[e]at h;cases h
 | some p=>rw[e]at h;cases h;exact⟨p,Z,Z⟩
theorem P2{α:Type}(xs:List α)(lo hi:Option Int):(fY xs lo hi).length<=xs.length:=by
 unfold fY;rw[Ul,U5];omega
theorem P0{α:Type}{xs:List α}{lo hi:Option Int}{x:α}(h:x∈fY xs lo hi):x∈xs:=Vq (U8 h)
theorem ca{t u:TS}{D:f6}{σ:St}{H:Hp}(M:St->Hp->Prop)(h1:∀nx:St->Hp->Prop,(∀σ' H',M σ' H'->nx σ' H')->t { D with nx:=nx } σ H)(h2:∀σ' H',M σ' H'->u D σ' H'):oJ t u D σ H:=h1 (u D) h2
structure cF (P:Program) (w:World) (K:W.Frag) (mg:Str->Option Value) (base:Heap) (C:Addr) (m:Str) (k:Nat) (f:Addr) (fd:FuncData) (ps:List Str) (sp:Sp):Prop where
 c:dG K C
 mt:bw K C m f
 b:aq K fd ps []
 ok:bA P w K mg base bR k f fd ps sp
structure TV (P:Program) (w:World) (K:W.Frag) (mg:Str->Option Value) (base:Heap) (x:Str) (C:Addr) (k:Nat) (f:Addr) (fd:FuncData) (ps:List Str) (sp:Sp):Prop where
 g:mg x=some (.ref C)
 mkx:Mk K C f
 b:aq K fd ps []
 ok:bA P w K mg base bR k f fd ps sp
section
variable {X:Cx}{K:W.Frag}{k j:Nat}{f C:Addr}{fd:FuncData}{ps:List Str}{sp:Sp}{x m:Str}{p pos apos pos':Pos}{e o value:Expr}{es:List Expr}{ta tv:TE}{t:TA}
theorem pD{X:Cx}:je bR X E0:=λ_ _ _ _ _ _ _ z=>z.elim
theorem dO{pl:Sem Bool}(F:cF X.prog X.w X.K X.mg X.base C m j f fd ps sp)(hr:bW k X.A)(ho:QE X o ta)(ha:QA X (e::es) t)(hj:j<=k:=by decide)(hn:dY (e::es)=true:=by rfl)
 (ht:eval (.Call (.Attribute o m apos) (e::es) [] pos) X.env=(do
   let ov <- eval o X.env
   standAt apos.atName
   let (f,first) <- holding [ov] (getMethod ov m pl)
   callWith pos f first (backTo pos (starEach (e::es) X.env)) (backToKw pos (keywordEach [] X.env))):=by rfl) :
 QE X (.Call (.Attribute o m apos) (e::es) [] pos) (mT C m sp [] E0 ta t) :=
 ⟨Bp (pl:=pl) ho.h F.c F.mt F.ok (hr.mono hj) F.b .nil pD ha.h (bZ (eV hn).1) (iC (eV hn).2) ht⟩
theorem dz{pl:Sem Bool}(F:cF X.prog X.w X.K X.mg X.base C m j f fd ps sp)(hr:bW k X.A)(ho:QE X o ta)(hj:j<=k:=by decide)
 (ht:eval (.Call (.Attribute o m apos) [] [] pos) X.env=(do
   let ov <- eval o X.env
   standAt apos.atName
   let (f,first) <- holding [ov] (getMethod ov m pl)
   callWith pos f first (backTo pos (starEach [] X.env)) (backToKw pos (keywordEach [] X.env))):=by rfl) :
 QE X (.Call (.Attribute o m apos) [] [] pos) (mT C m sp [] E0 ta jm) :=
 ⟨J8 (pl:=pl) ho.h F.c F.mt F.ok (hr.mono hj) F.b .nil pD ht⟩
theorem aK{f:Str}(h:X.K=K)(he:QE X e ta)(hb:attributeBase e f X.env (eval e X.env)=eval e X.env:=by rfl):QE X (.Attribute e f pos) (zU K ta f):=by subst h;exact⟨Kc he.h hb⟩
theorem de{f:Str}(h:X.K=K)(ha:QE X o ta)(hv:QE X value tv)(hs:swapsWith value (some (.Attribute o f pos')) pos.line X.env=pure false:=by rfl):QS X (.Assign [.Attribute o f pos'] value pos) (AV K ta tv f):=by subst h;exact⟨JB ha.h hv.h hs⟩
end
structure si (K:W.Frag) (C:Addr):Prop where
 makes:W.makesIn K C=true
 init:W.findIn K (.ref C) "__init__" = some (some (.builtin "object.__init__"))
 kp:W.keepIn K (.ref C)=true
def zQ(C:Addr):TE:=λ_ H Q=>∀x dx,H x=none->H dx=none->dx≠x->Q (.ref x) (upd (upd H dx (.own x)) x (.ins C dx []))
section
variable {X:Cx}{C:Addr}{x:Str}{p pos:Pos}
theorem Iw{pins:List (Addr × Obj)}{σ:St}{H:Hp}{s:Shared}{Q:VK}(M:si X.K C)(I:ai X pins σ H s)(h:zQ C σ H Q) :
 wpAny (model X.prog X.w) X.A (call (.ref C) []) (EP X pins σ Q) X.xe s:=by
 have hq:=h (s.heap.objs.size+1) s.heap.objs.size (I.hok.fresh (Vh _)) (I.hok.fresh (Ue _)) (Uo (Uz _));have I2:=ai.made (C:=C) I;have Y:=W.makes_of (M:=model X.prog X.w) I.kIn M.makes;refine wpAny_call (L9 I.kIn M.makes M.init (λself=>W.Looks.of_pure (W.oi_bind self)) ?_);obtain⟨hh,g,d,t,os⟩:=s;have e2:((hh.push W.emptyDict).push (W.instObj C hh.objs.size)).get? (hh.objs.size+1)=some (W.instObj C hh.objs.size):=by
  have:=UG (hh.push W.emptyDict) (o:=W.instObj C hh.objs.size) rfl
  rwa [Vg]at this
 have t1:W.Looks (model X.prog X.w) ((hh.push W.emptyDict).push (W.instObj C hh.objs.size)) (typeOf (.ref (hh.objs.size+1))) (.ref C):=(W.Looks.ld e2).andThen .now;have t2:W.Looks (model X.prog X.w) ((hh.push W.emptyDict).push (W.instObj C hh.objs.size)) (isInstance (.ref (hh.objs.size+1)) (.type "object")) true :=
  t1.andThen (Y.top.keeps λb o e=>Uj _ (Uj _ e))
 refine codeAny_call_builtin W.oi_plain W.entry_oi (@W.check_slot (model X.prog X.w) _ _ _ "object.__init__" "object" "__init__" (.ref (hh.objs.size+1)) [] [] _ W.oi_kind W.oi_split t2 (W.oi_args (.ref (hh.objs.size+1))) ?_);rw[W.oi_run];exact wpAny_pure (And.intro Z ⟨V.ref (hh.objs.size+1),_,I2,Z,hq⟩)
theorem tw(M:si X.K C)(hm:X.mg x=some (.ref C))(hg:Gl X x:=by rfl)(hdb:(x == ("__debug__" : Str))=false:=by decide):QE X (.Call (.Name x p) [] [] pos) (zQ C):=⟨by
 intro pins s σ H Q I h;refine wpAny_Call_Name_kw (pU I hg hm ?_ hdb);exact W.callWith_K0 I.kIn M.kp (Iw M I h)⟩
end
structure cY (K:W.Frag) (x qual:Str) (st:Stmt) (f:Addr) (fd:FuncData) (vs:List Value):Prop where
 ex:∃(oc:Value) (od:Option Addr) (kV doc pm:Value) (an:Option Addr) (cdv ct:Value) (osl:Array (Option Value)) (d:Addr) (dc:Value) (dd:Option Addr) (n:Nat) (dsl:Array (Option Value)),
  fd=W.fnOf x qual (aJ st) (aH st) (ak st) (.ref d) kV doc pm an cdv ct/\K.lookup f=some ⟨oc,od,.func fd,osl⟩/\W.codeIn K cdv qual=true/\K.lookup d=some ⟨dc,dd,.seq vs.toArray n,dsl⟩
 kp:W.keepIn K (.ref f)=true
section
variable {P:Program}{w:World}{K:W.Frag}{mg:Str->Option Value}{base:Heap}{x qual:Str}{st:Stmt}{f:Addr}{fd:FuncData}{N ps:List Str}{k:Nat}{sp:Sp}{vs:List Value}
theorem cY.okQ(F:cY K x qual st f fd vs)(S:aM N ps (ak st))(len:∀vs H Q E,sp vs H Q E->vs.length=ps.length)
 (hbody:∀(cdv:Value) (A:Around) (outer:List Env) (s:Shared) (H:Hp) (vs:List V) (Q:VK) (E:XK),bW k (A.deeper (envOfC qual (ak st) s.heap.objs.size f cdv))->sp vs H Q E ->
   ∃t,iO (ja bR P w K mg base N qual (ak st) f cdv A outer s H E).nox (aH st) t/\t { nx:=λ_ H'=>Q .non H',rt:=Q } (gZ N vs) H):bA P w K mg base bR (k+1) f fd ps sp:=by
 obtain⟨oc,od,kV,doc,pm,an,cdv,ct,osl,d,dc,dd,n,dsl,rfl,lk,hcd,_⟩:=F.ex;refine Db lk hcd S len λA outer s H vs Q E hr hsp=>?_;obtain⟨t,h,q⟩:=hbody cdv A outer s H vs Q E hr hsp;exact⟨t,h.h.nox,q⟩
theorem dS{oc dc:Value}{od an dd:Option Addr}{osl dsl:Array (Option Value)}{kV doc pm cdv ct:Value}{d:Addr}{n:Nat}(l:K.lookup f=some ⟨oc,od,.func (W.fnOf x qual (aJ st) (aH st) (ak st) (.ref d) kV doc pm an cdv ct),osl⟩)
 (c:W.codeIn K cdv qual=true) (k:W.keepIn K (.ref f)=true) (ld:K.lookup d=some ⟨dc,dd,.seq vs.toArray n,dsl⟩):cY K x qual st f (W.fnOf x qual (aJ st) (aH st) (ak st) (.ref d) kV doc pm an cdv ct) vs :=
 ⟨⟨oc,od,kV,doc,pm,an,cdv,ct,osl,d,dc,dd,n,dsl,rfl,l,c,ld⟩,k⟩
theorem cY.binds{ds:List Value}(F:cY K x qual st f fd vs)
 (h:∀(d:Addr) (kV doc pm:Value) (an:Option Addr) (cdv ct:Value) (us:List Value),(us++ds).length=ps.length->∃kk:Option (Array Value)->Sem (List (Str × Value)),
   bindArgs (W.fnOf x qual (aJ st) (aH st) (ak st) (.ref d) kV doc pm an cdv ct) ⟨us,[]⟩=seqItems? (.ref d) >>= kk/\kk (some vs.toArray)=pure (ps.zip (us++ds))):aq K fd ps ds:=by
 obtain⟨oc,od,kV,doc,pm,an,cdv,ct,osl,d,dc,dd,n,dsl,rfl,lk,hcd,ld⟩:=F.ex;intro s us KX hl;obtain⟨kk,h1,h2⟩:=h d kV doc pm an cdv ct us hl;exact BindsTo.of_defaults (T:=d) Z (KX _ _ ld) Z h1 h2
end
structure dL (P:Program) (w:World) (K:W.Frag) (mg:Str->Option Value) (base:Heap) (C:Addr) (m:Str) (k:Nat) (f:Addr) (fd:FuncData) (ps:List Str) (dvs:List V) (sp:Sp):Prop where
 c:dG K C
 mt:bw K C m f
 b:∃ds,aq K fd ps ds/\aL dvs ds
 ok:bA P w K mg base bR k f fd ps sp
section
variable {X:Cx}{k j:Nat}{f C:Addr}{fd:FuncData}{ps:List Str}{sp:Sp}{m:Str}{pos apos:Pos}{e o:Expr}{es:List Expr}{ta:TE}{t:TA}{dvs:List V}
theorem cB{pl:Sem Bool}(F:dL X.prog X.w X.K X.mg X.base C m j f fd ps dvs sp)(hr:bW k X.A)(ho:QE X o ta)(ha:QA X (e::es) t)(hj:j<=k:=by decide)(hn:dY (e::es)=true:=by rfl)
 (ht:eval (.Call (.Attribute o m apos) (e::es) [] pos) X.env=(do
   let ov <- eval o X.env
   standAt apos.atName
   let (f,first) <- holding [ov] (getMethod ov m pl)
   callWith pos f first (backTo pos (starEach (e::es) X.env)) (backToKw pos (keywordEach [] X.env))):=by rfl) :
 QE X (.Call (.Attribute o m apos) (e::es) [] pos) (mT C m sp dvs E0 ta t):=by
 obtain⟨ds,hb,hd⟩:=F.b;exact⟨Bp (pl:=pl) ho.h F.c F.mt F.ok (hr.mono hj) hb hd pD ha.h (bZ (eV hn).1) (iC (eV hn).2) ht⟩
end
def iN:List DictEntry->Option (List (Int × Addr))
 | []=>some []
 | ⟨h,.int k _,.ref a⟩::r=>if h == hashInt k then (match iN r with|some l=>some ((k,a)::l)|none=>none) else none
 | _=>none
theorem iN.pairs{P:Program}{w:World}:∀ {es:List DictEntry} {m:List (Int × Addr)},iN es=some m ->
 (∀e∈es,∃k,(cK P w).is k e.key=true/\e.hash=(cK P w).hash k)/\Pairs (cK P w) es (m.map λp=>((Sum.inl p.1:aR),Value.ref p.2))
 | [],m,h=>by cases h;exact⟨λ_ z=>(nomatch z),.nil⟩
 | ⟨hh,.int k tk,.ref a⟩::r,m,h=>by
  unfold iN at h;by_cases c:hh == hashInt k
  ·rw[if_pos c]at h;cases q:iN r with
   | none=>rw[q]at h;cases h
   | some l =>
    rw[q]at h;cases h;obtain⟨i1,i2⟩:=iN.pairs (P:=P) (w:=w) q;refine⟨λe he=>?_,.cons (tP P w k tk) Z i2⟩;cases he with
    | head=>exact⟨.inl k,tP P w k tk,eq_of_beq c⟩
    | tail _ z=>exact i1 e z
  ·rw[if_neg c]at h;cases h
structure sn (K:W.Frag) (a:Addr) (m:List (Int × Addr)):Prop where
 ex:∃es ep,K.lookup a=some ⟨.type "dict",none,.dict es ep,#[]⟩/\iN es.toList=some m
 nd:(m.map (·.1)).Nodup
 ns:(a == sysModules)=false
theorem sn.rd{K:W.Frag}{a:Addr}{m:List (Int × Addr)}{P:Program}{w:World}{h:Heap}(D:sn K a m)(X:K.In h):h.DictOf (cK P w) a (m.map λp=>((Sum.inl p.1:aR),Value.ref p.2)):=by
 obtain⟨es,ep,l,e⟩:=D.ex;obtain⟨i1,i2⟩:=iN.pairs (P:=P) (w:=w) e;refine⟨_,es,ep,X _ _ l,⟨rfl,rfl,rfl⟩,rfl,λe he=>i1 e (W0.mpr he),i2,?_⟩;rw[Vd];have:(((λx=>x.1) ∘ λp:Int × Addr=>((Sum.inl p.1:aR),Value.ref p.2)):Int × Addr->aR)=(λi:Int=>(Sum.inl i:aR)) ∘ (·.1):=rfl;rw[this,<- Vd];exact List.Pairwise.map _ (λa b (z:a≠b) (q:(Sum.inl a:aR)=Sum.inl b)=>z (Sum.inl.inj q)) D.nd
def nC(m:List (Int × Addr))(i:Int):Option V:=(m.find? λp=>decide (p.1=i)).map λp=>V.ref p.2
theorem CN:∀(m:List (Int × Addr)) (i:Int) (z:V) (r:Value),aQ z r->aQ ((nC m i).getD z) ((valueAt (m.map λp=>((Sum.inl p.1:aR),Value.ref p.2)) (Sum.inl i)).getD r)
 | [],i,z,r,h=>h
 | p::m,i,z,r,h=>by
  have ih:=CN m i z r h;unfold nC valueAt at ih ⊢;rw[UM,UR,UR];by_cases c:p.1=i
  ·have c':(Sum.inl p.1:aR)=Sum.inl i:=congrArg _ c;simp only [decide_eq_true c,decide_eq_true c',Vk,Option.getD_some]
   rfl
  ·have c':¬(Sum.inl p.1:aR)=Sum.inl i:=λq=>c (Sum.inl.inj q);simp only [decide_eq_false c,decide_eq_false c'];exact ih
def zW(m:List (Int × Addr))(ty tx:TE):TE:=λσ H Q=>ty σ H λy H2=>tx σ H2 λz H3=>∃i,y=.int i/\Q ((nC m i).getD z) H3
section
variable {X:Cx}{K:W.Frag}{a:Addr}{m:List (Int × Addr)}{e f:Expr}{x:Str}{p apos cpos:Pos}{ty tx:TE}
theorem Jh (h:X.K=K) (D:sn K a m) (hg:Gl X x) (hm:X.mg x=some (.ref a)) (he:QE X e ty) (hf:QE X f tx) (hd:(x == ("__debug__" : Str))=false:=by decide)
 (hbase:attributeBase (.Name x p) "get" X.env (eval (.Name x p) X.env)=eval (.Name x p) X.env:=by rfl)
 (hfew:((backTo cpos (starEach [e,f] X.env)).all (λx=>!x.1) && (backToKw cpos (keywordEach [] X.env)).all (λx=>x.1.isSome)
   && decide (([e,f]:List Expr).length+([]:List Keyword).length+(if ([]:List Keyword).isEmpty then 0 else 1)<30))=true:=by rfl)
 (hline:(apos.endLine == cpos.line)=true:=by rfl) (htr:backTo cpos (starEach [e,f] X.env)=[(false,eval e X.env),(false,eval f X.env)]:=by rfl) :
 QE X (.Call (.Attribute (.Name x p) "get" apos) [e,f] [] cpos) (zW m ty tx):=⟨by
 subst h;intro pins s σ H Q I h;have ho:PE X (.Name x p) (tC (.ref a)):=(iB (v:=.ref a) hg hm rfl hd).h;refine wpAny_Call_method hbase hfew hline WV Vx WW (aD (ho pins s σ H (λv H'=>v=.ref a/\zW m ty tx σ H' Q) I ⟨rfl,h⟩) λu s1 ⟨x,H1,I1,rx,ex,q1⟩=>?_);subst ex;obtain rfl:u=Value.ref a:=rx;have d1:=D.rd (P:=X.prog) (w:=X.w) I1.kIn;refine⟨d1.typeIs,λb q=>?_,?_⟩
 ·cases q;obtain⟨ob,_,_,h1,h2,_⟩:=d1;exact⟨ob,h1,h2.2.1⟩
 rw[htr];refine Calls.callWith_builtin Z (Calls.evalArgs_plain (Calls.spliced_cons (aD (he.h pins s1 σ H1 _ I1 q1) λiv s2 ⟨y,H2,I2,ry,q2⟩ =>
  Calls.spliced_cons (aD (hf.h pins s2 σ H2 _ I2 q2) λfv s3 ⟨z,H3,I3,rz,i,ey,q3⟩=>Calls.spliced_nil ?_))))
 subst ey;have d3:=D.rd (P:=X.prog) (w:=X.w) I3.kIn;exact call_meetsIn Vx d3.typeIs Wi (PySem.F.args_dict_get_3 _ _ _) (meets_dict_get_default (cK X.prog X.w) a (iH (k:=.inl i) ry) D.ns fv) ⟨_,d3.mapOf,_,_,I3.tok _,CN m i z fv rz,q3⟩⟩
end
structure oi (h:Heap) (e C:Addr) (od:Option Addr) (tb:Value) (oe:Obj) (vs:Array Value) (q:Bool:=false):Prop where
 at_:h.get? e=some oe
 cls:oe.cls=.ref C
 dict:oe.dict=od
 data:oe.data=.fields vs
 size:vs.size=6
 tb1:vs[1]? = some tb
 cx:q=false->vs[2]? = some .none
def y4(h:Heap)(e T:Addr)(fl:Value):Prop:=∃oT ts,h.get? T=some oT/\oT.data=.fields ts/\ts[3]? = some fl/\T≠e
section
variable {M:Model}{A:Around}{E:Value->Shared->Prop}{s:Shared}
structure TJ (l:List Env) (e C T':Addr) (od:Option Addr) (tb fl:Value) (h h':Heap) (q:Bool:=false):Prop where
 keep:∀b o,h.get? b=some o->b≠e->.ref b≠tb->b∉d9 l->h'.get? b=some o
 slot:∀b o,h.get? b=some o->b∈d9 l->∃sl,h'.get? b=some { o with slots:=sl }
 there:∀b o,h.get? b=some o->∃o',h'.get? b=some o'
 new:h.objs.size<=T'
 size:h.objs.size<=h'.objs.size
 exc:∃oe vs,oi h' e C od (.ref T') oe vs q
 ent:y4 h' e T' fl
def Sn(h:Heap)(e:Addr)(tb:Value):Prop:=tb=.none\/∃T,tb=.ref T/\y4 h e T .none
end
def xφ(e C:Addr)(od:Option Addr)(q:Bool):Heap->Prop:=λh=>∃tb oe vs,oi h e C od tb oe vs q
def xν(e C:Addr)(od:Option Addr):Heap->Prop:=λh=>∃oe vs,oi h e C od .none oe vs
def XO(e C:Addr)(od:Option Addr)(q:Bool:=false):HO:=.ext (xφ e C od q)
def XN(e C:Addr)(od:Option Addr):HO:=.ext (xν e C od)
def zh(P:Program)(w:World):gv:=λouter H s E v s'=>∃(e C T:Addr) (od:Option Addr) (q:Bool) (H':Hp) (oe:Obj) (vs:Array Value),v=.ref e/\s'.os=s.os/\AllBare s'.gens /\
 Un (d9 outer) [] H H' s.heap s'.heap/\bQ P w H' s'.heap/\H' e=some (XO e C od q)/\s.heap.get? e=none/\s.heap.objs.size<=T/\s.heap.objs.size<=s'.heap.objs.size/\H' T=none /\
 oi s'.heap e C od (.ref T) oe vs q/\y4 s'.heap e T .none/\E (.ref C) (some e) H'
def Ss(X:Cx)(pins:List (Addr × Obj))(Es:St->XK)(v:Value)(s':Shared):Prop:=∃(σ:St) (H':Hp) (e C:Addr) (od:Option Addr) (q:Bool) (tb:Value) (oe:Obj) (vs:Array Value),v=.ref e/\ai X pins σ H' s' /\
 H' e=some (XO e C od q)/\oi s'.heap e C od tb oe vs q/\Sn s'.heap e tb/\(∀T,tb=.ref T->H' T=none/\X.s₀.heap.objs.size<=T/\∀p∈X.pn++pins,p.1≠T)/\(X.ex=[]->X.s₀.heap.get? e=none)/\Es σ (.ref C) (some e) H'
structure TK (X:Cx) (Es:St->XK):Prop where
 up:∀pins v s',Ss X pins Es v s'->X.xe v s'
structure TM (P:Program) (w:World) (K:W.Frag) (mg:Str->Option Value) (base:Heap) (x:Str) (k:Nat) (f:Addr) (fd:FuncData) (ps:List Str) (dvs:List V) (sp:Sp):Prop where
 g:mg x=some (.ref f)
 kp:W.keepIn K (.ref f)=true
 b:∃ds,aq K fd ps ds/\aL dvs ds
 ok:bA P w K mg base (zh P w) k f fd ps sp
structure TQ (P:Program) (w:World) (K:W.Frag) (mg:Str->Option Value) (base:Heap) (C:Addr) (m:Str) (k:Nat) (f:Addr) (fd:FuncData) (ps:List Str) (dvs:List V) (sp:Sp):Prop where
 c:dG K C
 mt:bw K C m f
 b:∃ds,aq K fd ps ds/\aL dvs ds
 ok:bA P w K mg base (zh P w) k f fd ps sp
structure TU (P:Program) (w:World) (K:W.Frag) (mg:Str->Option Value) (base:Heap) (x:Str) (C:Addr) (k:Nat) (f:Addr) (fd:FuncData) (ps:List Str) (dvs:List V) (sp:Sp):Prop where
 g:mg x=some (.ref C)
 mkx:Mk K C f
 b:∃ds,aq K fd ps ds/\aL dvs ds
 ok:bA P w K mg base (zh P w) k f fd ps sp
abbrev DM:List Value:=[.type "ValueError",.type "Exception",.type "BaseException",.type "object"]
structure mM (P:Program) (w:World) (K:W.Frag) (mg:Str->Option Value) (base:Heap) (x:Str) (C:Addr) (k:Nat) (f:Addr) (fd:FuncData) (ps:List Str) (dvs:List V) (sp:Sp):Prop where
 g:mg x=some (.ref C)
 mkx:Mk K C f
 b:∃ds,aq K fd ps ds/\aL dvs ds
 ok:bA P w K mg base bR k f fd ps sp
section
variable {X:Cx}{k j:Nat}{f C:Addr}{fd:FuncData}{ps:List Str}{sp:Sp}{x:Str}{p pos:Pos}{e:Expr}{es:List Expr}{t:TA}{dvs:List V}
theorem cb{t1 t2:TE}(h1:QE X e t1)(h2:QE X e t2):QE X e (λσ H Q=>t1 σ H Q\/t2 σ H Q) :=
 ⟨λpins s σ H Q I z=>z.elim (h1.h pins s σ H Q I) (h2.h pins s σ H Q I)⟩
theorem m8(F:mM X.prog X.w X.K X.mg X.base x C j f fd ps dvs sp)(hr:bW k X.A)(ha:QA X (e::es) t)(hj:j+1<=k:=by decide)(hg:Gl X x:=by rfl)(hdb:(x == ("__debug__" : Str))=false:=by decide)(hn:dY (e::es)=true:=by rfl) :
 QE X (.Call (.Name x p) (e::es) [] pos) (zR C sp dvs E0 t):=by
 obtain⟨ds,hb,hd⟩:=F.b;exact⟨J9 F.mkx F.ok (hr.mono hj) hg F.g hb hd pD ha.h hdb (bZ (eV hn).1) (iC (eV hn).2)⟩
end
end L2
namespace L2
open PySem PySem.Spec PyProof.Rows PySem.W
structure yY (K:W.Frag) (C:Addr):Prop where
 ga:findIn K (.ref C) "__getattribute__" = some (some (.builtin "BaseException.__getattribute__"))
 noga:findIn K (.ref C) "__getattr__" = some none
 base:mroIn K C (.type "BaseException")=some true
 obj:mroIn K C (.type "object")=some true
 hd:hasDictIn K C=true
 cls:findIn K (.ref C) "__class__" = some (some (.builtin "object.__class__"))
 clsG:specialIn K (.builtin "object.__class__") "__get__" = some (some (.builtin "getset_descriptor.__get__"))
 clsT:takesIn K (.builtin "object.__class__")=some true
inductive yZ (K:W.Frag) (H:Hp):V->Value->Prop where
 | of {x:V} {t:Value} (h:c7 K H x t):yZ K H x t
 | exc {e C:Addr} {q:Bool} (h:H e=some (XO e C none q)) (c:yY K C):yZ K H (.ref e) (.ref C)
def Dg(K:W.Frag)(C:Addr)(bmB:List Value)(newId:String):Bool:=match K.lookup C with
 | some ⟨.type "type",_,.cls cd,sl⟩=>(match cd.mro,sl.toList with
  | .ref C'::bm,[_,_,_,_,some (.builtin n),_]=>C' == C && (n == newId && (!cd.hasDel && (W.tailIn K bmB bm && W.nsOkIn K cd.ns)))
  | _,_=>false)
 | _=>false
structure D6 (K:W.Frag) (C f:Addr):Prop where
 x:Dg K C DM "ValueError.__new__" = true
 init:W.findIn K (.ref C) "__init__" = some (some (.ref f))
 fn:W.isFn K (.ref f)=true
 kp:W.keepIn K (.ref C)=true
structure TY (P:Program) (w:World) (K:W.Frag) (mg:Str->Option Value) (base:Heap) (x:Str) (C:Addr) (k:Nat) (f:Addr) (fd:FuncData) (ps:List Str) (sp:Sp):Prop where
 g:mg x=some (.ref C)
 mkx:D6 K C f
 b:aq K fd ps []
 ok:bA P w K mg base bR k f fd ps sp
section
variable {X:Cx}{pins:List (Addr × Obj)}{σ:St}{H:Hp}{s:Shared}{h':Heap}{e C d0:Addr}{fs:List (Str × V)}{f:Str}
structure TH (K:W.Frag) (C:Addr):Prop where
 x:Dg K C DM "ValueError.__new__" = true
 c:yY K C
 sa:W.findIn K (.ref C) "__setattr__" = some (some (.builtin "object.__setattr__"))
end
structure T1 (K:W.Frag) (Y:Addr):Prop where
 sp:W.specialIn K (.ref Y) "__getattribute__" = some (some (.builtin "type.__getattribute__"))
 rd:W.readsIn K Y (.type "type")=true
 fc:W.findCls K (.ref Y) (.type "type") "__init__" = some (.val (.builtin "ValueError.__init__"))
inductive D3 (K:W.Frag) (H:Hp):V->Value->Prop where
 | of {x:V} {t:Value} (h:yZ K H x t):D3 K H x t
 | exd {e C d0:Addr} {fs:List (Str × V)} (h:H e=some (XN e C (some d0))\/∃q,H e=some (XO e C (some d0) q)) (hd:H d0=some (.xd fs)) (c:yY K C):D3 K H (.ref e) (.ref C)
structure So (k:Nat) (A:Around):Prop where
 dp:A.depth+3*k+5<recursionLimit
 un:A.units+16*k+200<cLine
structure ze (P:Program) (w:World) (K:W.Frag) (mg:Str->Option Value) (base:Heap) (k:Nat) (f:Addr) (fd:FuncData) (ps:List Str) (sp:Sp):Prop where
 len:∀vs H Q E,sp vs H Q E->vs.length=ps.length
 run:∀(A:Around) (outer:List Env) (s:Shared) (H:Hp) (args:Args) (us:List Value) (vs:List V) (Q:VK) (E:XK),So k A->jk P w K mg base A outer s H->BindsTo s fd args (ps.zip us)->aL vs us->sp vs H Q E ->
  codeAny (model P w) A (.call (.ref f) args) (CR bR outer P w H s Q E) s
structure TX (P:Program) (w:World) (K:W.Frag) (mg:Str->Option Value) (base:Heap) (x:Str) (C:Addr) (k:Nat) (f:Addr) (fd:FuncData) (ps:List Str) (sp:Sp):Prop where
 g:mg x=some (.ref C)
 mkx:D6 K C f
 b:aq K fd ps []
 ok:ze P w K mg base k f fd ps sp
section
variable {X:Cx}{k j:Nat}{f C:Addr}{fd:FuncData}{ps:List Str}{sp:Sp}{x m:Str}{p pos:Pos}{e:Expr}{es:List Expr}{t:TA}{dvs:List V}{ds:List Value}{Es:St->XK}
structure TW (P:Program) (w:World) (K:W.Frag) (mg:Str->Option Value) (base:Heap) (x:Str) (k:Nat) (f:Addr) (fd:FuncData) (ps:List Str) (sp:Sp):Prop where
 g:mg x=some (.ref f)
 kp:W.keepIn K (.ref f)=true
 b:aq K fd ps []
 ok:ze P w K mg base k f fd ps sp
end
section
variable {X:Cx}{K:W.Frag}{o i value:Expr}{td ty tv:TE}{pos pos':Pos}
def Pf:R2:=λy x H Q=>∃a ov,x=.ref a/\da H a y ov/\Q (.bl (!ov.isSome)) H
theorem CW(hu:X.A.units+64<cLine):ba X (compareOp .NotIn) Pf:=by
 intro pins s σ H x y v u Q I rx ry q;obtain⟨a,ov,rfl,g,q⟩:=q;obtain rfl:u=Value.ref a:=ry;exact PR (by omega) I g rx λs' I'=>⟨.bl (!ov.isSome),H,I',rfl,q⟩
theorem tD(hu:X.A.units+64<cLine)(ho:QE X o td)(hi:QE X i ty)(hs:sf i:=by intro _ _;rfl):QE X (.Subscript o i pos) (zY td ty):=⟨Kh (by omega) ho.h hi.h hs⟩
theorem pA(hu:X.A.units+64<cLine)(ho:QE X o td)(hi:QE X i ty)(hv:QE X value tv)(hs:swapsWith value (some (.Subscript o i pos')) pos.line X.env=pure false:=by rfl):QS X (.Assign [.Subscript o i pos'] value pos) (AW td ty tv):=⟨JD (by omega) ho.h hi.h hv.h hs⟩
end
section
variable {X:Cx}{K:W.Frag}{k j:Nat}{f C:Addr}{fd:FuncData}{ps:List Str}{sp:Sp}{x m:Str}{p pos apos pos' tpos:Pos}{e o value:Expr}{es:List Expr}{ta tv:TE}{t:TA}
theorem Jf{f:Str}(h:X.K=K)(ha:QE X o ta)(hv:QE X value tv):QS X (.AugAssign (.Attribute o f tpos) .Add value pos) (AU K ta tv Bb f):=by subst h;exact⟨JA ha.h hv.h MR⟩
structure TR (P:Program) (w:World) (K:W.Frag) (mg:Str->Option Value) (base:Heap) (C:Addr) (m:Str) (k:Nat) (f:Addr) (fd:FuncData) (ps:List Str) (sp:Sp):Prop where
 c:dG K C
 mt:bw K C m f
 b:aq K fd ps []
 ok:ze P w K mg base k f fd ps sp
end
section
variable {X:Cx}{K:W.Frag}
def Pj:R2:=λy x H Q=>∃a ov,x=.ref a/\da H a y ov/\Q (.bl ov.isSome) H
theorem qk(hu:X.A.units+64<cLine):ba X (compareOp .In) Pj:=by
 intro pins s σ H x y v u Q I rx ry q;obtain⟨a,ov,rfl,g,q⟩:=q;obtain rfl:u=Value.ref a:=ry;exact PU (by omega) I g rx λs' I'=>⟨.bl ov.isSome,H,I',rfl,q⟩
def uu(K:W.Frag):V->List V->Hp->VK->Prop:=λx vs H Q=>∃(a:Addr) (y:V) (xs:List V) (j:Nat),x=.ref a/\vs=[y]/\H a=some (.lst xs)/\fX y=true/\xs.all fX=true/\(∃z,xs[j]? = some z/\dC z y=true)/\(∀i z,i<j->xs[i]? = some z->dC z y=false)/\Q (.int (j:Int)) H
theorem LS:gp X "list.index" (uu X.K):=by
 intro pins s σ H x vs v us Q I rx rs q;obtain⟨a,y,xs,j,rfl,rfl,hx,fy,fx,⟨z,hz,ez⟩,hno,q⟩:=q;cases rx;obtain⟨u,rfl,ru⟩:=iw rs;obtain⟨its,rv,pl,hsz⟩:=I.list (.of hx);have hl:=rv.length;have hj:j<its.length:=by have:=(Uk.mp hz).1;omega
 obtain⟨⟨ocl,odc,oda,osl⟩,n,e1,e2,e3,e4⟩:=pl;simp only at e2 e3 e4;subst e2 e3 e4;have at_:∀i (hi:i<its.toArray.size),∃z,xs[i]? = some z/\eX y its.toArray[i]=dC z y:=λi hi=>by
  have hi':i<xs.length:=by rw[Um]at hi;omega
  obtain⟨w,hw,rw'⟩:=rv.get (i:=i) (x:=xs[i]) (by simp[hi']);have e:its.toArray[i]=w:=by simpa using (Uk.mp hw).2
  refine⟨xs[i],by simp[hi'],?_⟩;rw[e];exact vY rw' (Vz.mp fx _ (Wn hi'))
 refine call_meets VC ⟨_,e1,Z⟩ PySem.F.entry_list_index (PySem.F.args_list_index_2 _ _)
  (SeqAt.list_indexAt a its.toArray n _ _ u (eX y) j (by simpa using hj) ?_ ?_ ?_) ⟨e1,λw hw=>mq ru fy rv fx w (by simpa using hw),⟨.int j,H,I.tok _,⟨_,rfl⟩,q⟩⟩
 ·have:sizeLine<=2 ^ 40:=by decide
  have:(2:Int) ^ 63=9223372036854775808:=by decide
  have:(2:Nat) ^ 40=1099511627776:=by decide
  omega
 ·obtain⟨z',h1,h2⟩:=at_ j (by simpa using hj);rw[hz]at h1;cases h1;rw[h2];exact ez
 ·intro i hi hij;obtain⟨z',h1,h2⟩:=at_ i hi;rw[h2];exact hno i z' hij h1
theorem pN (h:X.K=K):gp X "list.index" (uu K):=by subst h;exact LS
end
section
open HT
variable {prog:Program}{w:World}{A:Around}{E:Value->Shared->Prop}{s:Shared}
theorem N9{t sl:Addr}{items:Array Value}{vl vu:Value}{lo hi:Option Int}{Q:Value->Shared->Prop}(ht:IsTup s.heap t items)(hs:s.heap.IsSliceOf sl vl vu .none)(pl:IsPart vl lo)(pu:IsPart vu hi)
 (hw:sIx items.size 0 lo=0/\sIx items.size items.size hi=items.size) (h:Q (.ref t) s):wpAny (model prog w) A (getItem (.ref t) (.ref sl)) Q E s:=by
 obtain⟨os,hos,hcs,hds⟩:=id hs;have hTs:s.TypeIs (.ref sl) "slice":=⟨os,hos,hcs⟩;unfold getItem
 try with_reducible refine wpAny_holding ?_
 first|refine wpAny_bind (wpAny_pure ?_)|skip
 refine wpAny_bind (wpAny_sequenceKey ht.typeIs (by decide) ?_);refine wpAny_bind (wpAny_callSpecial?_slot (name:=Str.ofString "__getitem__") ht.typeIs Vl
  (wpAny_call_entry Vl ht.typeIs entry_tuple_getitem ?_ (args_tuple_getitem _ _)))
 show wpAny _ _ (Builtin.Tuple.tupleItemsOf (.ref t) >>= _) _ _ s;refine wpAny_bind (tupleItemsOf_ ht ?_);refine wpAny_bind (wpAny_typeOf hTs ?_);rw[if_pos (by decide)];refine wpAny_bind (AA hs pl pu ?_);have hyes:((((sIx items.size 0 lo:Nat):Int) == 0 && (1:Int) == 1 && (sIx items.size items.size hi-sIx items.size 0 lo) == items.size)=true):=by
  rw[hw.1,hw.2];simp
 show wpAny _ _ (if (((sIx items.size 0 lo:Nat):Int) == 0 && (1:Int) == 1 && (sIx items.size items.size hi-sIx items.size 0 lo) == items.size)=true then _ else _) _ _ s;rw[if_pos hyes];unfold Builtin.Tuple.tupleIsExact;refine wpAny_bind (wpAny_bind (wpAny_typeOf ht.typeIs (wpAny_pure ?_)));rw[if_pos (by decide)];refine wpAny_bind (wpAny_rule ?_)
 first
  | exact wpAny_pure ⟨_,rfl,wpAny_pure h⟩
  | exact wpAny_bind (wpAny_pure ⟨_,rfl,wpAny_pure h⟩)
  | exact wpAny_bind (wpAny_pure (wpAny_pure ⟨_,rfl,wpAny_pure h⟩))
end
section
variable {X:Cx}{K:W.Frag}{pos:Pos}
def Mc:TE:=λ_ H Q=>∀p H',bi H p (.dT []) H'->Q (.ref p) H'
theorem Bf:QE X (.Dict [] [] pos) Mc:=⟨Ke.imp λσ H Q q=>λp hp=>q p _ (.mk' hp)⟩
def C0(K:W.Frag):V->Option Int->Option Int->Hp->VK->Prop:=λx lo hi H Q=>match x with
 | .ref a=>∃xs,bo K H a xs/\H a=some (.tup xs)/\∀p H',aj H H'->H' p=some (.tup (dD xs lo hi))->Q (.ref p) H'
 | _=>False
theorem OG:jd X (C0 X.K):=by
 intro pins s σ H x v vl vu lo hi sl Q I rx hs pl pu q;cases x with
 | ref a =>
  obtain⟨xs,h1,h2,q⟩:=q;by_cases hw:HT.sIx xs.length 0 lo=0/\HT.sIx xs.length xs.length hi=xs.length
  ·cases rx;obtain⟨its,r,ht,hz⟩:=I.tuple h1;have hlen:its.toArray.size=xs.length:=by rw[Um];exact r.length.symm
   refine⟨"tuple",_,Vl.lookup,ht.typeIs,?_⟩;refine N9 ht hs pl pu (by rw[hlen];exact hw) ?_;refine⟨.ref a,H,I,Z,q a H (aj.refl _) ?_⟩;rw[h2];unfold dD;rw[hw.1,hw.2,VS,UU (by omega)]
  ·exact Ha pins s σ H _ v vl vu lo hi sl Q I rx hs pl pu ⟨a,xs,Z,h1,hw,λp hp=>q p _ (bi.mk' hp).sm (bi.mk' hp).at_⟩
 | _=>exact False.elim q
theorem CU(h:X.K=K):jd X (C0 K):=by subst h;exact OG
end
def iR(a b c:Int):Nat:=(Builtin.Range.rangeSize a b c).toNat
theorem Hd{a b c:Int}(ha : -1000000000<=a)(ha':a<=1000000000)(hb : -1000000000<=b)(hb':b<=1000000000)(hc:c≠0)(hc1 : -1000000<=c)(hc2:c<=1000000) :
 0<=Builtin.Range.rangeSize a b c/\Builtin.Range.rangeSize a b c<=2000000001:=by
 unfold Builtin.Range.rangeSize;by_cases h:c > 0
 ·rw[if_pos h]
  split
  ·have h0:0<=(b-a-1)/c:=VW (by omega) (by omega);have h1:(b-a-1)/c<=b-a-1:=VX _ (by omega);omega
  ·omega
 ·rw[if_neg h]
  split
  ·have h0:0<=(a-b-1)/(-c):=VW (by omega) (by omega);have h1:(a-b-1)/(-c)<=a-b-1:=VX _ (by omega);omega
  ·omega
theorem G6{a b c:Int}(ha : -1000000000<=a)(ha':a<=1000000000)(hb : -1000000000<=b)(hb':b<=1000000000)(hc:c≠0)(hc1 : -1000000<=c)(hc2:c<=1000000) :
 Builtin.Range.rangeSize a b c=((iR a b c:Nat):Int)/\Builtin.Range.small a b c=true:=by
 obtain⟨h0,h1⟩:=Hd ha ha' hb hb' hc hc1 hc2;refine⟨by unfold iR;omega,?_⟩;unfold Builtin.Range.small;generalize Builtin.Range.rangeSize a b c=k at h0 h1 ⊢;simp only [Builtin.Range.rangeFitsLong,UD,VA,decide_eq_true_eq,beq_iff_eq];refine⟨by omega,Or.inr ?_⟩
 split<;>(simp only [UD,decide_eq_true_eq];omega)
def Cf(ta:TA):TI:=λσ H R=>ta σ H λvs H1=>∃(a b c:Int),vs=[.int a,.int b,.int c]/\(-1000000000<=a/\a<=1000000000/\-1000000000<=b/\b<=1000000000/\c≠0/\-1000000<=c/\c<=1000000)/\R (jg a c (iR a b c)) H1
section
variable {X:Cx}{tg:Expr}
theorem JU {a b d:Expr} {ta:TA} {p pos:Pos} (hg:Gl X "range") (hm:X.mg "range" = none) (ha:PA X [a,b,d] ta) (hs:starEach [a,b,d] X.env=(false,eval a X.env)::starEach [b,d] X.env:=by rfl) (hpl:(backTo pos (starEach [b,d] X.env)).any (·.1)=false:=by rfl) :
 PI X tg (.Call (.Name "range" p) [a,b,d] [] pos) (Cf ta):=by
 intro pins s σ H R I h;refine Call_ (fW I hg hm boot_range (UX (aD (ha pos pins s σ H _ I h) λus s1 ⟨vs,H1,I1,r1,q1⟩=>?_) hs hpl));obtain⟨ia,ib,ic,e,⟨b1,b2,b3,b4,b5,b6,b7⟩,q⟩:=q1;subst e;cases r1 with
 | cons r rr =>
  cases rr with
  | cons r' rr =>
   cases rr with
   | cons r'' rr =>
    cases rr;obtain⟨t,rfl⟩:=r;obtain⟨t',rfl⟩:=r';obtain⟨t'',rfl⟩:=r'';obtain⟨e,sm⟩:=G6 b1 b2 b3 b4 b5 b6 b7;refine call_range_3 b5 ?_ (Or.inl (Wd (by omega)));refine wpAny_pyIter_range (IsRange.new ..) sm ?_;have I2:ai X pins σ H1 { s1 with heap:=s1.heap.push { cls:=.type "range",data:=.fields #[.int ia t,.int ib t',.int ic t''] },toks:=s1.toks }:=I1.kept λb o e=>Uj _ e;refine⟨_,[_],_,_,H1,Z,I2.kept (t':=s1.toks) λb o e=>Uj _ e,zA _ ia ic (iR ia ib ic),?_,λb hb=>?_,q⟩
    ·show IsRangeIter _ _ (ia+((0:Nat):Int)*_) (((iR ia ib ic:Nat):Int)-((0:Nat):Int)) _;have e1:ia+((0:Nat):Int)*ic=ia:=by simp
     have e2:(((iR ia ib ic:Nat):Int)-((0:Nat):Int))=Builtin.Range.rangeSize ia ib ic:=by rw[e];simp
     rw[e1,e2];exact UG _ Z
    ·have e:=Uq.mp hb;subst e;exact I2.fpOk (Ue _) (I2.hok.fresh (Ue _))
end
section
variable {X:Cx}{a b c:Expr}{t:TA}{p pos:Pos}
theorem IY {tg:Expr} (hg:Gl X "range") (hm:X.mg "range" = none) (ha:QA X [a,b,c] t) (hs:cL a=false:=by rfl) (hs2:cL b=false:=by rfl) (hs3:cL c=false:=by rfl):QI X tg (.Call (.Name "range" p) [a,b,c] [] pos) (Cf t) :=
 ⟨JU hg hm ha.h (bZ hs) (by rw[bZ hs2,bZ hs3];rfl)⟩
end
open PySem.AutoSeq1 (wpAny_loadPart')
open PySem.MeetsSeq
theorem MT(n:Int)(ns:List Int):bC (.int n) (ns.map V.int)=decide (n∈ns):=by
 induction ns with
 | nil=>rfl
 | cons m ns ih =>
  unfold bC at *;rw[UM,Vj,ih];simp only [dC,Uy];by_cases e:m=n
  ·simp[e]
  ·have:¬n=m:=λz=>e z.symm;simp[e,this]
section
variable {X:Cx}{o e:Expr}{apos cpos:Pos}{td ty:TE}
theorem Bh (hu:X.A.units+64<cLine) (ho:QE X o td) (he:QE X e ty) (hb:attributeBase o "get" X.env (eval o X.env)=eval o X.env:=by rfl)
 (hf:((backTo cpos (starEach [e] X.env)).all (λx=>!x.1) && (backToKw cpos (keywordEach [] X.env)).all (λx=>x.1.isSome)
   && decide (([e]:List Expr).length+([]:List Keyword).length+(if ([]:List Keyword).isEmpty then 0 else 1)<30))=true:=by rfl)
 (hl:(apos.endLine == cpos.line)=true:=by rfl) (ht:backTo cpos (starEach [e] X.env)=[(false,eval e X.env)]:=by rfl) :
 QE X (.Call (.Attribute o "get" apos) [e] [] cpos) (zX td ty):=⟨Kg (by omega) ho.h he.h ⟨hb,hf,hl,ht⟩⟩
end
section
variable {X:Cx}{K:W.Frag}
def Su(H:Hp)(y:V):Prop:=fX y=true\/∃a zs,y=.ref a/\H a=some (.lst zs)
end
def cT(m x:Nat):Nat:=(x*5+1)%m
def iI(m:Nat):Nat->Nat->Nat
 | 0,x=>x
 | n+1,x=>iI m n (cT m x)
theorem qc(m:Nat):∀(a b x:Nat),iI m (a+b) x=iI m b (iI m a x)
 | 0,b,x=>by rw[VD];rfl
 | a+1,b,x=>by rw[Nat.add_right_comm];exact qc m a b (cT m x)
def pE(m:Nat):Nat->Nat->Nat->Nat
 | 0,_,acc=>acc
 | n+1,x,acc=>pE m n (cT m x) (acc ||| (1 <<< x))
theorem By(m j:Nat):∀(n x acc:Nat),(pE m n x acc).testBit j=true->acc.testBit j=true\/∃k,k<n/\iI m k x=j
 | 0,x,acc,h=>.inl h
 | n+1,x,acc,h=>by
  rcases By m j n (cT m x) (acc ||| (1 <<< x)) h with h|⟨k,hk,e⟩
  ·rw[Nat.testBit_or,VA]at h;rcases h with h|h
   ·exact .inl h
   ·refine .inr ⟨0,by omega,?_⟩;rw[Nat.one_shiftLeft,Nat.testBit_two_pow]at h;exact of_decide_eq_true h
  ·exact .inr ⟨k+1,by omega,e⟩
def cO(m:Nat):Prop:=pE m m 0 0=2 ^ m-1/\iI m m 0=0
theorem cO.to0{m:Nat}(h:cO m){j:Nat}(hj:j<m):∃k,k<m/\iI m k 0=j:=by
 have:(pE m m 0 0).testBit j=true:=by rw[h.1,Nat.testBit_two_pow_sub_one];exact decide_eq_true hj
 rcases By m j m 0 0 this with z|z
 ·rw[Nat.zero_testBit]at z;cases z
 ·exact z
theorem cO.all{m:Nat}(h:cO m){i j:Nat}(hi:i<m)(hj:j<m):∃k,k<m/\iI m k i=j:=by
 obtain⟨a,ha,rfl⟩:=h.to0 hi;obtain⟨b,hb,rfl⟩:=h.to0 hj;by_cases c:a<=b
 ·exact⟨b-a,by omega,by rw[<- qc,Nat.add_sub_cancel' c]⟩
 ·refine⟨m-a+b,by omega,?_⟩;rw[<- qc,show a+(m-a+b)=m+b by omega,qc,h.2]
theorem zp:cO 8:=by unfold cO;decide +kernel
theorem Fj:cO 16:=by unfold cO;decide +kernel
theorem Fh:cO 32:=by unfold cO;decide +kernel
theorem Ff:cO 64:=by unfold cO;decide +kernel
theorem Fk:cO 128:=by unfold cO;decide +kernel
theorem Fi:cO 256:=by unfold cO;decide +kernel
theorem Fg:cO 512:=by unfold cO;decide +kernel
theorem Fl:cO 1024:=by unfold cO;decide +kernel
def ol(owner:Array (Option Nat))(j:Nat):Prop:=(owner.getD j (some 0)).isNone=false
theorem C6{mask:Nat}{owner:Array (Option Nat)}{f i p:Nat}(h:SetTable.layClean.free mask owner (f+1) i p=none):ol owner i/\SetTable.layClean.free mask owner f ((i*5+1+p/32)%(mask+1)) (p/32)=none:=by
 unfold SetTable.layClean.free at h
 split at h
 ·cases h
 ·rename_i e;refine⟨?_,h⟩;have hr:0∈List.range (SetTable.runEnd mask i+1-i):=U3.mpr (by unfold SetTable.runEnd;split<;>omega);have:=U9.mp e 0 hr;rw[Nat.add_zero]at this;exact Bool.eq_false_iff.mpr this
theorem C5{mask:Nat}{owner:Array (Option Nat)}:∀(f i:Nat),SetTable.layClean.free mask owner f i 0=none->∀k,k<f->ol owner (iI (mask+1) k i)
 | 0,_,_,k,hk=>absurd hk (VY _)
 | f+1,i,h,k,hk=>by
  obtain⟨a,b⟩:=C6 h;rw[show i*5+1+0/32=i*5+1 by omega,Nat.zero_div]at b;cases k with
  | zero=>exact a
  | succ k=>exact C5 f _ b k (by omega)
theorem C8{mask:Nat}{owner:Array (Option Nat)}:∀(n f i p:Nat),p<32 ^ n->SetTable.layClean.free mask owner (f+n) i p=none->i<mask+1->∃i',i'<mask+1/\SetTable.layClean.free mask owner f i' 0=none
 | 0,f,i,p,hp,h,hi=>by
  obtain rfl:p=0:=by rw[Nat.pow_zero]at hp;omega
  exact⟨i,hi,h⟩
 | n+1,f,i,p,hp,h,hi=>by
  obtain⟨_,b⟩:=C6 (f:=f+n) h;exact C8 n f _ (p/32) (Nat.div_lt_of_lt_mul (by rw[Nat.pow_succ,Nat.mul_comm]at hp;exact hp)) b (Nat.mod_lt _ (by omega))
theorem Pl{mask:Nat}{owner:Array (Option Nat)}{h:Int}(wh:cO (mask+1)){j:Nat}(hj:j<mask+1)(hn:¬ol owner j):∃j',SetTable.layClean.free mask owner (SetTable.turns mask) (SetTable.bits h%(mask+1)) (SetTable.bits h)=some j':=by
 cases e:SetTable.layClean.free mask owner (SetTable.turns mask) (SetTable.bits h%(mask+1)) (SetTable.bits h) with
 | some j'=>exact⟨j',rfl⟩
 | none =>
  exfalso
  have hb:SetTable.bits h<32 ^ 13:=by
   unfold SetTable.bits;have:=Int.emod_lt_of_pos h (show (0:Int)<2 ^ 64 by decide);have:=Int.emod_nonneg h (show (2 ^ 64:Int)≠0 by decide);have e:(32:Nat) ^ 13=2*2 ^ 64:=by decide
   rw[e];omega
  obtain⟨i',hi',e'⟩:=C8 (mask:=mask) (owner:=owner) 13 (mask+2) _ _ hb (show SetTable.layClean.free mask owner (SetTable.turns mask) (SetTable.bits h%(mask+1)) (SetTable.bits h)=none from e) (Nat.mod_lt _ (by omega));obtain⟨k,hk,rfl⟩:=wh.all hi' hj;exact hn (C5 _ _ e' k (by omega))
theorem C7{mask:Nat}{owner:Array (Option Nat)}:∀(f i p j:Nat),SetTable.layClean.free mask owner f i p=some j->owner.getD j (some 0)=none
 | 0,_,_,_,h=>by unfold SetTable.layClean.free at h;cases h
 | f+1,i,p,j,h=>by
  unfold SetTable.layClean.free at h
  split at h
  ·rename_i k e;cases h;have:=VE e;exact W9.mp this
  ·exact C7 f _ _ j h
theorem Hj{l:List (Option Nat)}{j k:Nat}(h:l[j]? = some none):List.Perm ((l.set j (some k)).filterMap id) (k::l.filterMap id):=by
 induction l generalizing j with
 | nil=>cases h
 | cons a l ih =>
  cases j with
  | zero =>
   cases h;exact .rfl
  | succ j =>
   have h:l[j]? = some none:=h;cases a with
   | none=>exact ih h
   | some b =>
    show List.Perm (b::(l.set j (some k)).filterMap id) (k::b::l.filterMap id);exact ((ih h).cons b).trans (List.Perm.swap ..)
theorem M8{l:List (Option Nat)}(h:(l.filterMap id).length<l.length):∃j,j<l.length/\l[j]? = some none:=by
 induction l with
 | nil=>cases h
 | cons a l ih =>
  cases a with
  | none=>exact⟨0,Wz _,rfl⟩
  | some b =>
   have h:(l.filterMap id).length+1<l.length+1:=h;obtain⟨j,hj,e⟩:=ih (by omega);exact⟨j+1,Nat.succ_lt_succ hj,e⟩
def pX(mask:Nat)(acc:Option (Array (Option Nat) × Nat))(h:Int):Option (Array (Option Nat) × Nat):=do
 let (owner,k) <- acc
 let j <- SetTable.layClean.free mask owner (SetTable.turns mask) (SetTable.bits h%(mask+1)) (SetTable.bits h)
 pure (owner.setIfInBounds j (some k),k+1)
theorem Mq{mask:Nat}(wh:cO (mask+1)){owner:Array (Option Nat)}{k:Nat}(h:Int)(sz:owner.size=mask+1)(pm:List.Perm (owner.toList.filterMap id) (List.range k))(lt:k<mask+1) :
 ∃owner',pX mask (some (owner,k)) h=some (owner',k+1)/\owner'.size=mask+1/\List.Perm (owner'.toList.filterMap id) (List.range (k+1)):=by
 have lt':(owner.toList.filterMap id).length<owner.toList.length:=by rw[pm.length_eq,UP,UF,sz];exact lt
 obtain⟨j0,hj0,e0⟩:=M8 lt';rw[UF,sz]at hj0;have nt:¬ol owner j0:=by
  unfold ol;rw[WA,<- VP,e0]
  decide
 obtain⟨j,hj⟩:=Pl (h:=h) wh hj0 nt;have fj:=C7 _ _ _ _ hj;have ej:owner.toList[j]? = some none:=by
  rw[WA,<- VP]at fj;cases e:owner.toList[j]? with
  | none=>rw[e]at fj;cases fj
  | some v=>rw[e]at fj;exact congrArg some fj
 refine⟨owner.setIfInBounds j (some k),?_,?_,?_⟩
 ·unfold pX;simp only [Option.bind_eq_bind,Option.bind_some];rw[hj]
  rfl
 ·rw[Array.size_setIfInBounds];exact sz
 ·rw[Array.toList_setIfInBounds];refine (Hj ej).trans ((pm.cons k).trans ?_);rw[Vc];exact (List.perm_append_singleton k (List.range k)).symm
theorem B4{mask:Nat}(wh:cO (mask+1)):∀(hs:List Int) (owner:Array (Option Nat)) (k:Nat),owner.size=mask+1->List.Perm (owner.toList.filterMap id) (List.range k)->k+hs.length<=mask+1 ->
 ∃owner',hs.foldl (pX mask) (some (owner,k))=some (owner',k+hs.length)/\owner'.size=mask+1/\List.Perm (owner'.toList.filterMap id) (List.range (k+hs.length))
 | [],owner,k,sz,pm,_=>⟨owner,rfl,sz,pm⟩
 | h::hs,owner,k,sz,pm,le=>by
  rw[UB]at le;obtain⟨o1,e1,sz1,pm1⟩:=Mq wh h sz pm (by omega);obtain⟨o2,e2,sz2,pm2⟩:=B4 wh hs o1 (k+1) sz1 pm1 (by omega);refine⟨o2,?_,sz2,?_⟩
  ·rw[Vn,e1,e2,UB,Nat.add_right_comm,Nat.add_assoc]
  ·rw[UB,show k+(hs.length+1)=k+1+hs.length by omega];exact pm2
theorem Iz(o:Array (Option Nat)):((List.range o.size).filterMap λj=>(o.getD j none).map λk=>(j,k)).map (λx=>x.2)=o.toList.filterMap id:=by
 rw[List.map_filterMap];have e:(λj=>Option.map (λx:Nat × Nat=>x.2) ((o.getD j none).map λk=>(j,k)))=λj=>(o[j]?).bind id:=by
  funext j
  rw[WA];cases o[j]? with
  | none=>rfl
  | some v=>cases v<;>rfl
 rw[e];have e2:=filterMap_getElem?_range o;rw[<- e2,List.filterMap_filterMap]
theorem B5{mask finger moves:Nat}{led plain:Bool}{hs:Array Int}(wh:cO (mask+1))(le:hs.size<=mask+1):∃t order,SetTable.laid mask finger moves led plain hs=some (t,order)/\t.mask=mask/\t.place.size=hs.size/\t.dummies = #[]/\List.Perm order.toList (List.range hs.size):=by
 obtain⟨o,e,sz,pm⟩:=B4 wh hs.toList (Array.replicate (mask+1) none) 0 (Array.size_replicate ..) (by
  rw[Array.toList_replicate];have:∀n:Nat,(List.replicate n (none:Option Nat)).filterMap id=[]:=λn=>by
   induction n with
   | zero=>rfl
   | succ n ih=>rw[Vm];exact ih
  rw[this];exact .rfl) (by rw[UF];omega)
 have ec:SetTable.layClean mask hs=some o:=by
  show Option.map _ (hs.foldl (pX mask) (some (Array.replicate (mask+1) none,0)))=_;rw[<- Array.foldl_toList,e]
  rfl
 have er:=Iz o;rw[sz]at er;rw[UF,VD]at pm;refine⟨_,_,by unfold SetTable.laid;rw[ec];rfl,rfl,?_,rfl,?_⟩
 ·rw[Um,Uc,<- Uc (f:=λx:Nat × Nat=>x.2),er,pm.length_eq,UP]
 ·show List.Perm (List.map _ _) _;rw[er];exact pm
section
variable {prog:Program}{w:World}{A:Around}{E:Value->Shared->Prop}{s:Shared}
theorem vX{α:Type}:∀ {l:List α} {i:Nat} (h:i<l.length),List.Perm (l[i]::l.eraseIdx i) l
 | a::l,0,_=>.rfl
 | a::l,i+1,h=>by
  have h:i<l.length:=Nat.lt_of_succ_lt_succ h;show List.Perm (l[i]::a::l.eraseIdx i) (a::l);exact (List.Perm.swap ..).trans ((vX h).cons a)
theorem Bl{α:Type}(next:Nat->Nat):∀(fuel k:Nat) (left:List α) (out:Array α),left.length=fuel->List.Perm (pickOrder.go next fuel k left out).toList (out.toList++left)
 | 0,k,left,out,h=>by
  obtain rfl:=VZ h;unfold pickOrder.go;rw[UC]
 | fuel+1,k,left,out,h=>by
  unfold pickOrder.go;have lt:next k%left.length<left.length:=Nat.mod_lt _ (by omega)
  rw[UL lt];dsimp only;refine (Bl next fuel (k+1) _ _ (by rw[W1 lt];omega)).trans ?_;rw[Array.toList_push,UN];refine List.Perm.append_left _ ?_;exact vX lt
theorem JR{α:Type}(next:Nat->Nat)(xs:Array α):List.Perm (pickOrder next xs).toList xs.toList:=by
 have:=Bl next xs.size 0 xs.toList #[] (UF ..)
 exact this
def oN(w:World):Bool:=w.params.followText "set-order"
theorem zm{Q:Bool->Shared->Prop}(h:Q (oN w) s):wpAny (model prog w) A setsByText Q E s:=by
 unfold setsByText;exact wpAny_bind (wpAny_askSetting (wpAny_pure h))
structure SI (prog:Program) (w:World) (h:Heap) (a:Addr) (o:Obj) (es:Array (Int × Value)) (ep:Nat) (t:SetTable):Prop where
 ho:h.get? a=some o
 hex:o.ExactSet
 hd:o.data=.set es ep t
 hel:ElemsOf (intKind prog w) es.toList
 hb:es.size<scanBound
 hf:t.fits es.size=true
theorem SI.at{h h':Heap}{a:Addr}{o:Obj}{es:Array (Int × Value)}{ep:Nat}{t:SetTable}(I:SI prog w h a o es ep t)(e:h'.get? a=some o):SI prog w h' a o es ep t:=⟨e,I.hex,I.hd,I.hel,I.hb,I.hf⟩
theorem Pz:∀(l:List (Int × Value)),ElemsOf (intKind prog w) l->∀e∈l,∃i t,e.2=.int i t:=λl h e he=>by
 obtain⟨⟨k,hk,_⟩,_⟩:=h e he;obtain⟨t,e⟩:=Value.isInt_shape hk;exact⟨k,t,e⟩
theorem E8{Q:Bool->Shared->Prop}(sets:List Addr)(hs:∀b∈sets,∃o es ep t,SI prog w s.heap b o es ep t)(h:Q true s):wpAny (model prog w) A (setsQuiet sets) Q E s:=by
 unfold setsQuiet;refine wpAny_bind ?_;refine wpAny_forIn_list _ (λl b s'=>s'=s/\b=⟨none,⟨⟩⟩/\∀x∈l,∃o es ep t,SI prog w s.heap x o es ep t) _ ?_ ?_ sets _ ⟨rfl,rfl,hs⟩
 ·rintro x bH b s' ⟨rfl,rfl,hl⟩;obtain⟨o,es,ep,t,I⟩:=hl x (Uv ..);refine wpAny_bind (wpAny_setEntries_of I.ho I.hd I.hf ?_);dsimp only;refine wpAny_bind ?_;refine W2 _ (λl b s''=>s''=s'/\b=(none,())/\ElemsOf (intKind prog w) l) _ ?_ ?_ es _ ⟨rfl,rfl,I.hel⟩
  ·rintro e rest' b s'' ⟨rfl,rfl,he⟩;obtain⟨i,tk,ei⟩:=Pz _ he e (Uv ..);rw[ei];exact wpAny_pure ⟨rfl,rfl,he.tail⟩
  ·rintro b s'' ⟨rfl,rfl,_⟩;exact wpAny_pure ⟨rfl,rfl,λy hy=>hl y (Uw _ hy)⟩
 ·rintro b s' ⟨rfl,rfl,_⟩;exact wpAny_pure h
theorem E5{a:Addr}{o:Obj}{es:Array (Int × Value)}{ep:Nat}{t:SetTable}{Q:Array (Int × Value)->Shared->Prop}(I:SI prog w s.heap a o es ep t)(c:oN w=true\/(t.led=true/\t.plain=true)\/es.size<=1)
 (h:∀es',List.Perm es'.toList es.toList->Q es' s):wpAny (model prog w) A (setWalk a) Q E s:=by
 unfold setWalk;refine wpAny_bind (wpAny_setState_of I.ho I.hd I.hf ?_);dsimp only;refine wpAny_bind (zm ?_);cases b:oN w with
 | true =>
  simp only [↓reduceIte];exact wpAny_bind (wpAny_askSetting (wpAny_pure (h _ (JR _ _))))
 | false =>
  have c:(t.led=true/\t.plain=true)\/es.size<=1:=c.resolve_left (by rw[b];decide);simp only [US,↓reduceIte];have nd:(!t.plain && decide (es.size > 1))=false:=by
   rcases c with c|c
   ·rw[c.2];rfl
   ·rw[decide_eq_false (by omega),Wl]
  have nl:(!t.led && decide (es.size > 1))=false:=by
   rcases c with c|c
   ·rw[c.1];rfl
   ·rw[decide_eq_false (by omega),Wl]
  show wpAny _ _ (if (!t.plain && decide (es.size > 1))=true then _ else (do (if (!t.led && decide (es.size > 1))=true then unsupported "set:maker-not-led" else pure ());pure es)) Q E s;rw[nd,nl];simp only [US,↓reduceIte];exact wpAny_bind (wpAny_pure (wpAny_pure (h _ .rfl)))
theorem zi{a:Addr}{others:List Addr}{filled:Option Addr}{o:Obj}{es:Array (Int × Value)}{ep:Nat}{t:SetTable}{Q:Array (Int × Value)->Shared->Prop}(I:SI prog w s.heap a o es ep t)
 (hO:∀b∈others,∃o es ep t,SI prog w s.heap b o es ep t) (hF:∀f,filled=some f->∃o es ep t,SI prog w s.heap f o es ep t)
 (h:∀es',List.Perm es'.toList es.toList->Q es' s) (hf:∀f o ef epf tf tf',filled=some f->SI prog w s.heap f o ef epf tf->tf'.fits ef.size=true->Q es { s with heap:=s.heap.update f (Obj.putSet ef tf') }) :
 wpAny (model prog w) A (setWalkUnseen a others filled) Q E s:=by
 unfold setWalkUnseen;refine wpAny_bind (wpAny_setState_of I.ho I.hd I.hf ?_);dsimp only;refine wpAny_bind (zm ?_);by_cases c:(oN w || (t.led && t.plain) || decide (es.size<=1))=true
 ·rw[if_pos c];refine E5 I ?_ h;simp only [VA,UD,decide_eq_true_eq]at c;rcases c with (c|c)|c
  ·exact .inl c
  ·exact .inr (.inl c)
  ·exact .inr (.inr c)
 ·rw[if_neg c];refine wpAny_bind (E8 (a::others) (λb hb=>?_) ?_)
  ·rcases Uy.mp hb with rfl|hb
   ·exact⟨o,es,ep,t,I⟩
   ·exact hO b hb
  simp only [VF,US,↓reduceIte];refine wpAny_bind (wpAny_rule ?_);cases filled with
  | none=>exact wpAny_pure (h es .rfl)
  | some f =>
   obtain⟨of,ef,epf,tf,J⟩:=hF f rfl;dsimp only;refine wpAny_bind (wpAny_setState_of J.ho J.hd J.hf ?_);dsimp only
   split
   ·refine wpAny_bind (wpAny_storeSet_of J.ho J.hd (wpAny_pure (hf f of ef epf tf _ Z J ?_)) (fits_of_scanBound J.hb));exact J.hf
   ·exact wpAny_pure (h es .rfl)
theorem SI.setOf{h:Heap}{a:Addr}{o:Obj}{es:Array (Int × Value)}{ep:Nat}{t:SetTable}(I:SI prog w h a o es ep t):h.SetOf (intKind prog w) a (λk=>es.toList.any λe=>Value.isInt k e.2) es.size :=
 ⟨o,es,ep,t,I.ho,I.hex,I.hd,I.hel,λk=>U2,I.hb,I.hf,rfl⟩
theorem SI.of{h:Heap}{a:Addr}{S:Int->Bool}{n:Nat}(hS:h.SetOf (intKind prog w) a S n):∃o es ep t,SI prog w h a o es ep t/\(∀k,S k=true ↔ ∃e∈es.toList,Value.isInt k e.2=true)/\es.size=n:=by
 obtain⟨o,es,ep,t,ho,hex,hd,hel,hm,hb,hf,hn⟩:=hS;exact⟨o,es,ep,t,⟨ho,hex,hd,hel,hb,hf⟩,hm,hn⟩
theorem SI.ty {a:Addr} {o:Obj} {es:Array (Int × Value)} {ep:Nat} {t:SetTable} (I:SI prog w s.heap a o es ep t):s.TypeIs (.ref a) "set":=⟨o,I.ho,I.hex.1⟩
theorem SI.put{h:Heap}{a:Addr}{o:Obj}{es es':Array (Int × Value)}{ep:Nat}{t t':SetTable}(I:SI prog w h a o es ep t)(hel:ElemsOf (intKind prog w) es'.toList)(hb:es'.size<scanBound)(hf:t'.fits es'.size=true) :
 SI prog w (h.update a (Obj.putSet es' t')) a { o with data:=.set es' (ep+1) t' } es' (ep+1) t' :=
 ⟨(SetOf_store (knd:=intKind prog w) (S':=λk=>es'.toList.any λe=>Value.isInt k e.2) I.ho I.hex I.hd hel (λk=>U2) hb hf).1,I.hex,rfl,hel,hb,hf⟩
theorem oC{a:Addr}{o:Obj}{es:Array (Int × Value)}{ep:Nat}{t:SetTable}{Q:Nat->Shared->Prop}(I:SI prog w s.heap a o es ep t)(h:Q es.size s):wpAny (model prog w) A (Builtin.Frozenset.sizeOf a) Q E s:=by
 unfold Builtin.Frozenset.sizeOf;exact wpAny_bind (wpAny_setEntries_of I.ho I.hd I.hf (wpAny_pure h))
theorem oE {a:Addr} {Q:Bool->Shared->Prop} (hT:s.TypeIs (.ref a) "set") (h:Q true s):wpAny (model prog w) A (Builtin.Frozenset.isAnySet (.ref a)) Q E s:=by
 unfold Builtin.Frozenset.isAnySet;unfold orM;exact wpAny_bind (wpAny_isInstance hT sub_set_self (wpAny_pure h))
theorem zn {a:Addr} {Q:Value->Shared->Prop} (hT:s.TypeIs (.ref a) "set") (h:Q (.type "set") s):wpAny (model prog w) A (Builtin.Frozenset.baseOf a) Q E s:=by
 unfold Builtin.Frozenset.baseOf;exact wpAny_bind (wpAny_isInstance hT sub_set_self (wpAny_pure h))
theorem sE{id:String}{a:Addr}{o:Obj}{es:Array (Int × Value)}{ep:Nat}{t:SetTable}{Q:Unit->Shared->Prop}(I:SI prog w s.heap a o es ep t)(h:Q () s):wpAny (model prog w) A (Builtin.Frozenset.unchanged id a ep) Q E s:=by
 unfold Builtin.Frozenset.unchanged;refine wpAny_bind (wpAny_setEpoch_of I.ho I.hd I.hf ?_);rw[bne_self_eq_false];exact wpAny_pure h
def Ky(l:List (Int × Value))(k:Int):Prop:=∃e∈l,Value.isInt k e.2=true
theorem pY{l l':List (Int × Value)}(p:List.Perm l l')(k:Int):Ky l k ↔ Ky l' k:=⟨λ⟨e,he,h⟩=>⟨e,p.mem_iff.mp he,h⟩,λ⟨e,he,h⟩=>⟨e,p.mem_iff.mpr he,h⟩⟩
theorem Fe{id:String}{a b r:Addr}{oa:Obj}{ea:Array (Int × Value)}{epa:Nat}{ta:SetTable}{Sb:Int->Bool}{nb:Nat}{wk:List (Int × Value)}{Q:Unit->Shared->Prop}
 (IA:SI prog w s.heap a oa ea epa ta) (HB:s.heap.SetOf (intKind prog w) b Sb nb) (HR:s.heap.SetOf (intKind prog w) r (λ_=>false) 0) (nra:r≠a) (nrb:r≠b) (hw:ElemsOf (intKind prog w) wk) (hz:wk.length+1<scanBound)
 (h:∀h' S n,Heap.SameBut r s.heap h'->h'.SetOf (intKind prog w) r S n->(∀k,S k=true ↔ Ky wk k/\Sb k=false)->Q () { s with heap:=h' }) :
 wpAny (model prog w) A (forIn wk PUnit.unit λx _=>do
  holding [x.2] (do
   let d <- setFind b x.2 x.1
   let there <- pure d.isSome
   if (!there)=true then do
    let _ <- setAddHashed r x.2 x.1
    pure PUnit.unit
   else pure PUnit.unit)
  Builtin.Frozenset.unchanged id a epa
  pure (ForInStep.yield PUnit.unit)) (λ_=>Q ()) E s:=by
 refine wpAny_forIn_list _ (λbH b' s'=>∃h' S n done,s' = { s with heap:=h' }/\Heap.SameBut r s.heap h'/\h'.SetOf (intKind prog w) r S n/\done++bH=wk/\n<=done.length/\∀k,S k=true ↔ Ky done k/\Sb k=false) _ ?_ ?_ wk _ ⟨s.heap,_,0,[],rfl,Ve _ _,HR,rfl,Ue _,λk=>⟨λz=>Bool.noConfusion z,λ⟨⟨e,he,_⟩,_⟩=>nomatch he⟩⟩
 ·rintro x bH u s' ⟨h',S,n,done,rfl,sb,hR,ed,ln,hk⟩;have hx:x∈wk:=by rw[<- ed];exact UA _ (Uv ..)
  have ll:=congrArg List.length ed;rw[Ud,UB]at ll;obtain⟨⟨k,hkx,hh⟩,sc⟩:=hw x hx;have IA':∀h'',h''.get? a=h'.get? a->SI prog w h'' a oa ea epa ta:=λh'' e=>IA.at (by rw[e,sb.2 a (Ne.symm nra)];exact IA.ho);have HB':h'.SetOf (intKind prog w) b Sb nb:=by
   obtain⟨o,es,ep,t,ho,z⟩:=HB;exact⟨o,es,ep,t,by rw[sb.2 b (Ne.symm nrb)];exact ho,z⟩
  have ks:∀k',Ky (done++[x]) k' ↔ Ky done k'\/k'=k:=λk'=>by
   constructor
   ·rintro⟨e,he,z⟩;rcases Us.mp he with y|y
    ·exact .inl ⟨e,y,z⟩
    ·rw[Uq.mp y]at z;exact .inr (Value.isInt_inj _ _ _ z hkx)
   ·rintro (⟨e,he,z⟩|rfl)
    ·exact⟨e,UQ _ he,z⟩
    ·exact⟨x,UA _ (Uq.mpr Z),hkx⟩
  rw[hh];refine wpAny_bind (wpAny_holding (wpAny_bind (wpAny_setFind_of (s:={ s with heap:=h' }) hkx sc HB' λr' hr'=>wpAny_bind (wpAny_pure ?_))));rw[hr'];cases hSb:Sb k with
  | true =>
   simp only [VF,US,↓reduceIte];refine wpAny_pure (wpAny_bind (sE (s:={ s with heap:=h' }) (IA' h' rfl) (wpAny_pure ⟨h',S,n,done++[x],rfl,sb,hR,by rw[UN];exact ed,by rw[Ud];exact Nat.le_succ_of_le ln,λk'=>?_⟩)));rw[hk k',ks k'];exact⟨λ⟨y,z⟩=>⟨.inl y,z⟩,λ⟨y,z⟩=>⟨y.resolve_right (λe=>by rw[e,hSb]at z;cases z),z⟩⟩
  | false =>
   simp only [Bool.not_false,↓reduceIte];refine wpAny_bind (wpAny_setAddHashed_of (s:={ s with heap:=h' }) hkx sc hR (by omega) λh'' sb2 hS'=>wpAny_pure (wpAny_bind (sE (s:={ s with heap:=h'' }) (IA' h'' (sb2.2 a (Ne.symm nra))) (wpAny_pure ⟨h'',_,_,done++[x],rfl,sb.trans sb2,hS',by rw[UN];exact ed,?_,λk'=>?_⟩))))
   ·rw[Ud];show _<=_+1
    split<;>omega
   ·rw[VA,decide_eq_true_eq,hk k',ks k'];exact⟨λz=>z.elim (λy=>⟨.inl y.1,y.2⟩) (λe=>⟨.inr e,by rw[e];exact hSb⟩),λ⟨y,z⟩=>y.elim (λy=>.inl ⟨y,z⟩) .inr⟩
 ·rintro u s' ⟨h',S,n,done,rfl,sb,hR,ed,ln,hk⟩;rw[UC]at ed;exact h h' S n sb hR (by rw[<- ed];exact hk)
theorem D1:∀n,n<1001->(SetTable.sizeAbove n=8\/SetTable.sizeAbove n=16\/SetTable.sizeAbove n=32\/SetTable.sizeAbove n=64\/SetTable.sizeAbove n=128\/SetTable.sizeAbove n=256\/SetTable.sizeAbove n=512\/SetTable.sizeAbove n=1024)/\n<SetTable.sizeAbove n:=by decide +kernel
theorem DZ{n:Nat}(h:n<1001):cO (SetTable.sizeAbove n-1+1)/\n<=SetTable.sizeAbove n-1/\SetTable.sizeAbove n<=1024:=by
 obtain⟨a,b⟩:=D1 n h;refine⟨?_,by omega,by rcases a with a|a|a|a|a|a|a|a<;>rw[a]<;>decide⟩;rw[show SetTable.sizeAbove n-1+1=SetTable.sizeAbove n by omega];rcases a with a|a|a|a|a|a|a|a<;>rw[a]
 ·exact zp
 ·exact Fj
 ·exact Fh
 ·exact Ff
 ·exact Fk
 ·exact Fi
 ·exact Fg
 ·exact Fl
theorem Bx{es:Array (Int × Value)}{order:Array Nat}(p:List.Perm order.toList (List.range es.size)):List.Perm (order.filterMap λi=>es[i]?).toList es.toList:=by
 rw[Array.toList_filterMap];exact (p.filterMap _).trans (by rw[filterMap_getElem?_range])
theorem pB{es es':Array (Int × Value)}(p:List.Perm es'.toList es.toList):es'.size=es.size:=by rw[<- UF,p.length_eq,UF]
theorem qv{t:SetTable}{n:Nat}(h1:t.place.size=n)(h2:t.place.size+t.dummies.size<=t.mask):t.fits n=true:=by
 unfold SetTable.fits SetTable.fill;rw[UD,beq_iff_eq,decide_eq_true_eq];exact⟨h1,h2⟩
theorem qu{t:SetTable}{n:Nat}(h:t.fits n=true):t.place.size=n/\t.place.size+t.dummies.size<=t.mask:=by
 unfold SetTable.fits SetTable.fill at h;rw[UD,beq_iff_eq,decide_eq_true_eq]at h;exact h
theorem zl{es es':Array (Int × Value)}{t':SetTable}{Q:Array (Int × Value) × SetTable->Shared->Prop}{x:Sem (Array (Int × Value) × SetTable)}(sz:es'.size=es.size)(h:Q (es',t') s) :
 wpAny (model prog w) A (if (es'.size != es.size)=true then x else pure (es',t')) Q E s:=by
 rw[sz,bne_self_eq_false,if_neg Ut];exact wpAny_pure h
theorem zk{r:Addr}{o:Obj}{es:Array (Int × Value)}{ep:Nat}{t:SetTable}{wanted:Nat}{Q:Unit->Shared->Prop}(I:SI prog w s.heap r o es ep t)(hw:wanted<1001)(hn:es.size<=wanted\/es.size<=7)
 (h:∀o' es' ep' t' h',Heap.SameBut r s.heap h'->SI prog w h' r o' es' ep' t'->List.Perm es'.toList es.toList->t'.mask=SetTable.sizeAbove wanted-1->t'.dummies = #[]->Q () { s with heap:=h' }):wpAny (model prog w) A (setRelay r wanted) Q E s:=by
 obtain⟨wh,ge,le⟩:=DZ hw;have m7:7<=SetTable.sizeAbove wanted-1:=by
  obtain⟨a,_⟩:=D1 wanted hw;rcases a with a|a|a|a|a|a|a|a<;>rw[a]<;>decide
 unfold setRelay;refine wpAny_bind (wpAny_setState_of I.ho I.hd I.hf ?_);dsimp only;rw[if_neg (by rw[sizeLine_eq];omega)];unfold SetTable.relaid;obtain⟨t',order,el,em,ep',ed,pm⟩:=B5 (mask:=SetTable.sizeAbove wanted-1) (finger:=t.finger) (moves:=t.movedTo (SetTable.sizeAbove wanted-1)) (led:=t.led) (plain:=t.plain) (hs:=es.map λe=>e.1) wh (by rw[V0];omega);rw[V0]at ep' pm;have pe:=Bx pm;have sz:=pB pe;rw[el];refine wpAny_bind ?_;exact zl (es':=order.filterMap λi=>es[i]?) (t':=t') sz (wpAny_storeSet_of I.ho I.hd (h _ _ _ _ _ (VG s.heap r _) (I.put (I.hel.perm pe) (by rw[sz];exact I.hb) (qv (by rw[ep',sz]) (by rw[ep',ed,em];show _+0<=_;omega))) pe em ed) (fits_of_scanBound (by rw[sz];exact I.hb)))
theorem E9{a r:Addr}{oa or:Obj}{ea:Array (Int × Value)}{epa epr:Nat}{ta tr:SetTable}{Q:Unit->Shared->Prop}(IA:SI prog w s.heap a oa ea epa ta)(IR:SI prog w s.heap r or #[] epr tr)(fr:tr.mask=7/\tr.dummies = #[])(ne:r≠a)(ln:ea.size<=250)
 (h:∀o' es' ep' t' h',Heap.SameBut r s.heap h'->SI prog w h' r o' es' ep' t'->List.Perm es'.toList ea.toList->Q () { s with heap:=h' }):wpAny (model prog w) A (setMerge r a) Q E s:=by
 have pl0:tr.place.size=0:=(qu IR.hf).1;unfold setMerge;have n1:(r == a)=false:=by rw[beq_eq_false_iff_ne];exact ne
 rw[n1];simp only [US,↓reduceIte];refine wpAny_bind (wpAny_setState_of IA.ho IA.hd IA.hf ?_);dsimp only;by_cases em:ea.isEmpty=true
 ·rw[if_pos em];have e0:s = { s with heap:=s.heap }:=by cases s;rfl
  refine wpAny_pure ?_;rw[e0];exact h or #[] epr tr s.heap (Ve _ _) IR (by rw[Array.isEmpty_iff.mp em])
 ·rw[if_neg em];unfold setRoomFor;refine wpAny_bind (wpAny_bind (wpAny_setState_of IR.ho IR.hd IR.hf ?_));dsimp only;refine wpAny_mono (Q:=λ_ s1=>∃h1 o1 es1 ep1 t1,s1 = { s with heap:=h1 }/\Heap.SameBut r s.heap h1/\SI prog w h1 r o1 es1 ep1 t1/\es1 = #[]/\t1.dummies = #[]/\cO (t1.mask+1)/\ea.size<=t1.mask) ?_ ?_ (λ_ _ z=>z)
  ·have er:tr.roomFor ea.size=if ea.size*5>=21 then some (ea.size*2) else none:=by
    unfold SetTable.roomFor SetTable.fill;rw[pl0,fr.1,fr.2];show (if (0+0+ea.size)*5>=7*3 then some ((0+ea.size)*2) else none)=_;rw[VD]
   rw[er];by_cases c:ea.size*5>=21
   ·rw[if_pos c];refine zk IR (by omega) (.inr (Ux _)) λo' es' ep' t' h' sb I' pm em' ed=>?_;have ee:es' = #[]:=by
     have:=pB pm;exact Array.eq_empty_of_size_eq_zero this
    obtain⟨wh,ge,_⟩:=DZ (n:=ea.size*2) (by omega);exact⟨h',o',es',ep',t',rfl,sb,I',ee,ed,by rw[em'];exact wh,by rw[em'];omega⟩
   ·rw[if_neg c];refine wpAny_pure ⟨s.heap,or,#[],epr,tr,rfl,Ve _ _,IR,rfl,fr.2,by rw[fr.1];exact zp,by rw[fr.1];omega⟩
  ·rintro _ s1 ⟨h1,o1,es1,ep1,t1,rfl,sb1,I1,rfl,ed,wh,le⟩;have p1:t1.place.size=0:=(qu I1.hf).1;refine wpAny_bind (wpAny_setState_of I1.ho I1.hd I1.hf ?_);dsimp only;have rd:t1.road ta=if t1.mask == ta.mask && ta.dummies.isEmpty then .slotForSlot else .clean:=by
    unfold SetTable.road SetTable.fill;rw[p1,ed]
    rfl
   rw[rd];have ft:=qu IA.hf;by_cases c:(t1.mask == ta.mask && ta.dummies.isEmpty)=true
   ·rw[if_pos c];dsimp only;exact wpAny_storeSet_of I1.ho I1.hd (h _ _ _ _ _ (sb1.trans (VG h1 r _)) (I1.put IA.hel IA.hb (qv ft.1 ft.2)) .rfl) (fits_of_scanBound IA.hb)
   ·rw[if_neg c];dsimp only;obtain⟨t',order,el,em',ep',ed',pm⟩:=B5 (mask:=t1.mask) (finger:=t1.finger) (moves:=t1.moves) (led:=t1.led && ta.led) (plain:=t1.plain && ta.plain) (hs:=ea.map λe=>e.1) wh (by rw[V0];omega);rw[V0]at ep' pm;have pe:=Bx pm;have sz:=pB pe;rw[el];refine wpAny_bind ?_;exact zl (es':=order.filterMap λi=>ea[i]?) (t':=t') sz (wpAny_storeSet_of I1.ho I1.hd (h _ _ _ _ _ (sb1.trans (VG h1 r _)) (I1.put (IA.hel.perm pe) (by rw[sz];exact IA.hb) (qv (by rw[ep',sz]) (by rw[ep',ed',em'];show _+0<=_;omega))) pe) (fits_of_scanBound (by rw[sz];exact IA.hb)))
theorem Fa{a:Addr}{o:Obj}{es:Array (Int × Value)}{ep:Nat}{t:SetTable}{k:Int}{x:Value}{Q:Option Nat->Shared->Prop}(hkey:Value.isInt k x=true)(hsc:x.scannable=true)(I:SI prog w s.heap a o es ep t)
 (h:Q (es.toList.findIdx? λe=>Value.isInt k e.2) s):wpAny (model prog w) A (setFind a x ((intKind prog w).hash k)) Q E s:=by
 unfold setFind setFindIn;refine wpAny_bind (wpAny_setState_of I.ho I.hd I.hf ?_);dsimp only;rw[byScan_of hsc I.hb I.hel];simp only [↓reduceIte];refine wpAny_bind (wpAny_rule ?_);refine wpAny_bind (wpAny_setScan_of (knd:=intKind prog w) hkey I.ho I.hd I.hf I.hel ?_);have ef:List.findIdx? (λe:Int × Value=>(intKind prog w).is k e.2) es.toList=List.findIdx? (λe=>Value.isInt k e.2) es.toList:=rfl;rw[ef];cases hr:List.findIdx? (λe=>Value.isInt k e.2) es.toList with
 | none=>rw[hr]at h;exact wpAny_pure h
 | some j=>rw[hr]at h;dsimp only;rw[VD];exact wpAny_pure h
def Dk(l:List (Int × Value)):Prop:=l.Pairwise λe e'=>∀k,Value.isInt k e.2=true->Value.isInt k e'.2=true->False
theorem wa{l l':List (Int × Value)}(p:List.Perm l l')(h:Dk l):Dk l':=(p.pairwise_iff λ{x y} z k a b=>z k b a).mp h
theorem qI(es:Array (Int × Value))(i:Nat):(SetTable.eraseAt es i).toList=es.toList.eraseIdx i:=by
 unfold SetTable.eraseAt;rw[Array.toList_append,W3,W3,List.eraseIdx_eq_take_drop_succ];simp[List.extract_eq_take_drop,UU]
theorem PF{t:SetTable}{n i:Nat}(h:t.fits n=true)(hi:i<n):(t.drop i).fits (n-1)=true:=by
 obtain⟨h1,h2⟩:=qu h;have e:t.place[i]? = some t.place[i]:=Ws (by omega);unfold SetTable.drop;rw[e];dsimp only;have s1:(SetTable.eraseAt t.place i).size=n-1:=by
  unfold SetTable.eraseAt;rw[Array.size_append,Wm,Wm];omega
 have s2:(SetTable.insertAt t.dummies (SetTable.below t.dummies t.place[i]) t.place[i]).size=t.dummies.size+1:=by
  rw[<- UF,(SetTable.insertAt_perm ..).length_eq,UF,Array.size_push]
 exact qv s1 (by dsimp only;rw[s1,s2];omega)
theorem Fb{r:Addr}{o:Obj}{es:Array (Int × Value)}{ep:Nat}{t:SetTable}{k:Int}{x:Value}{Q:Bool->Shared->Prop}(hkey:Value.isInt k x=true)(hsc:x.scannable=true)(I:SI prog w s.heap r o es ep t)(dk:Dk es.toList)
 (h:∀b o' es' ep' t' h',Heap.SameBut r s.heap h'->SI prog w h' r o' es' ep' t'->Dk es'.toList->es'.size<=es.size->(∀k',Ky es'.toList k' ↔ Ky es.toList k'/\k'≠k)->Q b { s with heap:=h' }):wpAny (model prog w) A (setDiscardHashed r x ((intKind prog w).hash k)) Q E s:=by
 unfold setDiscardHashed;refine wpAny_bind (Fa hkey hsc I ?_);cases hr:List.findIdx? (λe=>Value.isInt k e.2) es.toList with
 | none =>
  dsimp only;have e0:s = { s with heap:=s.heap }:=by cases s;rfl
  refine wpAny_pure ?_;rw[e0];refine h false o es ep t s.heap (Ve _ _) I dk (Ue _) λk'=>⟨λz=>⟨z,λe=>?_⟩,λz=>z.1⟩;obtain⟨e',he,y⟩:=z;have:=List.findIdx?_eq_none_iff.mp hr e' he;rw[e]at y;rw[y]at this;cases this
 | some i =>
  dsimp only;obtain⟨hi,hp,_⟩:=List.findIdx?_eq_some_iff_getElem.mp hr;have hi':i<es.size:=by rw[<- UF];exact hi
  refine wpAny_bind (wpAny_setState_of I.ho I.hd I.hf ?_);dsimp only;have pe:=vX hi;have dke:=wa pe.symm dk;have sz:(SetTable.eraseAt es i).size=es.size-1:=by rw[<- UF,qI,W1 hi,UF]
  have el:ElemsOf (intKind prog w) (SetTable.eraseAt es i).toList:=by
   rw[qI];exact λe he=>I.hel e (pe.mem_iff.mp (Uw _ he))
  refine wpAny_bind (wpAny_storeSet_of I.ho I.hd ?_ (fits_of_scanBound (by have:=I.hb;omega)));refine wpAny_bind (wpAny_point (wpAny_pure (h true _ _ _ _ _ (VG s.heap r _) (I.put el (by have:=I.hb;omega) (by rw[sz];exact PF I.hf hi')) ?_ (by omega) λk'=>?_)))
  ·rw[qI];exact (List.pairwise_cons.mp dke).2
  ·rw[qI]
   constructor
   ·rintro⟨e,he,z⟩;refine⟨⟨e,pe.mem_iff.mp (Uw _ he),z⟩,λek=>?_⟩;rw[ek]at z;exact (List.pairwise_cons.mp dke).1 e he k hp z
   ·rintro⟨⟨e,he,z⟩,nk⟩;rcases Uy.mp (pe.mem_iff.mpr he) with y|y
    ·rw[y]at z;exact absurd (Value.isInt_inj _ _ _ z hp) nk
    ·exact⟨e,y,z⟩
theorem E6{r:Addr}{o:Obj}{es:Array (Int × Value)}{ep:Nat}{t:SetTable}{Q:Unit->Shared->Prop}(I:SI prog w s.heap r o es ep t)(ln:es.size<=250)
 (h:∀o' es' ep' t' h',Heap.SameBut r s.heap h'->SI prog w h' r o' es' ep' t'->List.Perm es'.toList es.toList->Q () { s with heap:=h' }):wpAny (model prog w) A (setTidy r) Q E s:=by
 unfold setTidy;refine wpAny_bind (wpAny_setState_of I.ho I.hd I.hf ?_);dsimp only
 split
 ·have g:SetTable.grown es.size=es.size*4:=by
   unfold SetTable.grown;rw[if_neg (by omega)]
  rw[g];exact zk I (by omega) (.inl (by omega)) λo' es' ep' t' h' sb I' pm _ _=>h o' es' ep' t' h' sb I' pm
 ·have e0:s = { s with heap:=s.heap }:=by cases s;rfl
  refine wpAny_pure ?_;rw[e0];exact h o es ep t s.heap (Ve _ _) I .rfl
theorem Fd{id:String}{b r:Addr}{ob or:Obj}{eb er:Array (Int × Value)}{epb epr:Nat}{tb tr:SetTable}{Q:Unit->Shared->Prop}(IB:SI prog w s.heap b ob eb epb tb)(IR:SI prog w s.heap r or er epr tr)(dk:Dk er.toList)(ne:b≠r)(ln:er.size<=250)(lb:eb.size<=er.size)
 (h:∀o' es' ep' t' h',Heap.SameBut r s.heap h'->SI prog w h' r o' es' ep' t'->(∀k,Ky es'.toList k ↔ Ky er.toList k/\¬Ky eb.toList k)->Q () { s with heap:=h' }):wpAny (model prog w) A (Builtin.Frozenset.differenceUpdate id r (.ref b)) Q E s:=by
 unfold Builtin.Frozenset.differenceUpdate;have n1:((Value.ref b:Value) == .ref r)=false:=by
  rw[beq_eq_false_iff_ne];intro z;cases z;exact ne Z
 rw[n1];simp only [US,↓reduceIte];refine wpAny_bind (oE IB.ty ?_);simp only [↓reduceIte];unfold Builtin.Frozenset.addrOf;refine wpAny_bind (wpAny_pure ?_);refine wpAny_bind (oC IB ?_);refine wpAny_bind (oC IR ?_);rw[if_neg (by omega)];refine wpAny_bind (wpAny_setEpoch_of IB.ho IB.hd IB.hf ?_);refine wpAny_bind (wpAny_holding (wpAny_bind (zi (filled:=none) IB (λx hx=>by rw[Uq.mp hx];exact⟨_,_,_,_,IR⟩) (λf z=>nomatch z) (λwk pm=>?_) (λf _ _ _ _ _ z=>nomatch z))));have hwk:ElemsOf (intKind prog w) wk.toList:=IB.hel.perm pm;refine wpAny_bind ?_;refine W2 _ (λbH _ s'=>∃h' o' es' ep' t' done,s' = { s with heap:=h' }/\Heap.SameBut r s.heap h'/\SI prog w h' r o' es' ep' t'/\Dk es'.toList/\es'.size<=er.size/\done++bH=wk.toList/\∀k,Ky es'.toList k ↔ Ky er.toList k/\¬Ky done k) _ ?_ ?_ wk _ ⟨s.heap,or,er,epr,tr,[],rfl,Ve _ _,IR,dk,Ue _,rfl,λk=>⟨λz=>⟨z,λ⟨e,he,_⟩=>nomatch he⟩,λz=>z.1⟩⟩
 ·rintro x bH u s' ⟨h',o',es',ep',t',done,rfl,sb,I',dk',le',ed,hk⟩;have hx:x∈wk.toList:=by rw[<- ed];exact UA _ (Uv ..)
  obtain⟨⟨k,hkx,hh⟩,sc⟩:=hwk x hx;rw[hh];refine wpAny_bind (wpAny_holding (Fb (s:={ s with heap:=h' }) hkx sc I' dk' λbb o2 es2 ep2 t2 h2 sb2 I2 dk2 le2 hk2=>?_));have IB2:SI prog w h2 b ob eb epb tb:=IB.at (by rw[sb2.2 b ne,sb.2 b ne];exact IB.ho);refine wpAny_bind (sE (s:={ s with heap:=h2 }) IB2 (wpAny_pure ⟨h2,o2,es2,ep2,t2,done++[x],rfl,sb.trans sb2,I2,dk2,UE le2 le',by rw[UN];exact ed,λk'=>?_⟩));rw[hk2 k',hk k']
  constructor
  ·rintro⟨⟨y,z⟩,nk⟩;refine⟨y,λ⟨e,he,v⟩=>?_⟩;rcases Us.mp he with q|q
   ·exact z ⟨e,q,v⟩
   ·rw[Uq.mp q]at v;exact nk (Value.isInt_inj _ _ _ v hkx)
  ·rintro⟨y,z⟩
   exact⟨⟨y,λ⟨e,he,v⟩=>z ⟨e,UQ _ he,v⟩⟩,λek=>z ⟨x,UA _ (Uq.mpr rfl),by rw[ek];exact hkx⟩⟩
 ·rintro u s' ⟨h',o',es',ep',t',done,rfl,sb,I',dk',le',ed,hk⟩;rw[UC]at ed;refine wpAny_pure (E6 (s:={ s with heap:=h' }) I' (by omega) λo2 es2 ep2 t2 h2 sb2 I2 pm2=>h o2 es2 ep2 t2 h2 (sb.trans sb2) I2 λk=>?_);rw[pY pm2 k,hk k,ed,pY pm k]
theorem Fc{id:String}{a b:Addr}{oa ob:Obj}{ea eb:Array (Int × Value)}{epa epb:Nat}{ta tb:SetTable}{Q:Value->Shared->Prop}(IA:SI prog w s.heap a oa ea epa ta)(IB:SI prog w s.heap b ob eb epb tb)(dk:Dk ea.toList)(la:ea.size<=250)
 (h:∀S n h',s.heap.objs.size<h'.objs.size->(∀c o,s.heap.get? c=some o->h'.get? c=some o)->h'.SetOf (intKind prog w) s.heap.objs.size S n->(∀k,S k=true ↔ Ky ea.toList k/\¬Ky eb.toList k)->Q (.ref s.heap.objs.size) { s with heap:=h' }) :
 wpAny (model prog w) A (Builtin.Frozenset.difference id a (.ref b)) Q E s:=by
 have lta:a<s.heap.objs.size:=Uf IA.ho;have ltb:b<s.heap.objs.size:=Uf IB.ho;unfold Builtin.Frozenset.difference;refine wpAny_bind (oE IB.ty ?_);simp only [VF,US,↓reduceIte,Bool.false_and];unfold Builtin.Frozenset.addrOf;refine wpAny_bind (wpAny_pure ?_);refine wpAny_bind (oC IB ?_);refine wpAny_bind (oC IA ?_);have kp:∀(ob':Obj) (h':Heap),Heap.SameBut s.heap.objs.size (s.heap.push ob') h'->(s.heap.objs.size<h'.objs.size)/\∀c o,s.heap.get? c=some o->h'.get? c=some o:=λob' h' sb=>by
  refine⟨by rw[sb.1];simp[Heap.push],λc o e=>?_⟩;have lt:c<s.heap.objs.size:=Uf e;rw[sb.2 c (Uo lt)];exact Uj _ e
 by_cases c:ea.size/4 > eb.size
 ·rw[if_pos c];refine wpAny_bind (wpAny_rule ?_);unfold Builtin.Frozenset.copyOf Builtin.Frozenset.addrOf;refine wpAny_bind (wpAny_bind (zn IA.ty ?_));refine wpAny_bind (wpAny_newSet_of (knd:=intKind prog w) λled hS=>?_);dsimp only;refine wpAny_bind (wpAny_pure ?_);have IR:SI prog w (s.heap.push { cls:=.type "set",dict:=none,data:=.set #[] 0 (.fresh 0 0 led) }) s.heap.objs.size { cls:=.type "set",dict:=none,data:=.set #[] 0 (.fresh 0 0 led) } #[] 0 (.fresh 0 0 led):=⟨UG _ rfl,⟨rfl,rfl,rfl⟩,rfl,λe he=>(by simp at he),by decide,rfl⟩;refine wpAny_bind (E9 (s:={ s with heap:=s.heap.push { cls:=.type "set",dict:=none,data:=.set #[] 0 (.fresh 0 0 led) } }) (IA.at (Uj _ IA.ho)) IR ⟨rfl,rfl⟩ (U4 lta) la λo1 es1 ep1 t1 h1 sb1 I1 pm1=>wpAny_pure ?_);dsimp only;refine wpAny_bind (wpAny_pure ?_);have sz:=pB pm1;have IB1:SI prog w h1 b ob eb epb tb:=IB.at (by rw[sb1.2 b (Uo ltb)];exact Uj _ IB.ho);refine wpAny_bind (wpAny_holding (Fd (s:={ s with heap:=h1 }) IB1 I1 (wa pm1.symm dk) (Uo ltb) (by omega) (by omega) λo2 es2 ep2 t2 h2 sb2 I2 hk=>wpAny_pure ?_));obtain⟨k1,k2⟩:=kp _ h2 (sb1.trans sb2);exact h _ _ h2 k1 k2 I2.setOf λk=>by rw[U2];exact (hk k).trans (by rw[pY pm1 k])
 ·rw[if_neg c];refine wpAny_bind (zn IA.ty ?_);refine wpAny_bind (wpAny_newSet_of (knd:=intKind prog w) λled hS=>?_);dsimp only;refine wpAny_bind (wpAny_pure ?_);have IR:SI prog w (s.heap.push { cls:=.type "set",dict:=none,data:=.set #[] 0 (.fresh 0 0 led) }) s.heap.objs.size { cls:=.type "set",dict:=none,data:=.set #[] 0 (.fresh 0 0 led) } #[] 0 (.fresh 0 0 led):=⟨UG _ rfl,⟨rfl,rfl,rfl⟩,rfl,λe he=>(by simp at he),by decide,rfl⟩;have IA1:=IA.at (h':=s.heap.push { cls:=.type "set",dict:=none,data:=.set #[] 0 (.fresh 0 0 led) }) (Uj _ IA.ho);have IB1:=IB.at (h':=s.heap.push { cls:=.type "set",dict:=none,data:=.set #[] 0 (.fresh 0 0 led) }) (Uj _ IB.ho);refine wpAny_bind (wpAny_setEpoch_of IA1.ho IA1.hd IA1.hf ?_);refine wpAny_bind (wpAny_holding (wpAny_bind ?_));have loop:∀(wk:Array (Int × Value)) (h1:Heap),Heap.SameBut s.heap.objs.size (s.heap.push { cls:=.type "set",dict:=none,data:=.set #[] 0 (.fresh 0 0 led) }) h1->h1.SetOf (intKind prog w) s.heap.objs.size (λ_=>false) 0->List.Perm wk.toList ea.toList ->
   wpAny (model prog w) A (do
    forIn wk PUnit.unit λx _=>do
     holding [x.2] (do
      let d <- setFind b x.2 x.1
      let there <- pure d.isSome
      if (!there)=true then do
       let _ <- setAddHashed s.heap.objs.size x.2 x.1
       pure PUnit.unit
      else pure PUnit.unit)
     Builtin.Frozenset.unchanged id a epa
     pure (ForInStep.yield PUnit.unit)
    pure PUnit.unit) (λ_ s'=>wpAny (model prog w) A (pure (Value.ref s.heap.objs.size)) Q E s') E { s with heap:=h1 }:=λwk h1 sb hR pm=>by
   have IA2:SI prog w h1 a oa ea epa ta:=IA1.at (by rw[sb.2 a (Uo lta)];exact IA1.ho);have IB2:SI prog w h1 b ob eb epb tb:=IB1.at (by rw[sb.2 b (Uo ltb)];exact IB1.ho);refine wpAny_bind ?_;rw[<- Array.forIn_toList];refine Fe (s:={ s with heap:=h1 }) (Q:=λ_ s'=>wpAny (model prog w) A (pure PUnit.unit) _ E s') IA2 IB2.setOf hR (U4 lta) (U4 ltb) (IA.hel.perm pm) (by rw[pm.length_eq,UF];unfold scanBound;omega) λh2 S n sb2 hS2 hk=>wpAny_pure (wpAny_pure ?_);obtain⟨k1,k2⟩:=kp _ h2 (sb.trans sb2);refine h S n h2 k1 k2 hS2 λk=>?_;rw[hk k,pY pm k,<- V1,U2];exact Iff.rfl
  refine zi (filled:=some s.heap.objs.size) IA1 (λx hx=>?_) (λf z=>by cases z;exact⟨_,_,_,_,IR⟩) (λwk pm=>loop wk _ (Ve _ _) hS pm) (λf o' ef epf tf tf' z J ht=>?_)
  ·rcases Uy.mp hx with rfl|hx
   ·exact⟨_,_,_,_,IB1⟩
   ·rw[Uq.mp hx];exact⟨_,_,_,_,IR⟩
  ·cases z;obtain⟨rfl,rfl,rfl⟩:ef = #[]/\epf=0/\o' = { cls:=.type "set",dict:=none,data:=.set #[] 0 (.fresh 0 0 led) }:=by
    have e:=J.ho;rw[IR.ho]at e;cases e;have e2:=J.hd;cases e2;exact⟨rfl,rfl,rfl⟩
   refine loop ea _ (VG _ _ _) ?_ .rfl;have:=(J.put J.hel J.hb ht).setOf;exact this
theorem Py:entryFor table "set.__sub__" = some Builtin.«frozenset.__sub__» :=
 entryFor_alias (id' := "frozenset.__sub__") (by kernel_rfl) rfl (by decide +kernel) (by kernel_rfl)
theorem E7{a b:Addr}{oa ob:Obj}{ea eb:Array (Int × Value)}{epa epb:Nat}{ta tb:SetTable}{Q:Value->Shared->Prop}(IA:SI prog w s.heap a oa ea epa ta)(IB:SI prog w s.heap b ob eb epb tb)(dk:Dk ea.toList)(la:ea.size<=250)
 (h:∀S n h',s.heap.objs.size<h'.objs.size->(∀c o,s.heap.get? c=some o->h'.get? c=some o)->h'.SetOf (intKind prog w) s.heap.objs.size S n->(∀k,S k=true ↔ Ky ea.toList k/\¬Ky eb.toList k)->Q (.ref s.heap.objs.size) { s with heap:=h' }) :
 wpAny (model prog w) A (binaryOp .Sub (.ref a) (.ref b)) Q E s:=by
 refine wpAny_binaryOp_same (T := "set") (id := "set.__sub__") IA.ty IB.ty F.fills_set_sub F.slot_set_sub ?_;refine wpAny_call_entry F.slot_set_sub IA.ty Py ?_ (F.args_set_sub_2 _ _);unfold Builtin.«frozenset.__sub__»;show wpAny _ _ (do
  let (self,other) <- Builtin.Frozenset.slot1 "__sub__" ⟨[.ref a,.ref b],[]⟩
  let (l,r):=(self,other)
  if !(<- Builtin.Frozenset.isAnySet l <&&> Builtin.Frozenset.isAnySet r) then rule "frozenset.__sub__.declined"; return <- ret .notImplemented
  ret (<- Builtin.Frozenset.difference "frozenset.__sub__" (<- Builtin.Frozenset.addrOf l) r)) _ _ _
 unfold Builtin.Frozenset.slot1 slotArgs;simp only [List.isEmpty_nil,VF,US,↓reduceIte,bind_assoc,UB,Wh,VD,bne_self_eq_false];refine wpAny_bind (wpAny_pure ?_);dsimp only;refine wpAny_bind (wpAny_pure ?_);dsimp only;unfold andM;refine wpAny_bind (wpAny_bind (oE IA.ty ?_));refine oE IB.ty ?_;simp only [VF,US,↓reduceIte];unfold Builtin.Frozenset.addrOf;refine wpAny_bind (wpAny_pure ?_);refine wpAny_bind (Fc IA IB dk la λS n h' k1 k2 hS hk=>?_);exact wpAny_pure ⟨_,rfl,⟨(λz=>nomatch z),h S n h' k1 k2 hS hk⟩⟩
theorem AE:∀ {ks:List Int} {l:List (Int × Value)},ks.Nodup->(∀k∈ks,Ky l k)->l.length=ks.length->Dk l/\∀e∈l,∃k∈ks,Value.isInt k e.2=true
 | [],l,_,_,len=>by
  obtain rfl:=VZ len;exact⟨.nil,λe he=>nomatch he⟩
 | k::r,l,nd,cov,len=>by
  obtain⟨e,he,hk⟩:=cov k (Uv ..);obtain⟨x,y,rfl⟩:=List.append_of_mem he;have pm:List.Perm (x++e::y) (e::(x++y)):=List.perm_middle;obtain⟨nk,nd'⟩:=Vu.mp nd;obtain⟨d,al⟩:=AE (ks:=r) (l:=x++y) nd' (λk' hk'=>by
   obtain⟨e',he',z⟩:=cov k' (Uw _ hk');rcases Uy.mp (pm.mem_iff.mp he') with q|q
   ·rw[q]at z;exact absurd (Value.isInt_inj _ _ _ z hk ▸ hk') nk
   ·exact⟨e',q,z⟩) (by have:=pm.length_eq;rw[len]at this;simp only [UB]at this;omega)
  refine⟨wa pm.symm (List.pairwise_cons.mpr ⟨λe' he' k' z z'=>?_,d⟩),λe' he'=>?_⟩
  ·obtain⟨k2,hk2,z2⟩:=al e' he';have a1:=Value.isInt_inj _ _ _ z hk;have a2:=Value.isInt_inj _ _ _ z' z2;exact nk (by rw[<- a1,a2];exact hk2)
  ·rcases Uy.mp (pm.mem_iff.mp he') with q|q
   ·exact⟨k,Uv ..,by rw[q];exact hk⟩
   ·obtain⟨k2,hk2,z2⟩:=al e' q;exact⟨k2,Uw _ hk2,z2⟩
theorem uE(val:Nat->Int):∀i,(firstMet val i).Nodup
 | 0=>.nil
 | i+1=>by
  rw[firstMet_succ];unfold step_dedup
  split
  ·exact uE val i
  ·rename_i h;refine List.nodup_append.mpr ⟨uE val i,List.pairwise_singleton ..,λa ha b hb e=>h ?_⟩;rw[Uq.mp hb]at e;exact U2.mpr ⟨a,ha,by rw[e];exact beq_self_eq_true _⟩
theorem Iy(ns:List Int):(List.range ns.length).map (λi=>ns.getD i 0)=ns:=by
 refine List.ext_getElem (by simp) λi h1 h2=>?_;simp[VH];rw[UL h2]
 rfl
theorem zj{l:Addr}{items:Array Value}{ns:List Int}{Q:Value->Shared->Prop}(hh:A.handled=none)(hl:s.heap.IsList l items)(hi:IntsAre items.toList ns)(hb:ns.length<=250)
 (h:∀h' tk o es ep t,SI prog w h' s.heap.objs.size o es ep t->Dk es.toList->es.size<=ns.length->(∀k,Ky es.toList k ↔ k∈ns)->(∀b u,s.heap.get? b=some u->h'.get? b=some u)->Q (.ref s.heap.objs.size) { s with heap:=h',toks:=tk }) :
 wpAny (model prog w) A (call (.type "set") [.ref l]) Q E s:=by
 have il:items.size=ns.length:=by rw[<- UF];exact IntsAre.length hi
 refine PySem.call_set_list hh hl hi (by rw[il];unfold scanBound;omega) λh' tk hS kp=>?_;obtain⟨o,es,ep,t,I,hm,hn⟩:=SI.of hS;have mem:∀k,(firstMet (λi=>ns.getD i 0) items.size).any (· == k)=true ↔ k∈ns:=λk=>by
  rw[firstMet_any,il,Iy,U2];exact⟨λ⟨x,hx,e⟩=>(beq_iff_eq.mp e) ▸ hx,λhk=>⟨k,hk,beq_self_eq_true _⟩⟩
 have len:=firstMet_length_le (λi=>ns.getD i 0) items.size;refine h h' tk o es ep t I (AE (uE _ items.size) (λk hk=>(hm k).mp (U2.mpr ⟨k,hk,beq_self_eq_true _⟩)) (by rw[UF,hn])).1 (by rw[hn];omega) (λk=>(hm k).symm.trans (mem k)) λb u e=>kp b u (Uf e) e
end
section
variable {X:Cx}{pins:List (Addr × Obj)}{σ:St}{H:Hp}{s:Shared}
theorem ai.addPin(I:ai X pins σ H s){a:Addr}{o:Obj}(ho:s.heap.get? a=some o)(hH:H a=none)(hl:a≠X.env.locals)(hf:a∉X.fs)(hc:∀v,o.data ≠ .cell v):ai X ((a,o)::pins) σ H s:=by
 refine⟨I.ok,I.os,I.bare,I.base,I.loc,I.cell,I.free,I.freeC,λp hp=>?_,I.hok,I.len⟩;rcases Us.mp hp with z|z
 ·exact I.pin p (UQ _ z)
 ·rcases Uy.mp z with rfl|z
  ·exact⟨ho,hH,hl,hf,hc⟩
  ·exact I.pin p (UA _ z)
theorem ai.dropPin{q:Addr × Obj}(I:ai X (q::pins) σ H s):ai X pins σ H s:=by
 refine⟨I.ok,I.os,I.bare,I.base,I.loc,I.cell,I.free,I.freeC,λp hp=>I.pin p ?_,I.hok,I.len⟩;rcases Us.mp hp with z|z
 ·exact UQ _ z
 ·exact UA _ (Uw _ z)
theorem tY:∀ {ns:List Int} {us:List Value},aL (ns.map V.int) us->IntsAre us ns
 | [],us,h=>by cases h;exact .nil
 | n::ns,us,h=>by
  cases h with
  | cons a b =>
   obtain⟨t,rfl⟩:=a;exact .cons n t (tY b)
def zI(K:W.Frag)(ta tb:TE):TE:=λσ H Q=>ta σ H λx H1=>∃(p:Addr) (ns:List Int),x=.ref p/\aF K H1 p (ns.map V.int)/\ns.length<=250/\tb σ H1 λy H2=>∃(q:Addr) (ms:List Int),y=.ref q/\aF K H2 q (ms.map V.int)/\ms.length<=250/\∀n:Nat,(0<n ↔ ∃k∈ns,k∉ms)->Q (.int (n:Int)) H2
theorem J5 {xl xs:Str} {pl p1 p2 pos pos1 pos2 pos3:Pos} {ea eb:Expr} {ta tb:TE} (hc:X.calm=true) (hmL:X.mg xl=none) (hvL:bootBuiltins xl=some (.builtin "len")) (hmS:X.mg xs=none) (hvS:bootBuiltins xs=some (.type "set")) (ha:PE X ea ta) (hb:PE X eb tb)
 (hgL:Gl X xl:=by rfl) (hgS:Gl X xs:=by rfl) (hxL:xl ≠ "__name__":=by decide) (hxS:xs ≠ "__name__":=by decide) (hdL:(xl == ("__debug__" : Str))=false:=by decide) (hdS:(xs == ("__debug__" : Str))=false:=by decide) (sa:cL ea=false:=by rfl) (sb:cL eb=false:=by rfl) :
 PE X (.Call (.Name xl pl) [.BinOp (.Call (.Name xs p1) [ea] [] pos1) .Sub (.Call (.Name xs p2) [eb] [] pos2) pos3] [] pos) (zI X.K ta tb):=by
 intro pins s σ H Q I h;refine wpAny_Call_Name_kw (fW I hgL hmL hvL ?_ hxL hdL);refine WS ?_ (bZ Z) Z;rw[bZ rfl];refine Calls.spliced_cons ?_;refine wpAny_BinOp ?_;refine wpAny_Call_Name_kw (fW I hgS hmS hvS ?_ hxS hdS);refine UX ?_ (bZ sa) Z;rw[bZ sa];refine Calls.spliced_cons (aD (ha pins s σ H _ I h) λv s1 ⟨x,H1,I1,r1,q1⟩=>?_);obtain⟨p,ns,rfl,hp,lp,q1⟩:=q1;cases r1;refine Calls.spliced_nil ?_;obtain⟨its,rv,pll,_⟩:=I1.list hp;refine zj (I1.ok.hd hc) pll.isList (by simpa using tY rv) lp λh1 tk1 oA eA epA tA IA dkA lA kA kp1=>?_;have fr1:H1 s1.heap.objs.size=none:=I1.hok.fresh (Ue _);have I2:=(I1.kept (h':=h1) (t':=tk1) kp1).addPin IA.ho fr1 (U4 I1.lt) (I1.nofs (Ue _)) (λv z=>by rw[IA.hd]at z;cases z);refine wpAny_Call_Name_kw (fW I2 hgS hmS hvS ?_ hxS hdS);refine UX ?_ (bZ sb) Z;rw[bZ sb];refine Calls.spliced_cons (aD (hb _ _ σ H1 _ I2 q1) λv s3 ⟨y,H2,I3,r3,q3⟩=>?_);obtain⟨q,ms,rfl,hq,lq,q3⟩:=q3;cases r3;refine Calls.spliced_nil ?_;obtain⟨its3,rv3,pl3,_⟩:=I3.list hq;refine zj (I3.ok.hd hc) pl3.isList (by simpa using tY rv3) lq λh4 tk4 oB eB epB tB IB dkB lB kB kp4=>?_;have IA4:SI X.prog X.w h4 s1.heap.objs.size oA eA epA tA:=IA.at (kp4 _ _ (I3.pin _ (UA _ (Uv ..))).1);refine E7 (s:={ s3 with heap:=h4,toks:=tk4 }) IA4 IB dkA (by omega) λS n h5 lt5 kp5 hS hk=>?_;refine Calls.spliced_nil ?_;obtain⟨o6,es6,ep6,t6,I6,hm6,hn6⟩:=SI.of hS;refine call_len_set (s:={ s3 with heap:=h5,toks:=tk4 }) I6.ho I6.hex I6.hd I6.hf (by have:=I6.hb;unfold scanBound at this;omega) ?_;refine⟨.int (es6.size:Int),H2,(I3.dropPin.kept (h':=h5) (t':=tk4+1+1) λb u e=>kp5 b u (kp4 b u e)),⟨_,Z⟩,q3 es6.size ?_⟩
 constructor
 ·intro pos6;have he:es6.toList[0]'(by rw[UF];exact pos6)∈es6.toList:=Wn _;obtain⟨⟨k,hk6,_⟩,_⟩:=I6.hel _ he;obtain⟨a1,a2⟩:=(hk k).mp ((hm6 k).mpr ⟨_,he,hk6⟩);exact⟨k,(kA k).mp a1,λz=>a2 ((kB k).mpr z)⟩
 ·rintro⟨k,k1,k2⟩;obtain⟨e,he,_⟩:=(hm6 k).mp ((hk k).mpr ⟨(kA k).mpr k1,λz=>k2 ((kB k).mp z)⟩);rw[<- UF];exact List.length_pos_of_mem he
theorem IQ {K:W.Frag} {xl xs:Str} {pl p1 p2 pos pos1 pos2 pos3:Pos} {ea eb:Expr} {ta tb:TE} (hK:X.K=K) (hc:X.calm=true) (hmL:X.mg xl=none) (hvL:bootBuiltins xl=some (.builtin "len")) (hmS:X.mg xs=none) (hvS:bootBuiltins xs=some (.type "set")) (ha:QE X ea ta) (hb:QE X eb tb)
 (hgL:Gl X xl:=by rfl) (hgS:Gl X xs:=by rfl) (hxL:xl ≠ "__name__":=by decide) (hxS:xs ≠ "__name__":=by decide) (hdL:(xl == ("__debug__" : Str))=false:=by decide) (hdS:(xs == ("__debug__" : Str))=false:=by decide) (sa:cL ea=false:=by rfl) (sb:cL eb=false:=by rfl) :
 QE X (.Call (.Name xl pl) [.BinOp (.Call (.Name xs p1) [ea] [] pos1) .Sub (.Call (.Name xs p2) [eb] [] pos2) pos3] [] pos) (zI K ta tb):=by
 subst hK;exact⟨J5 hc hmL hvL hmS hvS ha.h hb.h hgL hgS hxL hxS hdL hdS sa sb⟩
end
theorem Bc{X:Cx}{i j:Nat}{x y:Str}{a b:Expr}{ta:TA}{px py pt pos:Pos}{kt k2 pt2}(hc:X.calm=true)(hN:X.N.Nodup)(hi:X.N[i]? = some x)(hj:X.N[j]? = some y)(hij:i≠j)
 (hx:X.env.scope.names.lookup x=some .local) (hy:X.env.scope.names.lookup y=some .local) (ha:QA X [a,b] ta)
 (hw:swappedStores [.Tuple [.Name x px,.Name y py] kt pt] (.Tuple [a,b] k2 pt2) X.env=pure (some [x,y]))
 (hs:swapsWithSole [.Tuple [.Name x px,.Name y py] kt pt] (.Tuple [a,b] k2 pt2) pos.line X.env=pure false:=by rfl) :
 QS X (.Assign [.Tuple [.Name x px,.Name y py] kt pt] (.Tuple [a,b] k2 pt2) pos) (zL i j ta):=⟨Jw hc hN hi hj hij hx hy ha.h hw hs⟩
structure D8 (K:W.Frag) (Y f:Addr):Prop where
 sp:W.specialIn K (.ref Y) "__getattribute__" = some (some (.builtin "type.__getattribute__"))
 rd:W.readsIn K Y (.type "type")=true
 fc:W.findCls K (.ref Y) (.type "type") "__init__" = some (.val (.ref f))
structure Ea (P:Program) (w:World) (K:W.Frag) (mg:Str->Option Value) (base:Heap) (j:Nat) (f:Addr) (fd:FuncData) (ps:List Str) (dvs:List V) (sp:Sp):Prop where
 kp:W.keepIn K (.ref f)=true
 b:∃ds,aq K fd ps ds/\aL dvs ds
 ok:bA P w K mg base bR j f fd ps sp
section
variable {X:Cx}{K:W.Frag}{Y g:Addr}{y:Str}{np apos pos:Pos}{a:Expr}{es:List Expr}{t:TA}{k j:Nat}{fd:FuncData}{ps:List Str}{sp:Sp}{dvs:List V}
theorem Je{pl:Sem Bool}(h:X.K=K)(B:D8 K Y g)(hm:X.mg y=some (.ref Y))(F:Ea X.prog X.w X.K X.mg X.base j g fd ps dvs sp)(hr:bW k X.A)(ha:QA X (a::es) t)(hj:j<=k:=by decide)(hg:Gl X y:=by rfl)(hd:(y == ("__debug__" : Str))=false:=by decide)(hn:dY (a::es)=true:=by rfl)
 (ht:eval (.Call (.Attribute (.Name y np) "__init__" apos) (a::es) [] pos) X.env=(do
   let ov <- eval (.Name y np) X.env
   standAt apos.atName
   let (f,first) <- holding [ov] (getMethod ov "__init__" pl)
   callWith pos f first (backTo pos (starEach (a::es) X.env)) (backToKw pos (keywordEach [] X.env))):=by rfl) :
 QE X (.Call (.Attribute (.Name y np) "__init__" apos) (a::es) [] pos) (mU sp dvs E0 t):=⟨by
 subst h;intro pins s σ H Q I h;have ho:PE X (.Name y np) (tC (.ref Y)):=(iB (v:=.ref Y) hg hm rfl hd).h;refine W.methodCall_KW (pl:=pl) (aD (ho pins s σ H (λv H'=>v=.ref Y/\mU sp dvs E0 t σ H' Q) I ⟨rfl,h⟩) λu s1 ⟨x,H1,I1,rx,ex,q⟩=>?_) ht;subst ex;obtain rfl:u=Value.ref Y:=rx;refine W.method_cls I1.kIn B.sp (W.cls_value (s:=s1) I1.kIn B.rd B.fc Z ?_);have I2:=I1.tok (s1.toks+1);obtain⟨ds,hb,hds⟩:=F.b;refine W.callWith_K (h₀:=X.base) I2.ok.mod.kin F.kp (aD (ha.h pos pins { s1 with toks:=s1.toks+1 } σ H1 _ I2 q) λus s2 ⟨vs,H2,I3,r,q2⟩=>⟨I3.kIn,?_⟩) (bZ (eV hn).1) (iC (eV hn).2);exact o7 F.ok (hr.mono hj) hb hds Bs I3 r q2⟩
end
def strOf? : Value->Option Str
 | .str x _=>some x
 | _=>none
def refOf? : Value->Option Addr
 | .ref a=>some a
 | _=>none
theorem strOf?.eq{v:Value}{x:Str}(h:strOf? v=some x):∃t,v=.str x t:=by
 cases v<;>first|(cases h;exact⟨_,Z⟩)|cases h
theorem refOf?.eq{v:Value}{a:Addr}(h:refOf? v=some a):v=.ref a:=by
 cases v<;>first|(cases h;rfl)|cases h
def i9:List DictEntry->Option (List (Int × Str × Addr))
 | []=>some []
 | e::r=>(strOf? e.key).bind λx=>(refOf? e.val).bind λa=>(i9 r).map λl=>(e.hash,x,a)::l
theorem i9.pairs{P:Program}{w:World}:∀ {es:List DictEntry} {m:List (Int × Str × Addr)},i9 es=some m->(∀p∈m,p.1=hashStr w p.2.1) ->
 (∀e∈es,∃k,(cK P w).is k e.key=true/\e.hash=(cK P w).hash k)/\Pairs (cK P w) es (m.map λp=>((Sum.inr p.2.1:aR),Value.ref p.2.2))
 | [],m,h,_=>by cases h;exact⟨λ_ z=>(nomatch z),.nil⟩
 | e::r,m,h,hs=>by
  unfold i9 at h;obtain⟨x,hx,h⟩:=W4.mp h;obtain⟨a,ha,h⟩:=W4.mp h;obtain⟨l,hl,h⟩:=Va.mp h;subst h;obtain⟨tk,ek⟩:=strOf?.eq hx;obtain⟨i1,i2⟩:=i9.pairs (P:=P) (w:=w) hl λp hp=>hs p (Uw _ hp);have kk:(cK P w).is (.inr x) e.key=true:=by rw[ek];exact BO P w x tk
  refine⟨λe' he=>?_,.cons kk (refOf?.eq ha) i2⟩;rcases Uy.mp he with rfl|he
  ·exact⟨.inr x,kk,hs _ Uv⟩
  ·exact i1 e' he
structure oz (K:W.Frag) (w:World) (a:Addr) (m:List (Int × Str × Addr)):Prop where
 ex:∃es ep,K.lookup a=some ⟨.type "dict",none,.dict es ep,#[]⟩/\i9 es.toList=some m
 hs:∀p∈m,p.1=hashStr w p.2.1
 nd:(m.map (·.2.1)).Nodup
 ns:(a == sysModules)=false
theorem oz.rd{K:W.Frag}{a:Addr}{m:List (Int × Str × Addr)}{P:Program}{w:World}{h:Heap}(D:oz K w a m)(X:K.In h):h.DictOf (cK P w) a (m.map λp=>((Sum.inr p.2.1:aR),Value.ref p.2.2)):=by
 obtain⟨es,ep,l,e⟩:=D.ex;obtain⟨i1,i2⟩:=i9.pairs (P:=P) (w:=w) e D.hs;refine⟨_,es,ep,X _ _ l,⟨rfl,rfl,rfl⟩,rfl,λe he=>i1 e (W0.mpr he),i2,?_⟩;rw[Vd];have:(((λx=>x.1) ∘ λp:Int × Str × Addr=>((Sum.inr p.2.1:aR),Value.ref p.2.2)):Int × Str × Addr->aR)=(λi:Str=>(Sum.inr i:aR)) ∘ (·.2.1):=rfl;rw[this,<- Vd];exact List.Pairwise.map _ (λa b (z:a≠b) (q:(Sum.inr a:aR)=Sum.inr b)=>z (Sum.inr.inj q)) D.nd
def h9(m:List (Int × Str × Addr))(z:Str):Option Addr:=(m.find? λp=>decide (p.2.1=z)).map (·.2.2)
theorem uk:∀(m:List (Int × Str × Addr)) (z:Str),valueAt (m.map λp=>((Sum.inr p.2.1:aR),Value.ref p.2.2)) (Sum.inr z)=(h9 m z).map Value.ref
 | [],z=>rfl
 | p::m,z=>by
  have ih:=uk m z;unfold h9 valueAt at ih ⊢;rw[UM,UR,UR];by_cases c:p.2.1=z
  ·have c':(Sum.inr p.2.1:aR)=Sum.inr z:=congrArg _ c;simp only [decide_eq_true c,decide_eq_true c',Vk]
  ·have c':¬(Sum.inr p.2.1:aR)=Sum.inr z:=λq=>c (Sum.inr.inj q);simp only [decide_eq_false c,decide_eq_false c'];exact ih
def Ph(a:Addr)(m:List (Int × Str × Addr))(neg:Bool):R2:=λx y H Q=>∃z,x=.str z/\y=.ref a/\Q (.bl (if neg then !(h9 m z).isSome else (h9 m z).isSome)) H
section
variable {X:Cx}{K:W.Frag}{w:World}{a:Addr}{m:List (Int × Str × Addr)}
theorem ON(h:X.K=K)(hw:X.w=w)(D:oz K w a m):ba X (compareOp .NotIn) (Ph a m true):=by
 subst h hw;intro pins s σ H x y v u Q I rx ry q;obtain⟨z,rfl,rfl,q⟩:=q;obtain rfl:u=Value.ref a:=ry;refine wpAny_notIn_of (iH (k:=.inr z) rx) D.ns (D.rd (P:=X.prog) (w:=X.w) I.kIn).mapOf ?_;rw[uk,VN];exact⟨.bl _,H,I.tok _,Z,q⟩
theorem Jg{i:Expr}{ti:TE}{x:Str}{p pos:Pos}(h:X.K=K)(hw:X.w=w)(D:oz K w a m)(hg:Gl X x)(hm:X.mg x=some (.ref a))(hi:QE X i ti)(hs:sf i:=by intro _ _;rfl)(hd:(x == ("__debug__" : Str))=false:=by decide) :
 QE X (.Subscript (.Name x p) i pos) (λσ H Q=>ti σ H λy H1=>∃z b,y=.str z/\h9 m z=some b/\Q (.ref b) H1):=⟨by
 subst h hw;intro pins s σ H Q I h;have ho:PE X (.Name x p) (tC (.ref a)):=(iB (v:=.ref a) hg hm rfl hd).h;refine Ab WT.lookup hs (aD (ho pins s σ H (λv H'=>v=.ref a/\ti σ H' λy H1=>∃z b,y=.str z/\h9 m z=some b/\Q (.ref b) H1) I ⟨rfl,h⟩) λu s1 ⟨x,H1,I1,rx,ex,q1⟩=>aD (hi.h pins s1 σ H1 _ I1 q1) λiv s2 ⟨y,H2,I2,ry,z,b,ey,g,q2⟩=>?_);subst ex ey;obtain rfl:u=Value.ref a:=rx;have dd:=D.rd (P:=X.prog) (w:=X.w) I2.kIn;exact⟨dd.typeIs,wpAny_getItem_of (iH (k:=.inr z) ry) dd.mapOf (by rw[uk,g];rfl) ⟨.ref b,H2,I2.tok _,rfl,q2⟩⟩⟩
end
structure TZ (P:Program) (w:World) (K:W.Frag) (mg:Str->Option Value) (base:Heap) (x:Str) (k:Nat) (f:Addr) (fd:FuncData) (ps:List Str) (dvs:List V) (sp:Sp):Prop where
 g:mg x=some (.ref f)
 kp:W.keepIn K (.ref f)=true
 b:∃ds,aq K fd ps ds/\aL dvs ds
 ok:bA P w K mg base bR k f fd ps sp
def hV:List Value->Option (List Addr)
 | []=>some []
 | .ref m::u=>(match hV u with|some l=>some (m::l)|none=>none)
 | _=>none
theorem hV.vals:∀ {us:List Value} {ns:List Addr},hV us=some ns->aL (ns.map V.ref) us
 | [],ns,h=>by cases h;exact .nil
 | .ref m::u,ns,h=>by
  unfold hV at h;cases q:hV u with
  | none=>rw[q]at h;cases h
  | some l=>rw[q]at h;cases h;exact .cons Z (hV.vals q)
theorem zB {K:W.Frag} {a:Addr} {od:Option Addr} {its:Array Value} {n:Nat} {sl:Array (Option Value)} {ns:List Addr} (h:K.lookup a=some ⟨.type "tuple",od,.seq its n,sl⟩) (hv:hV its.toList=some ns) (hz:its.size<=1000:=by decide) (H:Hp):bo K H a (ns.map V.ref) :=
 .inr ⟨_,its,n,h,rfl,rfl,sz (WZ hz),hV.vals hv⟩
end L2
namespace L2
open PySem
theorem P7{lo c:Int}{n:Nat}{cs:St}{tt:TT}{te:TE}{H:Hp}{Q:VK}(Pv:Nat->List V->Hp->Prop)(h0:Pv 0 [] H)(hl:∀i ys H,i<=n->Pv i ys H->ys.length<=i)(hz:n<=sizeLine)
 (hs:∀i ys H (N:List V->Hp->Prop),i<n->Pv i ys H->(∀ys' H',Pv (i+1) ys' H'->N ys' H')->tt (some (.int (lo+i*c))::cs) H λb H4=>if b=true then te (some (.int (lo+i*c))::cs) H4 λy H5=>N (ys++[y]) H5 else N ys H4)
 (hd:∀ys H p H',Pv n ys H->bi H p (.lst ys) H'->Q (.ref p) H') :
 iQ (jg lo c n) H (List.replicate 1 none++cs) (bT 0) tt te Q:=by
 refine⟨λi m ys σ H=>m=n-i/\i<=n/\Pv i ys H/\∃v0,σ=v0::cs,⟨n,by simp,Ux _,h0,none,rfl⟩,?_⟩;rintro i m ys σ H2 ⟨rfl,hi,p,v0,rfl⟩;have ql:=hl i ys H2 hi p;by_cases hlt:i<n
 ·refine .inr ⟨hlt,by omega,λys' σ' H'=>Pv (i+1) ys' H'/\∃v0,σ'=v0::cs,λys' σ' H' ⟨p',e⟩=>⟨n-(i+1),by omega,rfl,hlt,p',e⟩,λx H' y=>?_⟩;obtain⟨e,y⟩:=y;subst e y;exact hs i ys H' (λys' H'=>Pv (i+1) ys' H'/\∃v0,some (V.int (lo+i*c))::cs=v0::cs) hlt p λ_ _ z=>⟨z,_,Z⟩
 ·have e:i=n:=by omega
  subst e;exact .inl ⟨Ue _,by omega,λp' H' g=>hd ys H2 p' H' p g⟩
theorem P5{lo c:Int}{n:Nat}{cs:St}{te:TE}{H:Hp}{Q:VK}(rs:List V)(hl:rs.length=n)(hz:n<=sizeLine)
 (hs:∀(i:Nat) y H' (N:VK),i<n->rs[i]? = some y->aj H H'->(∀H'',aj H' H''->N y H'')->te (some (.int (lo+i*c))::cs) H' N) (hd:∀p H',bi H p (.lst rs) H'->Q (.ref p) H') :
 iQ (jg lo c n) H (List.replicate 1 none++cs) (bT 0) gy te Q:=by
 refine P7 (λi ys H'=>aj H H'/\ys=rs.take i) ⟨aj.refl _,rfl⟩ (λi ys H' hi z=>by rw[z.2,Ul];omega) hz (λi ys H' N hi z hN=>?_) λys H' p H'' z g=>?_
 ·obtain⟨s,rfl⟩:=z;have hi':i<rs.length:=by omega
  have hy:rs[i]? = some rs[i]:=UL hi';simp only [gy,if_true];exact hs i _ H' _ hi hy s λH'' s'=>hN _ _ ⟨s.trans s',by rw[f9 hy]⟩
 ·obtain⟨s,rfl⟩:=z;rw[<- hl,UJ]at g;exact hd p H'' (g.after s)
def Pk(K:W.Frag)(neg:Bool):R2:=λx y H Q=>∃xs d,bq K H (.list xs) y/\bq K H d x/\PyData.canLayAll0 xs=true/\d.canLay0=true/\min (PyData.depthAll xs) d.depth<=60/\Q (.bl (if neg then !xs.any (λy=>PyData.eqv y d) else xs.any (λy=>PyData.eqv y d))) H
section
variable {X:Cx}{K:W.Frag}
theorem O3(h:X.K=K)(hu:X.A.units+64<cLine):ba X (compareOp .In) (Pk K false):=by
 subst h;intro pins s σ H x y v u Q I rx ry q;obtain⟨xs,d,h1,h2,h3,h4,h5,q⟩:=q;obtain⟨as,r1⟩:=h1 X pins σ s _ rfl I ry;obtain⟨bs,r2⟩:=h2 X pins σ s _ rfl I rx;exact SeqAt.in_list_reads r1 r2 h3 h4 (by omega) ⟨.bl _,H,I,rfl,q⟩
end
end L2
namespace My
open PySem L2
def T2{X:Cx}(K:W.Frag)(h:X.K=K:=by rfl):=bf (X:=X) (K:=K) h
def T3{X:Cx}(K:W.Frag)(h:X.K=K:=by rfl):=gU (X:=X) (K:=K) h
def T4{X:Cx}(K:W.Frag)(h:X.K=K:=by rfl):=bz (X:=X) (K:=K) h
def T5{X:Cx}(K:W.Frag)(h:X.K=K:=by rfl):=ay (X:=X) (K:=K) h
def T6{X:Cx}(K:W.Frag)(h:X.K=K:=by rfl):=dR (X:=X) (K:=K) h
def T7{X:Cx}(K:W.Frag)(h:X.K=K:=by rfl):=fN (X:=X) (K:=K) h
def top(i:Nat):Stmt:=PySem.Challenge.pw_bytetongue_k73_whole_parts.main.body.getD i (.Pass ⟨0,0,0,0⟩)
abbrev kK:Stmt:=top 12
abbrev kN:Stmt:=top 13
abbrev kL:Stmt:=top 14
abbrev kH:Stmt:=top 15
abbrev kJ:Stmt:=top 16
abbrev kI:Stmt:=top 17
abbrev ju:Stmt:=top 18
abbrev lT:Stmt:=bJ (top 21) 0
abbrev lS:Stmt:=bJ (top 21) 1
abbrev lO:Stmt:=bJ (top 2) 0
abbrev mh:Stmt:=bJ (top 23) 0
abbrev mf:Stmt:=bJ (top 23) 1
abbrev lQ:Stmt:=bJ (top 2) 4
abbrev lP:Stmt:=bJ (top 2) 7
abbrev lR:Stmt:=bJ (top 2) 8
abbrev lJ:Stmt:=bJ (top 2) 9
abbrev lN:Stmt:=bJ (top 2) 10
abbrev lM:Stmt:=bJ (top 2) 11
abbrev lK:Stmt:=bJ (top 2) 13
abbrev kz:Stmt:=top 24
abbrev kR:Stmt:=top 33
abbrev kD:Stmt:=top 34
abbrev ku:Stmt:=top 35
abbrev kW:Stmt:=bJ (top 37) 1
abbrev kX:Stmt:=bJ (top 37) 3
abbrev kU:Stmt:=bJ (top 37) 4
abbrev kZ:Stmt:=bJ (top 37) 5
abbrev kY:Stmt:=bJ (top 37) 6
abbrev kF:Stmt:=top 44
abbrev js:Stmt:=top 45
abbrev kG:Stmt:=top 46
abbrev kS:Stmt:=top 47
abbrev kO:Stmt:=top 48
abbrev kE:Stmt:=top 49
abbrev jv:Stmt:=top 50
abbrev me:Stmt:=bJ (top 51) 1
abbrev ma:Stmt:=bJ (top 51) 2
abbrev jx:Stmt:=bJ (top 51) 3
abbrev kr:Stmt:=top 56
abbrev kx:Stmt:=top 57
abbrev lZ:Stmt:=bJ (top 58) 0
abbrev lV:Stmt:=bJ (top 58) 1
abbrev lW:Stmt:=bJ (top 58) 3
abbrev lY:Stmt:=bJ (top 58) 4
abbrev jw:Stmt:=bJ (top 58) 5
abbrev lX:Stmt:=bJ (top 58) 6
abbrev lU:Stmt:=bJ (top 58) 7
abbrev l7:Stmt:=bJ (top 58) 8
abbrev kT:Stmt:=top 60
abbrev ky:Stmt:=top 64
abbrev lH:Stmt:=bJ (top 65) 0
abbrev lG:Stmt:=bJ (top 65) 1
abbrev lD:Stmt:=bJ (top 65) 6
abbrev lE:Stmt:=bJ (top 65) 7
abbrev lC:Stmt:=bJ (top 65) 8
abbrev lI:Stmt:=bJ (top 65) 9
abbrev kM:Stmt:=top 69
abbrev kP:Stmt:=top 70
abbrev kQ:Stmt:=top 71
abbrev lh:Stmt:=bJ (top 72) 0
abbrev lj:Stmt:=bJ (top 72) 1
abbrev lg:Stmt:=bJ (top 72) 4
abbrev lf:Stmt:=bJ (top 72) 5
abbrev li:Stmt:=bJ (top 72) 6
abbrev km:Stmt:=top 74
abbrev kj:Stmt:=top 75
abbrev kg:Stmt:=top 76
abbrev kl:Stmt:=top 77
abbrev ko:Stmt:=top 78
abbrev iW:Stmt:=top 79
abbrev jp:Stmt:=top 80
abbrev kf:Stmt:=top 81
abbrev jo:Stmt:=top 82
abbrev j8:Stmt:=top 83
abbrev kh:Stmt:=top 84
abbrev kc:Stmt:=top 85
abbrev j9:Stmt:=top 86
abbrev iz:Stmt:=top 87
abbrev ki:Stmt:=top 88
abbrev ke:Stmt:=top 89
abbrev jr:Stmt:=top 90
abbrev ka:Stmt:=top 91
abbrev jq:Stmt:=top 92
abbrev j7:Stmt:=top 93
abbrev iV:Stmt:=top 94
abbrev jt:Stmt:=top 95
theorem Hy:aM ["thing"] ["thing"] (ak kK):=by constructor<;>first|rfl|decide +kernel
theorem HE:aM ["thing"] ["thing"] (ak kN):=by constructor<;>first|rfl|decide +kernel
theorem Hz:aM ["number"] ["number"] (ak kL):=by constructor<;>first|rfl|decide +kernel
theorem Hu:aM ["number"] ["number"] (ak kH):=by constructor<;>first|rfl|decide +kernel
theorem Hw:aM ["thing"] ["thing"] (ak kJ):=by constructor<;>first|rfl|decide +kernel
theorem Hv:aM ["thing"] ["thing"] (ak kI):=by constructor<;>first|rfl|decide +kernel
theorem Hx:aM ["thing"] ["thing"] (ak ju):=by constructor<;>first|rfl|decide +kernel
theorem Ib:aM ["self", "sign"] ["self", "sign"] (ak lT):=by constructor<;>first|rfl|decide +kernel
theorem Ia:aM ["self", "row"] ["self", "row"] (ak lS):=by constructor<;>first|rfl|decide +kernel
theorem HY:aM ["self", "tongue", "place"] ["self", "tongue", "place"] (ak lO):=by constructor<;>first|rfl|decide +kernel
theorem Ik:aM ["self", "tongue", "way", "place"] ["self", "tongue", "way", "place"] (ak mh):=by constructor<;>first|rfl|decide +kernel
theorem o0:aM ["self", "length", "kind", "told"] ["self", "length", "kind"] (ak mf):=by constructor<;>first|rfl|decide +kernel
theorem HZ:aM ["self"] ["self"] (ak lQ):=by constructor<;>first|rfl|decide +kernel
theorem tm:aM ["self", "row", "signs", "byte"] ["self", "row"] (ak lP):=by constructor<;>first|rfl|decide +kernel
theorem AQ:aM ["self", "signs"] ["self"] (ak lR):=by constructor<;>first|rfl|decide +kernel
theorem HW:aM ["self", "byte"] ["self", "byte"] (ak lJ):=by constructor<;>first|rfl|decide +kernel
theorem m5:aM ["self", "found"] ["self"] (ak lN):=by constructor<;>first|rfl|decide +kernel
theorem oZ:aM ["self", "ahead_of_last"] ["self"] (ak lM):=by constructor<;>first|rfl|decide +kernel
theorem HX:aM ["self", "length", "kind"] ["self", "length", "kind"] (ak lK):=by constructor<;>first|rfl|decide +kernel
theorem hU:aM ["tongue", "row", "reader", "things", "faults", "parts", "page", "thing", "fault", "spelled"] ["tongue", "row"] (ak kz):=by constructor<;>first|rfl|decide +kernel
theorem HG:aM ["number", "bits"] ["number", "bits"] (ak kR):=by constructor<;>first|rfl|decide +kernel
theorem mZ:aM ["number", "bits", "many", "rising", "step", "higher"] ["number", "bits", "many"] (ak kD):=by constructor<;>first|rfl|decide +kernel
theorem oX:aM ["parts", "bits", "number", "part"] ["parts", "bits"] (ak ku):=by constructor<;>first|rfl|decide +kernel
theorem HL:aM ["self"] ["self"] (ak kW):=by constructor<;>first|rfl|decide +kernel
theorem HM:aM ["self", "sign", "page"] ["self", "sign", "page"] (ak kX):=by constructor<;>first|rfl|decide +kernel
theorem HK:aM ["self", "row", "page"] ["self", "row", "page"] (ak kU):=by constructor<;>first|rfl|decide +kernel
theorem HN:aM ["self", "row", "page"] ["self", "row", "page"] (ak kZ):=by constructor<;>first|rfl|decide +kernel
theorem AK:aM ["self", "begun", "page", "found"] ["self", "begun", "page"] (ak kY):=by constructor<;>first|rfl|decide +kernel
theorem Hs:aM ["sign"] ["sign"] (ak kF):=by constructor<;>first|rfl|decide +kernel
theorem sX:aM ["sign", "length", "parts"] ["sign"] (ak js):=by constructor<;>first|rfl|decide +kernel
theorem Ht:aM ["first"] ["first"] (ak kG):=by constructor<;>first|rfl|decide +kernel
theorem HI:aM ["row", "place"] ["row", "place"] (ak kS):=by constructor<;>first|rfl|decide +kernel
theorem sY:aM ["row", "place", "bounds"] ["row"] (ak kO):=by constructor<;>first|rfl|decide +kernel
theorem AJ:aM ["row", "lack"] ["row"] (ak kE):=by constructor<;>first|rfl|decide +kernel
theorem HH:aM ["row"] ["row"] (ak jv):=by constructor<;>first|rfl|decide +kernel
theorem Ij:aM ["self", "sign", "page"] ["self", "sign", "page"] (ak me):=by constructor<;>first|rfl|decide +kernel
theorem Ii:aM ["self", "row", "page"] ["self", "row", "page"] (ak ma):=by constructor<;>first|rfl|decide +kernel
theorem AT:aM ["self", "row", "page", "lack"] ["self", "row", "page"] (ak jx):=by constructor<;>first|rfl|decide +kernel
theorem AI:aM ["sign", "parts"] ["sign"] (ak kr):=by constructor<;>first|rfl|decide +kernel
theorem Hr:aM ["units"] ["units"] (ak kx):=by constructor<;>first|rfl|decide +kernel
theorem Ih:aM ["self", "order"] ["self", "order"] (ak lZ):=by constructor<;>first|rfl|decide +kernel
theorem Id:aM ["self"] ["self"] (ak lV):=by constructor<;>first|rfl|decide +kernel
theorem Ie:aM ["self", "pair"] ["self", "pair"] (ak lW):=by constructor<;>first|rfl|decide +kernel
theorem tq:aM ["self", "units", "row", "number"] ["self", "units"] (ak lY):=by constructor<;>first|rfl|decide +kernel
theorem Ic:aM ["self", "row"] ["self", "row"] (ak jw):=by constructor<;>first|rfl|decide +kernel
theorem Ig:aM ["self", "sign", "page"] ["self", "sign", "page"] (ak lX):=by constructor<;>first|rfl|decide +kernel
theorem AR:aM ["self", "row", "page", "sign"] ["self", "row", "page"] (ak lU):=by constructor<;>first|rfl|decide +kernel
theorem AS:aM ["self", "row", "page", "rest"] ["self", "row", "page"] (ak l7):=by constructor<;>first|rfl|decide +kernel
theorem HJ:aM ["one", "other"] ["one", "other"] (ak kT):=by constructor<;>first|rfl|decide +kernel
theorem oY:aM ["signs", "which", "places", "place", "sign"] ["signs", "which"] (ak ky):=by constructor<;>first|rfl|decide +kernel
theorem HU:aM ["self", "first", "second"] ["self", "first", "second"] (ak lH):=by constructor<;>first|rfl|decide +kernel
theorem tj:aM ["self", "page", "place", "sign"] ["self", "page"] (ak lG):=by constructor<;>first|rfl|decide +kernel
theorem HQ:aM ["self", "sign", "page"] ["self", "sign", "page"] (ak lD):=by constructor<;>first|rfl|decide +kernel
theorem HS:aM ["self", "byte", "page"] ["self", "byte", "page"] (ak lE):=by constructor<;>first|rfl|decide +kernel
theorem sZ:aM ["self", "row", "page", "sign"] ["self", "row", "page"] (ak lC):=by constructor<;>first|rfl|decide +kernel
theorem HV:aM ["self", "row", "page"] ["self", "row", "page"] (ak lI):=by constructor<;>first|rfl|decide +kernel
theorem HD:aM ["thing"] ["thing"] (ak kM):=by constructor<;>first|rfl|decide +kernel
theorem HF:aM ["one", "other"] ["one", "other"] (ak kP):=by constructor<;>first|rfl|decide +kernel
theorem m4:aM ["rows", "other", "entry", "one", "earlier"] ["rows"] (ak kQ):=by constructor<;>first|rfl|decide +kernel
theorem AM:aM ["self", "rows", "entry"] ["self", "rows"] (ak lh):=by constructor<;>first|rfl|decide +kernel
theorem AO:aM ["self", "sign", "row", "size"] ["self", "sign", "row"] (ak lj):=by constructor<;>first|rfl|decide +kernel
theorem HP:aM ["self", "sign", "page"] ["self", "sign", "page"] (ak lg):=by constructor<;>first|rfl|decide +kernel
theorem AL:aM ["self", "row", "page", "sign"] ["self", "row", "page"] (ak lf):=by constructor<;>first|rfl|decide +kernel
theorem AN:aM ["self", "row", "page", "rest"] ["self", "row", "page"] (ak li):=by constructor<;>first|rfl|decide +kernel
theorem Hq:aM ["_law_script", "_law_at"] ["_law_script", "_law_at"] (ak km):=by constructor<;>first|rfl|decide +kernel
theorem Ho:aM ["_law_found"] ["_law_found"] (ak kj):=by constructor<;>first|rfl|decide +kernel
theorem AG:aM ["_law_number", "_law_k"] ["_law_number", "_law_k"] (ak kg):=by constructor<;>first|rfl|decide +kernel
theorem oW:aM ["_law_number", "_law_sign"] ["_law_number"] (ak kl):=by constructor<;>first|rfl|decide +kernel
theorem AH:aM ["_law_number", "_law_edges"] ["_law_number"] (ak ko):=by constructor<;>first|rfl|decide +kernel
theorem j5:aM ["_law_number", "_law_sizes", "_law_base", "_law_first", "_law_second"] ["_law_number"] (ak iW):=by constructor<;>first|rfl|decide +kernel
theorem iT:aM ["_law_number", "_law_signs", "_law_rows", "_law_k", "_law_far", "_law_row_here"] ["_law_number"] (ak jp):=by constructor<;>first|rfl|decide +kernel
theorem j4:aM ["_law_cell", "_law_number", "_law_first", "_law_second", "_law_signs", "_law_rows"] ["_law_cell"] (ak kf):=by constructor<;>first|rfl|decide +kernel
theorem oR:aM ["_law_model_here", "_law_word", "_law_first", "_law_second"] ["_law_model_here"] (ak jo):=by constructor<;>first|rfl|decide +kernel
theorem Hm:aM ["_law_model_here"] ["_law_model_here"] (ak j8):=by constructor<;>first|rfl|decide +kernel
theorem Hn:aM ["_law_sign"] ["_law_sign"] (ak kh):=by constructor<;>first|rfl|decide +kernel
theorem jn:aM ["_law_sign", "_law_word", "_law_units_here", "_law_row_here", "_law_number"] ["_law_sign", "_law_word"] (ak kc):=by constructor<;>first|rfl|decide +kernel
theorem oS:aM ["_law_model_here", "_law_sign", "_law_page_here", "_law_word", "_law_first", "_law_second"] ["_law_model_here", "_law_sign", "_law_page_here"] (ak j9):=by constructor<;>first|rfl|decide +kernel
theorem j3:aM ["_law_model_here", "_law_cells", "_law_word", "_law_first", "_law_second", "_law_some"] ["_law_model_here", "_law_cells"] (ak iz):=by constructor<;>first|rfl|decide +kernel
theorem hJ:aM ["_law_kept", "_law_first", "_law_low", "_law_high", "_law_byte", "_law_size"] ["_law_kept"] (ak ki):=by constructor<;>first|rfl|decide +kernel
theorem mY:aM ["_law_kept", "_law_word", "_law_units_here", "_law_k", "_law_one", "_law_other"] ["_law_kept", "_law_word"] (ak ke):=by constructor<;>first|rfl|decide +kernel
theorem j6:aM ["_law_model_here", "_law_kept", "_law_page_here", "_law_word", "_law_first", "_law_second", "_law_here", "_law_there"] ["_law_model_here", "_law_kept", "_law_page_here"] (ak jr):=by constructor<;>first|rfl|decide +kernel
theorem fQ:aM ["_law_model_here", "_law_cells", "_law_edges", "_law_text_here", "_law_row_here", "_law_page_here", "_law_k", "_law_cell", "_law_way", "_law_part", "_law_after"] ["_law_model_here", "_law_cells"] (ak ka):=by constructor<;>first|rfl|decide +kernel
theorem oU:aM ["_law_told", "_law_row_here", "_law_left", "_law_one"] ["_law_told", "_law_row_here"] (ak jq):=by constructor<;>first|rfl|decide +kernel
theorem oQ:aM ["_law_model_here", "_law_part", "_law_page_here", "_law_unit_here", "_law_words", "_law_k"] ["_law_model_here", "_law_part", "_law_page_here"] (ak j7):=by constructor<;>first|rfl|decide +kernel
theorem iU:aM ["_law_model_here", "_law_word", "_law_part", "_law_thing", "_law_page_here", "_law_next_unit", "_law_unit_here", "_law_told", "_law_words", "_law_good"] ["_law_model_here", "_law_word", "_law_part", "_law_thing", "_law_page_here", "_law_next_unit"] (ak iV):=by constructor<;>first|rfl|decide +kernel
theorem eR:aM ["_law_script", "_law_model_here", "_law_row_here", "_law_tongue_here", "_law_handed", "_law_told", "_law_at", "_law_page_here", "_law_word", "_law_part", "_law_thing", "_law_kept"] ["_law_script"] (ak jt):=by constructor<;>first|rfl|decide +kernel
set_option genInjectivity false in
structure Adr where
 yr:Addr
 vx:FuncData
 yw:Addr
 vA:FuncData
 yt:Addr
 vy:FuncData
 yn:Addr
 vo:FuncData
 yp:Addr
 vt:FuncData
 yo:Addr
 vp:FuncData
 yq:Addr
 vw:FuncData
 yS:Addr
 qE:FuncData
 ud_Put_init_0:Tok
 yR:Addr
 vR:FuncData
 yN:Addr
 qD:FuncData
 ud_Reader_init_0:Tok
 r6:Addr
 nW:FuncData
 ud_GoingReader_init_0:Tok
 r0:Addr
 qG:FuncData
 yP:Addr
 vP:FuncData
 yO:Addr
 vN:FuncData
 yQ:Addr
 vQ:FuncData
 yL:Addr
 vL:FuncData
 mI:Addr
 mE:FuncData
 rS:Addr
 qC:FuncData
 yM:Addr
 vM:FuncData
 yg:Addr
 vg:FuncData
 yB:Addr
 vE:FuncData
 yh:Addr
 vh:FuncData
 yd:Addr
 vd:FuncData
 io:Addr
 jH:FuncData
 yG:Addr
 qy:FuncData
 ud_Tongue_spell_0:Tok
 yF:Addr
 qx:FuncData
 ud_Tongue_whole_0:Tok
 yH:Addr
 qz:FuncData
 ud_Tongue_fill_0:Tok
 gJ:Addr
 iM:FuncData
 ud_Tongue_look_0:Tok
 yj:Addr
 vj:FuncData
 yl:Addr
 vm:FuncData
 yk:Addr
 vk:FuncData
 yD:Addr
 vG:FuncData
 yy:Addr
 vB:FuncData
 yi:Addr
 vi:FuncData
 yC:Addr
 vF:FuncData
 rY:Addr
 nU:FuncData
 ud_LeadTongue_spell_0:Tok
 rX:Addr
 nT:FuncData
 ud_LeadTongue_whole_0:Tok
 rZ:Addr
 nV:FuncData
 ud_LeadTongue_fill_0:Tok
 yc:Addr
 va:FuncData
 ye:Addr
 ve:FuncData
 rV:Addr
 nR:FuncData
 ud_PairTongue_init_0:Tok
 yU:Addr
 vT:FuncData
 yV:Addr
 vU:FuncData
 yW:Addr
 vV:FuncData
 yT:Addr
 vS:FuncData
 rU:Addr
 nQ:FuncData
 ud_PairTongue_spell_0:Tok
 rT:Addr
 nP:FuncData
 ud_PairTongue_whole_0:Tok
 rW:Addr
 nS:FuncData
 ud_PairTongue_fill_0:Tok
 yE:Addr
 vH:FuncData
 yf:Addr
 vf:FuncData
 rQ:Addr
 qB:FuncData
 yK:Addr
 vK:FuncData
 rP:Addr
 nN:FuncData
 ud_ShiftTongue_spell_0:Tok
 yJ:Addr
 vJ:FuncData
 rO:Addr
 nM:FuncData
 ud_ShiftTongue_whole_0:Tok
 rR:Addr
 nO:FuncData
 ud_ShiftTongue_fill_0:Tok
 yu:Addr
 vz:FuncData
 yz:Addr
 vC:FuncData
 yA:Addr
 vD:FuncData
 rM:Addr
 qA:FuncData
 yI:Addr
 vI:FuncData
 rL:Addr
 nK:FuncData
 ud_TableTongue_spell_0:Tok
 rK:Addr
 nJ:FuncData
 ud_TableTongue_whole_0:Tok
 rN:Addr
 nL:FuncData
 ud_TableTongue_fill_0:Tok
 x9:Addr
 uX:FuncData
 x6:Addr
 uV:FuncData
 xV:Addr
 uQ:FuncData
 x8:Addr
 uW:FuncData
 yb:Addr
 uZ:FuncData
 xW:Addr
 uR:FuncData
 xN:Addr
 uJ:FuncData
 xU:Addr
 uP:FuncData
 xL:Addr
 uH:FuncData
 xK:Addr
 uG:FuncData
 xX:Addr
 uS:FuncData
 xQ:Addr
 uM:FuncData
 xO:Addr
 uK:FuncData
 xM:Addr
 uI:FuncData
 xY:Addr
 uT:FuncData
 xR:Addr
 uN:FuncData
 ya:Addr
 uY:FuncData
 xP:Addr
 uL:FuncData
 xZ:Addr
 uU:FuncData
 xJ:Addr
 uF:FuncData
 xT:Addr
 uO:FuncData
 ym:Addr
 qw:FuncData
 dZ:Addr
 bD:Addr
 fB:Addr
 eY:Addr
 cN:Addr
 bU:Addr
 cn:Addr
 DD:Addr
 FJ:Tok
 FI:Tok
 yX:Addr
 h_FILLS_0:Int
 a_FILLS_0:Addr
 a_FILLS_0_0:Addr
 a_FILLS_0_1:Addr
 a_FILLS_0_2:Addr
 a_FILLS_0_3:Addr
 a_FILLS_0_4:Addr
 h_FILLS_1:Int
 a_FILLS_1:Addr
 a_FILLS_1_0:Addr
 a_FILLS_1_1:Addr
 a_FILLS_1_2:Addr
 a_FILLS_1_3:Addr
 a_FILLS_1_4:Addr
 FH:Tok
 FG:Tok
 FF:Tok
 FE:Tok
 FD:Tok
 FC:Tok
 FB:Tok
 FA:Tok
 Fz:Tok
 Fy:Tok
 Fx:Tok
 oh:Addr
 Fw:Tok
 Fv:Tok
 Fu:Tok
 D2:Addr
 a_SECONDS_0:Addr
 a_SECONDS_1:Addr
 a_SECONDS_2:Addr
 a_SECONDS_3:Addr
 a_SECONDS_4:Addr
 mH:Addr
structure Txt (w:World) (K:PySem.W.Frag) (mg:Str->Option Value) (t:Adr):Prop where
 EN:aS K "is_number" "is_number" kK t.yr t.vx
 Rv:aq K t.vx ["thing"] []
 OZ:mg "is_number" = some (.ref t.yr)
 ER:aS K "is_byte" "is_byte" kN t.yw t.vA
 Ry:aq K t.vA ["thing"] []
 O2:mg "is_byte" = some (.ref t.yw)
 EO:aS K "is_head" "is_head" kL t.yt t.vy
 Rw:aq K t.vy ["number"] []
 O0:mg "is_head" = some (.ref t.yt)
 EJ:aS K "is_tail" "is_tail" kH t.yn t.vo
 Rr:aq K t.vo ["number"] []
 OV:mg "is_tail" = some (.ref t.yn)
 EL:aS K "is_seen_byte" "is_seen_byte" kJ t.yp t.vt
 Rt:aq K t.vt ["thing"] []
 OX:mg "is_seen_byte" = some (.ref t.yp)
 EK:aS K "is_sign" "is_sign" kI t.yo t.vp
 Rs:aq K t.vp ["thing"] []
 OW:mg "is_sign" = some (.ref t.yo)
 EM:aS K "is_row" "is_row" ju t.yq t.vw
 Ru:aq K t.vw ["thing"] []
 OY:mg "is_row" = some (.ref t.yq)
 ST:cY K "__init__" "Put.__init__" lT t.yS t.qE [.int 65533 t.ud_Put_init_0]
 Tv:aq K t.qE ["self", "sign"] [.int 65533 t.ud_Put_init_0]
 R3:aq K t.qE ["self", "sign"] []
 SS:aS K "told" "Put.told" lS t.yR t.vR
 R1:aq K t.vR ["self", "row"] []
 E1:cY K "__init__" "Reader.__init__" lO t.yN t.qD [.int 0 t.ud_Reader_init_0]
 Tu:aq K t.qD ["self", "tongue", "place"] [.int 0 t.ud_Reader_init_0]
 RX:aq K t.qD ["self", "tongue", "place"] []
 S5:cY K "__init__" "GoingReader.__init__" mh t.r6 t.nW [.int 0 t.ud_GoingReader_init_0]
 QN:aq K t.nW ["self", "tongue", "way", "place"] [.int 0 t.ud_GoingReader_init_0]
 TF:aq K t.nW ["self", "tongue", "way", "place"] []
 E2:aS K "meet" "GoingReader.meet" mf t.r0 t.qG
 DT:aq K t.qG ["self", "length", "kind"] []
 SQ:aS K "faults" "Reader.faults" lQ t.yP t.vP
 RZ:aq K t.vP ["self"] []
 SO:aS K "feed" "Reader.feed" lP t.yO t.vN
 RY:aq K t.vN ["self", "row"] []
 SR:aS K "end" "Reader.end" lR t.yQ t.vQ
 R0:aq K t.vQ ["self"] []
 SM:aS K "take" "Reader.take" lJ t.yL t.vL
 RV:aq K t.vL ["self", "byte"] []
 zg:aS K "look_at_begun" "Reader.look_at_begun" lN t.mI t.mE
 xI:aq K t.mE ["self"] []
 EZ:aS K "meet_none" "Reader.meet_none" lM t.rS t.qC
 DS:aq K t.qC ["self"] []
 SN:aS K "note" "Reader.note" lK t.yM t.vM
 RW:aq K t.vM ["self", "length", "kind"] []
 ED:aS K "parts_of" "parts_of" kz t.yg t.vg
 Rk:aq K t.vg ["tongue", "row"] []
 OL:mg "parts_of" = some (.ref t.yg)
 EV:aS K "check_room" "check_room" kR t.yB t.vE
 RC:aq K t.vE ["number", "bits"] []
 O9:mg "check_room" = some (.ref t.yB)
 EE:aS K "parted" "parted" kD t.yh t.vh
 Rl:aq K t.vh ["number", "bits", "many"] []
 OM:mg "parted" = some (.ref t.yh)
 EA:aS K "together" "together" ku t.yd t.vd
 Rh:aq K t.vd ["parts", "bits"] []
 OF:mg "together" = some (.ref t.yd)
 Sw:aS K "unit" "Tongue.unit" kW t.io t.jH
 rH:aq K t.jH ["self"] []
 Sx:cY K "spell" "Tongue.spell" kX t.yG t.qy [.int 0 t.ud_Tongue_spell_0]
 Tk:aq K t.qy ["self", "sign", "page"] [.int 0 t.ud_Tongue_spell_0]
 RH:aq K t.qy ["self", "sign", "page"] []
 Sv:cY K "whole" "Tongue.whole" kU t.yF t.qx [.int 0 t.ud_Tongue_whole_0]
 Tj:aq K t.qx ["self", "row", "page"] [.int 0 t.ud_Tongue_whole_0]
 RG:aq K t.qx ["self", "row", "page"] []
 Sz:cY K "fill" "Tongue.fill" kZ t.yH t.qz [.int 0 t.ud_Tongue_fill_0]
 Tm:aq K t.qz ["self", "row", "page"] [.int 0 t.ud_Tongue_fill_0]
 RI:aq K t.qz ["self", "row", "page"] []
 Sy:cY K "look" "Tongue.look" kY t.gJ t.iM [.int 0 t.ud_Tongue_look_0]
 Tl:aq K t.iM ["self", "begun", "page"] [.int 0 t.ud_Tongue_look_0]
 n5:aq K t.iM ["self", "begun", "page"] []
 EG:aS K "length_of" "length_of" kF t.yj t.vj
 Rn:aq K t.vj ["sign"] []
 OR:mg "length_of" = some (.ref t.yj)
 EI:aS K "lead_row" "lead_row" js t.yl t.vm
 Rp:aq K t.vm ["sign"] []
 OT:mg "lead_row" = some (.ref t.yl)
 EH:aS K "length_behind" "length_behind" kG t.yk t.vk
 Ro:aq K t.vk ["first"] []
 OS:mg "length_behind" = some (.ref t.yk)
 EX:aS K "bounds_behind" "bounds_behind" kS t.yD t.vG
 RE:aq K t.vG ["row", "place"] []
 Pb:mg "bounds_behind" = some (.ref t.yD)
 ES:aS K "fits_behind" "fits_behind" kO t.yy t.vB
 Rz:aq K t.vB ["row"] []
 O5:mg "fits_behind" = some (.ref t.yy)
 EF:aS K "missing" "missing" kE t.yi t.vi
 Rm:aq K t.vi ["row"] []
 OQ:mg "missing" = some (.ref t.yi)
 EW:aS K "carried" "carried" jv t.yC t.vF
 RD:aq K t.vF ["row"] []
 Pa:mg "carried" = some (.ref t.yC)
 S3:cY K "spell" "LeadTongue.spell" me t.rY t.nU [.int 0 t.ud_LeadTongue_spell_0]
 TC:aq K t.nU ["self", "sign", "page"] [.int 0 t.ud_LeadTongue_spell_0]
 Se:aq K t.nU ["self", "sign", "page"] []
 S2:cY K "whole" "LeadTongue.whole" ma t.rX t.nT [.int 0 t.ud_LeadTongue_whole_0]
 TB:aq K t.nT ["self", "row", "page"] [.int 0 t.ud_LeadTongue_whole_0]
 Sd:aq K t.nT ["self", "row", "page"] []
 S4:cY K "fill" "LeadTongue.fill" jx t.rZ t.nV [.int 0 t.ud_LeadTongue_fill_0]
 TD:aq K t.nV ["self", "row", "page"] [.int 0 t.ud_LeadTongue_fill_0]
 Sf:aq K t.nV ["self", "row", "page"] []
 Ez:aS K "units_of" "units_of" kr t.yc t.va
 Rg:aq K t.va ["sign"] []
 OE:mg "units_of" = some (.ref t.yc)
 EB:aS K "sign_of" "sign_of" kx t.ye t.ve
 Ri:aq K t.ve ["units"] []
 OI:mg "sign_of" = some (.ref t.ye)
 S0:cY K "__init__" "PairTongue.__init__" lZ t.rV t.nR [.str "high" t.ud_PairTongue_init_0]
 Ty:aq K t.nR ["self", "order"] [.str "high" t.ud_PairTongue_init_0]
 Sa:aq K t.nR ["self", "order"] []
 SW:aS K "unit" "PairTongue.unit" lV t.yU t.vT
 R6:aq K t.vT ["self"] []
 SX:aS K "turned" "PairTongue.turned" lW t.yV t.vU
 R7:aq K t.vU ["self", "pair"] []
 SZ:aS K "row_of" "PairTongue.row_of" lY t.yW t.vV
 R9:aq K t.vV ["self", "units"] []
 SV:aS K "units_in" "PairTongue.units_in" jw t.yT t.vS
 R5:aq K t.vS ["self", "row"] []
 SY:cY K "spell" "PairTongue.spell" lX t.rU t.nQ [.int 0 t.ud_PairTongue_spell_0]
 Tx:aq K t.nQ ["self", "sign", "page"] [.int 0 t.ud_PairTongue_spell_0]
 R8:aq K t.nQ ["self", "sign", "page"] []
 SU:cY K "whole" "PairTongue.whole" lU t.rT t.nP [.int 0 t.ud_PairTongue_whole_0]
 Tw:aq K t.nP ["self", "row", "page"] [.int 0 t.ud_PairTongue_whole_0]
 R4:aq K t.nP ["self", "row", "page"] []
 S1:cY K "fill" "PairTongue.fill" l7 t.rW t.nS [.int 0 t.ud_PairTongue_fill_0]
 Tz:aq K t.nS ["self", "row", "page"] [.int 0 t.ud_PairTongue_fill_0]
 Sc:aq K t.nS ["self", "row", "page"] []
 EY:aS K "begins" "begins" kT t.yE t.vH
 RF:aq K t.vH ["one", "other"] []
 Pd:mg "begins" = some (.ref t.yE)
 EC:aS K "places_in" "places_in" ky t.yf t.vf
 Rj:aq K t.vf ["signs", "which"] []
 OK:mg "places_in" = some (.ref t.yf)
 SK:aS K "__init__" "ShiftTongue.__init__" lH t.rQ t.qB
 RT:aq K t.qB ["self", "first", "second"] []
 SJ:aS K "row_beyond" "ShiftTongue.row_beyond" lG t.yK t.vK
 RS:aq K t.vK ["self", "page"] []
 SG:cY K "spell" "ShiftTongue.spell" lD t.rP t.nN [.int 0 t.ud_ShiftTongue_spell_0]
 Tr:aq K t.nN ["self", "sign", "page"] [.int 0 t.ud_ShiftTongue_spell_0]
 RP:aq K t.nN ["self", "sign", "page"] []
 SH:aS K "sign_of" "ShiftTongue.sign_of" lE t.yJ t.vJ
 RQ:aq K t.vJ ["self", "byte", "page"] []
 SF:cY K "whole" "ShiftTongue.whole" lC t.rO t.nM [.int 0 t.ud_ShiftTongue_whole_0]
 Tq:aq K t.nM ["self", "row", "page"] [.int 0 t.ud_ShiftTongue_whole_0]
 RO:aq K t.nM ["self", "row", "page"] []
 SL:cY K "fill" "ShiftTongue.fill" lI t.rR t.nO [.int 0 t.ud_ShiftTongue_fill_0]
 Ts:aq K t.nO ["self", "row", "page"] [.int 0 t.ud_ShiftTongue_fill_0]
 RU:aq K t.nO ["self", "row", "page"] []
 EQ:aS K "is_entry" "is_entry" kM t.yu t.vz
 Rx:aq K t.vz ["thing"] []
 O1:mg "is_entry" = some (.ref t.yu)
 ET:aS K "collide" "collide" kP t.yz t.vC
 RA:aq K t.vC ["one", "other"] []
 O7:mg "collide" = some (.ref t.yz)
 EU:aS K "check_table" "check_table" kQ t.yA t.vD
 RB:aq K t.vD ["rows"] []
 O8:mg "check_table" = some (.ref t.yA)
 SC:aS K "__init__" "TableTongue.__init__" lh t.rM t.qA
 RL:aq K t.qA ["self", "rows"] []
 SE:aS K "enter" "TableTongue.enter" lj t.yI t.vI
 RN:aq K t.vI ["self", "sign", "row"] []
 SB:cY K "spell" "TableTongue.spell" lg t.rL t.nK [.int 0 t.ud_TableTongue_spell_0]
 To:aq K t.nK ["self", "sign", "page"] [.int 0 t.ud_TableTongue_spell_0]
 RK:aq K t.nK ["self", "sign", "page"] []
 SA:cY K "whole" "TableTongue.whole" lf t.rK t.nJ [.int 0 t.ud_TableTongue_whole_0]
 Tn:aq K t.nJ ["self", "row", "page"] [.int 0 t.ud_TableTongue_whole_0]
 RJ:aq K t.nJ ["self", "row", "page"] []
 SD:cY K "fill" "TableTongue.fill" li t.rN t.nL [.int 0 t.ud_TableTongue_fill_0]
 Tp:aq K t.nL ["self", "row", "page"] [.int 0 t.ud_TableTongue_fill_0]
 RM:aq K t.nL ["self", "row", "page"] []
 Ew:aS K "_law_drawn" "_law_drawn" km t.x9 t.uX
 Rc:aq K t.uX ["_law_script", "_law_at"] []
 OB:mg "_law_drawn" = some (.ref t.x9)
 Et:aS K "_law_is_number" "_law_is_number" kj t.x6 t.uV
 Ra:aq K t.uV ["_law_found"] []
 Oz:mg "_law_is_number" = some (.ref t.x6)
 Em:aS K "_law_mixed" "_law_mixed" kg t.xV t.uQ
 Q5:aq K t.uQ ["_law_number", "_law_k"] []
 Ou:mg "_law_mixed" = some (.ref t.xV)
 Eu:aS K "_law_gapped" "_law_gapped" kl t.x8 t.uW
 Rb:aq K t.uW ["_law_number"] []
 OA:mg "_law_gapped" = some (.ref t.x8)
 Ey:aS K "_law_as_sign" "_law_as_sign" ko t.yb t.uZ
 Rf:aq K t.uZ ["_law_number"] []
 OD:mg "_law_as_sign" = some (.ref t.yb)
 En:aS K "_law_lists" "_law_lists" iW t.xW t.uR
 Q6:aq K t.uR ["_law_number"] []
 Ov:mg "_law_lists" = some (.ref t.xW)
 Ef:aS K "_law_table" "_law_table" jp t.xN t.uJ
 QV:aq K t.uJ ["_law_number"] []
 Om:mg "_law_table" = some (.ref t.xN)
 El:aS K "_law_model" "_law_model" kf t.xU t.uP
 Q4:aq K t.uP ["_law_cell"] []
 Ot:mg "_law_model" = some (.ref t.xU)
 Ed:aS K "_law_tongue" "_law_tongue" jo t.xL t.uH
 QR:aq K t.uH ["_law_model_here"] []
 Oj:mg "_law_tongue" = some (.ref t.xL)
 Ec:aS K "_law_unit" "_law_unit" j8 t.xK t.uG
 QQ:aq K t.uG ["_law_model_here"] []
 Oi:mg "_law_unit" = some (.ref t.xK)
 Eo:aS K "_law_lead_row" "_law_lead_row" kh t.xX t.uS
 Q7:aq K t.uS ["_law_sign"] []
 Ow:mg "_law_lead_row" = some (.ref t.xX)
 Ei:aS K "_law_pair_row" "_law_pair_row" kc t.xQ t.uM
 QZ:aq K t.uM ["_law_sign", "_law_word"] []
 Op:mg "_law_pair_row" = some (.ref t.xQ)
 Eg:aS K "_law_spell" "_law_spell" j9 t.xO t.uK
 QX:aq K t.uK ["_law_model_here", "_law_sign", "_law_page_here"] []
 On:mg "_law_spell" = some (.ref t.xO)
 Ee:aS K "_law_text" "_law_text" iz t.xM t.uI
 QU:aq K t.uI ["_law_model_here", "_law_cells"] []
 Ol:mg "_law_text" = some (.ref t.xM)
 Ep:aS K "_law_lead_begun" "_law_lead_begun" ki t.xY t.uT
 Q8:aq K t.uT ["_law_kept"] []
 Ox:mg "_law_lead_begun" = some (.ref t.xY)
 Ej:aS K "_law_pair_begun" "_law_pair_begun" ke t.xR t.uN
 Q0:aq K t.uN ["_law_kept", "_law_word"] []
 Oq:mg "_law_pair_begun" = some (.ref t.xR)
 Ex:aS K "_law_begun" "_law_begun" jr t.ya t.uY
 Re:aq K t.uY ["_law_model_here", "_law_kept", "_law_page_here"] []
 OC:mg "_law_begun" = some (.ref t.ya)
 Eh:aS K "_law_row" "_law_row" ka t.xP t.uL
 QY:aq K t.uL ["_law_model_here", "_law_cells"] []
 Oo:mg "_law_row" = some (.ref t.xP)
 Er:aS K "_law_kinds" "_law_kinds" jq t.xZ t.uU
 Q9:aq K t.uU ["_law_told", "_law_row_here"] []
 Oy:mg "_law_kinds" = some (.ref t.xZ)
 Eb:aS K "_law_units" "_law_units" j7 t.xJ t.uF
 QP:aq K t.uF ["_law_model_here", "_law_part", "_law_page_here"] []
 Oh:mg "_law_units" = some (.ref t.xJ)
 Ek:aS K "_law_page" "_law_page" iV t.xT t.uO
 Q3:aq K t.uO ["_law_model_here", "_law_word", "_law_part", "_law_thing", "_law_page_here", "_law_next_unit"] []
 Os:mg "_law_page" = some (.ref t.xT)
 zf:aS K "law" "law" jt t.ym t.qw
 Rq:aq K t.qw ["_law_script"] []
 CY:mg "law" = some (.ref t.ym)
 Oe:mg "Put" = some (.ref t.dZ)
 xb:dG K t.dZ
 LO:Mk K t.dZ t.yS
 Lz:bw K t.dZ "told" t.yR
 BI:dn K t.dZ "sign"
 Tb:∀H a dx fs,H a=some (.ins t.dZ dx fs)->c7 K H (.ref a) (.ref t.dZ)
 Og:mg "GoingReader" = some (.ref t.bD)
 aI:dG K t.bD
 LQ:Mk K t.bD t.r6
 BL:bw K t.bD "meet" t.r0
 mt_GoingReader_faults:bw K t.bD "faults" t.yP
 mt_GoingReader_feed:bw K t.bD "feed" t.yO
 mt_GoingReader_end:bw K t.bD "end" t.yQ
 mt_GoingReader_take:bw K t.bD "take" t.yL
 mt_GoingReader_look_at_begun:bw K t.bD "look_at_begun" t.mI
 mt_GoingReader_meet_none:bw K t.bD "meet_none" t.rS
 mt_GoingReader_note:bw K t.bD "note" t.yM
 gf:dn K t.bD "at_page"
 cr:dn K t.bD "begun"
 nu:dn K t.bD "ended"
 tN:dn K t.bD "many"
 tM:dn K t.bD "met"
 BJ:dn K t.bD "place"
 cJ:dn K t.bD "tongue"
 tL:dn K t.bD "way"
 Te:∀H a dx fs,H a=some (.ins t.bD dx fs)->c7 K H (.ref a) (.ref t.bD)
 Oa:mg "Tongue" = some (.ref t.fB)
 nY:dG K t.fB
 LR:si K t.fB
 Ll:bw K t.fB "unit" t.io
 Lm:bw K t.fB "spell" t.yG
 Lj:bw K t.fB "whole" t.yF
 Lo:bw K t.fB "fill" t.yH
 Ln:bw K t.fB "look" t.gJ
 S8:∀H a dx fs,H a=some (.ins t.fB dx fs)->c7 K H (.ref a) (.ref t.fB)
 CT:mg "LeadTongue" = some (.ref t.eY)
 nZ:dG K t.eY
 BN:si K t.eY
 LI:bw K t.eY "spell" t.rY
 LH:bw K t.eY "whole" t.rX
 LJ:bw K t.eY "fill" t.rZ
 mt_LeadTongue_unit:bw K t.eY "unit" t.io
 mt_LeadTongue_look:bw K t.eY "look" t.gJ
 Td:∀H a dx fs,H a=some (.ins t.eY dx fs)->c7 K H (.ref a) (.ref t.eY)
 Of:mg "PairTongue" = some (.ref t.cN)
 gT:dG K t.cN
 LP:Mk K t.cN t.rV
 LC:bw K t.cN "unit" t.yU
 LD:bw K t.cN "turned" t.yV
 LF:bw K t.cN "row_of" t.yW
 LB:bw K t.cN "units_in" t.yT
 LE:bw K t.cN "spell" t.rU
 LA:bw K t.cN "whole" t.rT
 LG:bw K t.cN "fill" t.rW
 mt_PairTongue_look:bw K t.cN "look" t.gJ
 tK:dn K t.cN "order"
 Tc:∀H a dx fs,H a=some (.ins t.cN dx fs)->c7 K H (.ref a) (.ref t.cN)
 Oc:mg "ShiftTongue" = some (.ref t.bU)
 dE:dG K t.bU
 LN:Mk K t.bU t.rQ
 Lx:bw K t.bU "row_beyond" t.yK
 Lv:bw K t.bU "spell" t.rP
 Lw:bw K t.bU "sign_of" t.yJ
 Lu:bw K t.bU "whole" t.rO
 Ly:bw K t.bU "fill" t.rR
 mt_ShiftTongue_unit:bw K t.bU "unit" t.io
 mt_ShiftTongue_look:bw K t.bU "look" t.gJ
 pL:dn K t.bU "lists"
 jz:dn K t.bU "places"
 pK:dn K t.bU "shifted"
 Ta:∀H a dx fs,H a=some (.ins t.bU dx fs)->c7 K H (.ref a) (.ref t.bU)
 Ob:mg "TableTongue" = some (.ref t.cn)
 fA:dG K t.cn
 LM:Mk K t.cn t.rM
 Ls:bw K t.cn "enter" t.yI
 Lq:bw K t.cn "spell" t.rL
 Lp:bw K t.cn "whole" t.rK
 Lr:bw K t.cn "fill" t.rN
 mt_TableTongue_unit:bw K t.cn "unit" t.io
 mt_TableTongue_look:bw K t.cn "look" t.gJ
 tJ:dn K t.cn "rest_by_row"
 pJ:dn K t.cn "row_by_sign"
 tI:dn K t.cn "sign_by_row"
 S9:∀H a dx fs,H a=some (.ins t.cn dx fs)->c7 K H (.ref a) (.ref t.cn)
 Od:mg "Reader" = some (.ref t.DD)
 QM:D8 K t.DD t.yN
 DJ:mg "BITS" = some (.int 6 t.FJ)
 DI:mg "BYTE_BITS" = some (.int 8 t.FI)
 DH:mg "FILLS" = some (.ref t.yX)
 Dr:oz K w t.yX [(t.h_FILLS_0, "high",t.a_FILLS_0),(t.h_FILLS_1, "low",t.a_FILLS_1)]
 q_FILLS_0:∀H,bo K H t.a_FILLS_0 (([t.a_FILLS_0_0,t.a_FILLS_0_1,t.a_FILLS_0_2,t.a_FILLS_0_3,t.a_FILLS_0_4]:List Addr).map V.ref)
 q_FILLS_0_0:∀H,bo K H t.a_FILLS_0_0 (([]:List Int).map V.int)
 q_FILLS_0_1:∀H,bo K H t.a_FILLS_0_1 (([0]:List Int).map V.int)
 q_FILLS_0_2:∀H,bo K H t.a_FILLS_0_2 (([0,0]:List Int).map V.int)
 q_FILLS_0_3:∀H,bo K H t.a_FILLS_0_3 (([220,0]:List Int).map V.int)
 q_FILLS_0_4:∀H,bo K H t.a_FILLS_0_4 (([0,220,0]:List Int).map V.int)
 q_FILLS_1:∀H,bo K H t.a_FILLS_1 (([t.a_FILLS_1_0,t.a_FILLS_1_1,t.a_FILLS_1_2,t.a_FILLS_1_3,t.a_FILLS_1_4]:List Addr).map V.ref)
 q_FILLS_1_0:∀H,bo K H t.a_FILLS_1_0 (([]:List Int).map V.int)
 q_FILLS_1_1:∀H,bo K H t.a_FILLS_1_1 (([0]:List Int).map V.int)
 q_FILLS_1_2:∀H,bo K H t.a_FILLS_1_2 (([220]:List Int).map V.int)
 q_FILLS_1_3:∀H,bo K H t.a_FILLS_1_3 (([0,0]:List Int).map V.int)
 q_FILLS_1_4:∀H,bo K H t.a_FILLS_1_4 (([0,220]:List Int).map V.int)
 rG:mg "FIRST_BEHIND" = some (.int 128 t.FH)
 xD:mg "FIRST_HEAD" = some (.int 55296 t.FG)
 QF:mg "FIRST_SEEN" = some (.int 61184 t.FF)
 rF:mg "FIRST_TAIL" = some (.int 56320 t.FE)
 xC:mg "FIRST_WIDE" = some (.int 65536 t.FD)
 DG:mg "HALF_BITS" = some (.int 10 t.FC)
 DF:mg "LAST_BEHIND" = some (.int 191 t.FB)
 QD:mg "LAST_BYTE" = some (.int 255 t.FA)
 QC:mg "LAST_SEEN" = some (.int 61439 t.Fz)
 QB:mg "LAST_SIGN" = some (.int 1114111 t.Fy)
 Qz:mg "LAST_TAIL" = some (.int 57343 t.Fx)
 DE:mg "LEADS" = some (.ref t.oh)
 Bi:∀H,bo K H t.oh (([0,0,192,224,240]:List Int).map V.int)
 Ti:∃o,K.lookup t.oh=some o/\o.cls=.type "tuple"/\o.dict=none
 Qy:mg "MOST_BYTES" = some (.int 6 t.Fw)
 Qx:mg "MOST_SIGNS" = some (.int 250 t.Fv)
 Qw:mg "MOST_TUPLES" = some (.int 64 t.Fu)
 Qv:mg "SECONDS" = some (.ref t.D2)
 PY:sn K t.D2 [(224,t.a_SECONDS_0),(237,t.a_SECONDS_1),(238,t.a_SECONDS_2),(240,t.a_SECONDS_3),(244,t.a_SECONDS_4)]
 q_SECONDS_0:∀H,bo K H t.a_SECONDS_0 (([160,191]:List Int).map V.int)
 q_SECONDS_1:∀H,bo K H t.a_SECONDS_1 (([128,159]:List Int).map V.int)
 q_SECONDS_2:∀H,bo K H t.a_SECONDS_2 (([128,187]:List Int).map V.int)
 q_SECONDS_3:∀H,bo K H t.a_SECONDS_3 (([144,191]:List Int).map V.int)
 q_SECONDS_4:∀H,bo K H t.a_SECONDS_4 (([128,143]:List Int).map V.int)
 xB:mg "SHIFTS" = some (.ref t.mH)
 tE:∀H,bo K H t.mH (([254,255]:List Int).map V.int)
 Th:∃o,K.lookup t.mH=some o/\o.cls=.type "tuple"/\o.dict=none
 n_all:mg "all" = none
 n_any:mg "any" = none
 n_bool:mg "bool" = none
 n_enumerate:mg "enumerate" = none
 n_int:mg "int" = none
 n_isinstance:mg "isinstance" = none
 n_len:mg "len" = none
 n_list:mg "list" = none
 n_range:mg "range" = none
 n_reversed:mg "reversed" = none
 n_set:mg "set" = none
 n_str:mg "str" = none
 n_sum:mg "sum" = none
 n_tuple:mg "tuple" = none
 n_zip:mg "zip" = none
theorem gw{α0:Sort _}{A0 A1:α0->Prop}(x0:α0)(a0:A0 x0)(a1:A1 x0):∃x0,A0 x0/\A1 x0:=⟨x0,a0,a1⟩
theorem cy{α0:Sort _}{A0 A1 A2:α0->Prop}(x0:α0)(a0:A0 x0)(a1:A1 x0)(a2:A2 x0):∃x0,A0 x0/\A1 x0/\A2 x0:=⟨x0,a0,a1,a2⟩
theorem sv{α0:Sort _}{A0 A1 A2 A3:α0->Prop}(x0:α0)(a0:A0 x0)(a1:A1 x0)(a2:A2 x0)(a3:A3 x0):∃x0,A0 x0/\A1 x0/\A2 x0/\A3 x0:=⟨x0,a0,a1,a2,a3⟩
theorem aW{α0:Sort _}{α1:Sort _}{A0 A1 A2:α0->α1->Prop}(x0:α0)(x1:α1)(a0:A0 x0 x1)(a1:A1 x0 x1)(a2:A2 x0 x1):∃x0 x1,A0 x0 x1/\A1 x0 x1/\A2 x0 x1:=⟨x0,x1,a0,a1,a2⟩
theorem su{α0:Sort _}{α1:Sort _}{A0 A1 A2 A3:α0->α1->Prop}(x0:α0)(x1:α1)(a0:A0 x0 x1)(a1:A1 x0 x1)(a2:A2 x0 x1)(a3:A3 x0 x1):∃x0 x1,A0 x0 x1/\A1 x0 x1/\A2 x0 x1/\A3 x0 x1:=⟨x0,x1,a0,a1,a2,a3⟩
theorem cG{α0:Sort _}{α1:Sort _}{α2:Sort _}{A0 A1 A2 A3:α0->α1->α2->Prop}(x0:α0)(x1:α1)(x2:α2)(a0:A0 x0 x1 x2)(a1:A1 x0 x1 x2)(a2:A2 x0 x1 x2)(a3:A3 x0 x1 x2):∃x0 x1 x2,A0 x0 x1 x2/\A1 x0 x1 x2/\A2 x0 x1 x2/\A3 x0 x1 x2:=⟨x0,x1,x2,a0,a1,a2,a3⟩
theorem cR{α0:Sort _}{α1:Sort _}{α2:Sort _}{α3:Sort _}{A0 A1 A2 A3 A4 A5:α0->α1->α2->α3->Prop}(x0:α0)(x1:α1)(x2:α2)(x3:α3)(a0:A0 x0 x1 x2 x3)(a1:A1 x0 x1 x2 x3)(a2:A2 x0 x1 x2 x3)(a3:A3 x0 x1 x2 x3)(a4:A4 x0 x1 x2 x3)(a5:A5 x0 x1 x2 x3):∃x0 x1 x2 x3,A0 x0 x1 x2 x3/\A1 x0 x1 x2 x3/\A2 x0 x1 x2 x3/\A3 x0 x1 x2 x3/\A4 x0 x1 x2 x3/\A5 x0 x1 x2 x3:=⟨x0,x1,x2,x3,a0,a1,a2,a3,a4,a5⟩
theorem bK{α0:Sort _}{α1:Sort _}{α2:Sort _}{α3:Sort _}{α4:Sort _}{A0 A1 A2 A3 A4 A5:α0->α1->α2->α3->α4->Prop}(x0:α0)(x1:α1)(x2:α2)(x3:α3)(x4:α4)(a0:A0 x0 x1 x2 x3 x4)(a1:A1 x0 x1 x2 x3 x4)(a2:A2 x0 x1 x2 x3 x4)(a3:A3 x0 x1 x2 x3 x4)(a4:A4 x0 x1 x2 x3 x4)(a5:A5 x0 x1 x2 x3 x4):∃x0 x1 x2 x3 x4,A0 x0 x1 x2 x3 x4/\A1 x0 x1 x2 x3 x4/\A2 x0 x1 x2 x3 x4/\A3 x0 x1 x2 x3 x4/\A4 x0 x1 x2 x3 x4/\A5 x0 x1 x2 x3 x4:=⟨x0,x1,x2,x3,x4,a0,a1,a2,a3,a4,a5⟩
theorem xS{K:PySem.W.Frag}{H:Hp}{a b:Str}{G:PyData->PyData->Prop}(h:SeqAt.shaped (.str a)=true)(i:SeqAt.shaped (.str b)=true)(g:G (.str a) (.str b)):∃d e,bq K H d (.str a)/\bq K H e (.str b)/\SeqAt.shaped d=true/\SeqAt.shaped e=true/\G d e:=⟨_,_,.str _,.str _,h,i,g⟩
theorem aY{α0:Sort _}{A0 A1:α0->Prop}{x0:α0}(a0:A0 x0)(a1:A1 x0):∃x0,A0 x0/\A1 x0:=⟨x0,a0,a1⟩
theorem dq{α0:Sort _}{A0 A1 A2:α0->Prop}{x0:α0}(a0:A0 x0)(a1:A1 x0)(a2:A2 x0):∃x0,A0 x0/\A1 x0/\A2 x0:=⟨x0,a0,a1,a2⟩
theorem gK{α0:Sort _}{A0 A1 A2 A3:α0->Prop}{x0:α0}(a0:A0 x0)(a1:A1 x0)(a2:A2 x0)(a3:A3 x0):∃x0,A0 x0/\A1 x0/\A2 x0/\A3 x0:=⟨x0,a0,a1,a2,a3⟩
theorem aV{α0:Sort _}{α1:Sort _}{A0 A1 A2:α0->α1->Prop}{x0:α0}{x1:α1}(a0:A0 x0 x1)(a1:A1 x0 x1)(a2:A2 x0 x1):∃x0 x1,A0 x0 x1/\A1 x0 x1/\A2 x0 x1:=⟨x0,x1,a0,a1,a2⟩
theorem fe{α0:Sort _}{α1:Sort _}{A0 A1 A2 A3:α0->α1->Prop}{x0:α0}{x1:α1}(a0:A0 x0 x1)(a1:A1 x0 x1)(a2:A2 x0 x1)(a3:A3 x0 x1):∃x0 x1,A0 x0 x1/\A1 x0 x1/\A2 x0 x1/\A3 x0 x1:=⟨x0,x1,a0,a1,a2,a3⟩
end My
namespace My
open PySem L2
def jA:V->Bool
 | .int _=>true
 | _=>false
def dM(v:V)(lo hi:Int):Bool:=match v with
 | .int i=>decide (lo<=i) && decide (i<=hi)
 | _=>false
def dh(v:V):Bool:=dM v 0 1114111 && !(dM v 55296 57343) && !(dM v 61184 61439)
theorem tV{v:V}(h:jA v=true):∃i,v=.int i:=by
 cases v<;>first|exact⟨_,rfl⟩|cases h
def mW(f:V->Bool)(K:PySem.W.Frag):Sp:=λvs H Q _=>∃v,vs=[v]/\fZ K H v/\Q (.bl (f v)) H
def sW(f:Int->Bool):Sp:=λvs H Q _=>∃i,vs=[.int i]/\Q (.bl (f i)) H
theorem pT{f:V->Bool}{K:PySem.W.Frag}{x:Str}:∀vs H Q E,mW f K vs H Q E->vs.length=[x].length:=λvs H Q E h=>by
 obtain⟨v,rfl,_⟩:=h
 rfl
theorem B2{f:Int->Bool}{x:Str}:∀vs H Q E,sW f vs H Q E->vs.length=[x].length:=λvs H Q E h=>by
 obtain⟨v,rfl,_⟩:=h
 rfl
def Sg(n:Int):Prop:=0<=n/\n<=1114111/\¬(55296<=n/\n<=57343)/\¬(61184<=n/\n<=61439)
theorem hG(n:Int):dh (.int n)=true ↔ Sg n:=by
 unfold dh dM Sg;simp
 lia
def cz(n:Int):List Int:=if n<65536 then [n] else [55296+(n-65536)/1024,56320+(n-65536)%1024]
def ub(h:Bool)(m:Int):List Int:=if h then [m/256,m%256] else [m%256,m/256]
def fI(h:Bool)(n:Int):List Int:=(cz n).flatMap (ub h)
def gQ(h:Bool):Str:=if h then "high" else "low"
theorem sH(h:Bool)(m:Int):(ub h m).length=2:=by unfold ub;cases h<;>rfl
theorem sG(n:Int):(cz n).length<=2:=by
 unfold cz;by_cases c:n<65536
 ·rw[if_pos c];simp
 ·rw[if_neg c];simp
theorem zx{n u:Int}(h:Sg n)(hu:u∈cz n):0<=u/\u<65536:=by
 obtain⟨h0,h1,_,_⟩:=h;unfold cz at hu;by_cases c:n<65536
 ·rw[if_pos c]at hu;simp at hu;lia
 ·rw[if_neg c]at hu;simp at hu;lia
theorem nI(h:Bool)(us:List Int):(us.flatMap (ub h)).length=2*us.length:=by
 induction us with
 | nil=>rfl
 | cons a r ih=>rw[List.flatMap_cons,Ud,sH,ih,UB];lia
theorem JJ(h:Bool)(n:Int):(fI h n).length<=4:=by
 unfold fI;rw[nI];have:=sG n;lia
def u2(h:Bool)(x y:Int):Int:=if h then x*256+y else y*256+x
def bY(h:Bool):List Int->List Int
 | x::y::r=>u2 h x y::bY h r
 | _=>[]
def hE:List Int->Option Int
 | [u]=>if dh (.int u) then some u else none
 | [u,v]=>if (55296<=u/\u<56320)/\56320<=v/\v<=57343 then some (65536+((u-55296)*1024+(v-56320))) else none
 | _=>none
def ff(h:Bool)(r:List Int):Option Int:=if r.length=2\/r.length=4 then hE (bY h r) else none
def oV(o:Option Int):V:=o.elim .non V.int
def iK(h:Bool):List (List Int):=if h then [[],[0],[0,0],[220,0],[0,220,0]] else [[],[0],[220],[0,0],[0,220]]
def bj(r:List Int):Prop:=∀b∈r,0<=b/\b<=255
theorem bj.app{r s:List Int}(a:bj r)(b:bj s):bj (r++s):=λx hx=>by
 rcases Us.mp hx with h|h
 ·exact a x h
 ·exact b x h
theorem Pq{h:Bool}{f:List Int}(hf:f∈iK h):bj f:=by
 unfold iK at hf;cases h<;>simp at hf<;>rcases hf with rfl|rfl|rfl|rfl|rfl<;>intro x hx<;>simp at hx<;>lia
theorem De{h:Bool}{f:List Int}(hf:f∈iK h):f.length<=3:=by
 unfold iK at hf;cases h<;>simp at hf<;>rcases hf with rfl|rfl|rfl|rfl|rfl<;>decide
def lb(f:Int):Int:=if f<128 then 1 else if f<194\/244<f then 0 else if f<224 then 2 else if f<240 then 3 else 4
def gA(f:Int):Int:=if f=224 then 160 else if f=240 then 144 else 128
def gE(f:Int):Int:=if f=237 then 159 else if f=238 then 187 else if f=244 then 143 else 191
def dQ(f:Int)(p:Nat):Int:=if p=1 then gA f else 128
def eW(f:Int)(p:Nat):Int:=if p=1 then gE f else 191
def jj(f:Int)(r:List Int):Prop:=∀i x,r[i]? = some x->dQ f (i+1)<=x/\x<=eW f (i+1)
def jl(f:Int)(r:List Int):Prop:=(r.length:Int)+1<=lb f/\jj f r
def mO:List Int->Prop
 | []=>True
 | f::r=>jl f r
def gl:List Int->Prop
 | []=>False
 | f::r=>jl f r/\(r.length:Int)+1=lb f
def qt:List Int->List Int
 | []=>[0]
 | f::r=>(List.range (lb f-((r.length:Int)+1)).toNat).map λi=>dQ f (r.length+1+i)
theorem pW(f:Int):0<=lb f/\lb f<=4:=by unfold lb;repeat' split<;>lia
theorem Mf(f:Int)(p:Nat):128<=dQ f p:=by unfold dQ gA;repeat' split<;>lia
theorem M5(f:Int)(p:Nat):eW f p<=191:=by unfold eW gE;repeat' split<;>lia
theorem Dc(f:Int)(r:List Int):jj f r ↔ (∀x∈r,128<=x/\x<=191)/\∀x,r[0]? = some x->gA f<=x/\x<=gE f:=by
 constructor
 ·intro h;refine⟨λx hx=>?_,λx hx=>?_⟩
  ·obtain⟨i,hi⟩:=W5 hx;have:=h i x hi;have h1:=Mf f (i+1);have h2:=M5 f (i+1)
   lia
  ·have:=h 0 x hx;simpa [dQ,eW] using this
 ·rintro⟨h1,h2⟩ i x hx;cases i with
  | zero=>simpa [dQ,eW] using h2 x hx
  | succ i =>
   have:=h1 x (Ur hx);simp only [dQ,eW];rw[if_neg (by lia),if_neg (by lia)];exact this
def row(n:Int):List Int:=if n<128 then [n] else if n<2048 then [192+n/64,128+n%64] else if n<65536 then [224+n/4096,128+n/64%64,128+n%64] else [240+n/262144,128+n/4096%64,128+n/64%64,128+n%64]
theorem AY(n:Int):1<=(row n).length/\(row n).length<=4:=by
 unfold row;by_cases c1:n<128
 ·rw[if_pos c1];simp
 rw[if_neg c1];by_cases c2:n<2048
 ·rw[if_pos c2];simp
 rw[if_neg c2];by_cases c3:n<65536
 ·rw[if_pos c3];simp
 rw[if_neg c3];simp
def cQ{α β:Type}(R:α->β->Prop)(xs:List α)(ys:List β):Prop:=xs.length=ys.length/\∀(i:Nat) x y,xs[i]? = some x->ys[i]? = some y->R x y
theorem cQ.nil{α β:Type}{R:α->β->Prop}:cQ R [] []:=⟨rfl,λi x y h=>by simp at h⟩
theorem cQ.cons{α β:Type}{R:α->β->Prop}{x:α}{y:β}{xs:List α}{ys:List β}(h:R x y)(t:cQ R xs ys):cQ R (x::xs) (y::ys):=⟨by simp[t.1],λi a b ha hb=>by
 cases i with
 | zero=>simp at ha hb;subst ha hb;exact h
 | succ i=>exact t.2 i a b (by simpa using ha) (by simpa using hb)⟩
theorem cQ.imp{α β:Type}{R S:α->β->Prop}{xs:List α}{ys:List β}(h:cQ R xs ys)(k:∀x y,R x y->S x y):cQ S xs ys:=⟨h.1,λi x y a b=>k x y (h.2 i x y a b)⟩
theorem cQ.app{α β:Type}{R:α->β->Prop}{xs us:List α}{ys vs:List β}(h:cQ R xs ys)(k:cQ R us vs):cQ R (xs++us) (ys++vs):=by
 refine⟨by simp[h.1,k.1],λi x y a b=>?_⟩;by_cases hi:i<xs.length
 ·rw[Vw hi]at a;rw[Vw (by rw[<- h.1];exact hi)]at b;exact h.2 i x y a b
 ·rw[Vi (by lia)]at a;rw[Vi (by rw[<- h.1];lia),<- h.1]at b;exact k.2 _ x y a b
theorem cQ.right{α β:Type}{R:α->β->Prop}{xs:List α}{ys:List β}(h:cQ R xs ys){i:Nat}{x:α}(hx:xs[i]? = some x):∃y,ys[i]? = some y/\R x y:=by
 have hi:=(Uk.mp hx).1;have hy:ys[i]? = some (ys[i]'(by rw[<- h.1];exact hi)):=by simp
 exact⟨_,hy,h.2 i x _ hx hy⟩
theorem cQ.left{α β:Type}{R:α->β->Prop}{xs:List α}{ys:List β}(h:cQ R xs ys){i:Nat}{y:β}(hy:ys[i]? = some y):∃x,xs[i]? = some x/\R x y:=by
 have hi:=(Uk.mp hy).1;have hx:xs[i]? = some (xs[i]'(by rw[h.1];exact hi)):=by simp
 exact⟨_,hx,h.2 i _ y hx hy⟩
def Kp(a:Addr)(H H':Hp):Prop:=∀c u,c≠a->H c=some u->H' c=some u
theorem Kp.trans{a:Addr}{H H1 H2:Hp}(h:Kp a H H1)(h':Kp a H1 H2):Kp a H H2:=λc u n e=>h' c u n (h c u n e)
theorem Kp.of{a:Addr}{H H1:Hp}(h:aj H H1):Kp a H H1:=λc u _ e=>h c u e
theorem Kp.upd{a:Addr}{H:Hp}{o:HO}:Kp a H (upd H a o):=λc u n e=>by rw[az n];exact e
end My
namespace My
open PySem L2
section
variable {P:Program}{w:World}{K:PySem.W.Frag}{mg:Str->Option Value}{base:Heap}{t:Adr}
def GA:Sp:=λvs H Q _=>∃(n:Int) (b:Nat),vs=[.int n,.int (b:Int)]/\0<=n/\n<2 ^ b/\Q .non H
theorem Cy (T:Txt w K mg t):bp P w K mg base "check_room" 1 t.yB t.vE ["number", "bits"] GA:=by
 refine⟨T.O9,T.EV.kp,T.RC,T.EV.okQ HG (λvs H Q E h=>by obtain⟨n,b,rfl,_⟩:=h;rfl) λ_ _ _ _ H vs Q E hr h=>?_⟩;obtain⟨n,b,rfl,h0,h1,k⟩:=h;refine⟨_,(ag (av (bO (cU (au cV (aa 0) ae (ar _)) (db (au fK (ph (K:=K) Z PySem.F.plainAttrs_int PySem.F.slot_int_bit_length PySem.F.type_int_bit_length LU (aa 0)) (aa 1) (ar _))))) (ag gN) aA)),?_⟩;refine ah (λe=>absurd (of_decide_eq_true e) (by lia)) (λ_=>?_);refine⟨rfl,?_⟩;have hb:Builtin.Int.intBits n<=b:=intBits_le_iff.mpr (by
  have:(n.natAbs:Int)<((2 ^ b:Nat):Int):=by rw[WB h0,WC];exact h1
  exact WD.mp this)
 refine ah (λe=>absurd (of_decide_eq_true e) (by lia)) (λ_=>?_);exact k
def Gk(K:PySem.W.Frag):Sp:=λvs H Q _=>∃(a:Addr) (ps:List Int) (b:Nat),vs=[.ref a,.int (b:Int)]/\aF K H a (ps.map V.int)/\(∀p∈ps,0<=p/\p<2 ^ b)/\b<=1000/\ps.length<=1000/\Q (.int (cu b ps)) H
theorem t5 (T:Txt w K mg t):bp P w K mg base "together" 2 t.yd t.vd ["parts", "bits"] (Gk K):=by
 refine⟨T.OF,T.EA.kp,T.Rh,T.EA.okQ oX (λvs H Q E h=>by obtain⟨a,ps,b,rfl,_⟩:=h;rfl) λ_ _ _ _ H vs Q E hr h=>?_⟩;obtain⟨a,ps,b,rfl,h1,h2,hb,hl,k⟩:=h;refine⟨_,(af (aG (i:=2) oX.nd Z (.inl Z) ae)
  (af (dt PassesOwn.never rfl (dI (K:=K) rfl (aa 0)) (aT (i:=3) oX.nd rfl (.inl rfl)) (af (df (aP (Cy T) hr (ab (aa 3) (ab (aa 1) ad))))
  (ag (aG (i:=2) oX.nd rfl (.inl rfl) (aw (T2 K) (aw CV (aa 2) (aa 1)) (aa 3))))))
  (ag (ap (aa 2))))),?_⟩
 refine cy a rfl ⟨_,h1⟩ (ii (K:=K) (a:=a) (xs:=ps.map V.int) (λi σ H'=>H'=H/\∃v3,σ=[some (.ref a),some (.int b),some (.int (cu b (ps.take i))),v3]) ⟨rfl,_,rfl⟩ (λi σ H' _ z=>by rw[z.1];exact h1) ?_ ?_)
 ·rintro i x σ H2 hi ⟨rfl,v3,rfl⟩;obtain⟨p,hp,rfl⟩:∃p,ps[i]? = some p/\x=.int p:=by
   rw[Ug]at hi;cases e:ps[i]? with
   | none=>rw[e]at hi;cases hi
   | some p=>rw[e]at hi;cases hi;exact⟨p,Z,Z⟩
  have hpm:=h2 p (Ur hp);refine su p b Z hpm.1 hpm.2 ?_;have hi':i<ps.length:=(Uk.mp hp).1;have ht:=FU (b:=b) (ps:=ps.take i) λq hq=>h2 q (U8 hq);have hbits:Builtin.Int.intBits (cu b (ps.take i))<=b*(ps.take i).length:=intBits_le_iff.mpr (by
   have:((cu b (ps.take i)).natAbs:Int)<((2 ^ (b*(ps.take i).length):Nat):Int):=by rw[WB ht.1,WC];exact ht.2
   exact WD.mp this)
  have hl2:(ps.take i).length<=1000:=by rw[Ul];lia
  have hbm:b*(ps.take i).length<=1000000:=Nat.mul_le_mul hb hl2;refine⟨⟨by lia,show ((Builtin.Int.intBits (cu b (ps.take i)):Nat):Int)+(b:Int)<=2 ^ 27 by lia⟩,?_⟩;refine⟨rfl,?_⟩;have e:ps.take (i+1)=ps.take i++[p]:=by rw[VV,hp];rfl
  rw[e,FT];exact⟨_,Z⟩
 ·rintro σ H2 ⟨rfl,v3,rfl⟩;rw[Uc,UJ];exact k
theorem ud (T:Txt w K mg t):bp P w K mg base "is_number" 1 t.yr t.vx ["thing"] (mW jA K):=by
 refine⟨T.OZ,T.EN.kp,T.Rv,T.EN.okQ Hy pT λ_ _ _ _ H vs Q E hr h=>?_⟩;obtain⟨v,rfl,kd,k⟩:=h;refine⟨_,(ag (ap (gc (bh (T3 K) T.n_isinstance UY (ab (aa 0) (ab (gP Z T.n_int UV) ad))) (fS (tz (bh (T3 K) T.n_isinstance UY (ab (aa 0) (ab (gP Z T.n_bool W6) ad)))))))),?_⟩;obtain⟨ty,hty,e0⟩:=kd.isInt;refine aW ty _ hty e0 ?_;refine ah (λe=>?_) (λe=>?_)
 ·obtain⟨ty,hty,e0⟩:=kd.isBl;refine aW ty _ hty e0 ?_;exact cE k (by cases v<;>simp_all [jA,tW,Cb])
 ·exact cE k (by cases v<;>simp_all [jA,tW])
theorem Cw (T:Txt w K mg t):bp P w K mg base "is_head" 1 t.yt t.vy ["number"] (sW λi=>decide (55296<=i) && decide (i<56320)):=by
 refine⟨T.O0,T.EO.kp,T.Rw,T.EO.okQ Hz B2 λ_ _ _ _ H vs Q E hr h=>?_⟩;obtain⟨i,rfl,k⟩:=h;refine⟨_,(ag (ap (mj fw cV (cm T.xD) (aa 0) (cm T.rF)))),?_⟩;refine ah (λe1=>?_) (λe1=>?_)
 ·exact cE k (by simp at *;lia)
 ·exact cE k (by simp at *;lia)
theorem Cv (T:Txt w K mg t):bp P w K mg base "is_tail" 1 t.yn t.vo ["number"] (sW λi=>decide (56320<=i) && decide (i<=57343)):=by
 refine⟨T.OV,T.EJ.kp,T.Rr,T.EJ.okQ Hu B2 λ_ _ _ _ H vs Q E hr h=>?_⟩;obtain⟨i,rfl,k⟩:=h;refine⟨_,(ag (ap (mj fw fw (cm T.rF) (aa 0) (cm T.Qz)))),?_⟩;refine ah (λe1=>?_) (λe1=>?_)
 ·exact cE k (by simp at *;lia)
 ·exact cE k (by simp at *;lia)
theorem NE (T:Txt w K mg t):bp P w K mg base "is_seen_byte" 2 t.yp t.vt ["thing"] (mW (λv=>dM v 61184 61439) K):=by
 refine⟨T.OX,T.EL.kp,T.Rt,T.EL.okQ Hw pT λ_ _ _ _ H vs Q E hr h=>?_⟩;obtain⟨v,rfl,kd,k⟩:=h;refine⟨_,(ag (ap (gc (aP (ud T) hr (ab (aa 0) ad)) (fS (mj fw fw (cm T.QF) (aa 0) (cm T.QC)))))),?_⟩;refine cy v Z kd ?_;refine ah (λe=>?_) (λe=>?_)
 ·obtain⟨i,rfl⟩:=tV e;refine ah (λe1=>?_) (λe1=>?_)
  ·exact cE k (by simp[dM]at *;lia)
  ·exact cE k (by simp[dM]at *;lia)
 ·exact cE k (by cases v<;>simp_all [jA,dM])
theorem jC (T:Txt w K mg t):bp P w K mg base "is_sign" 3 t.yo t.vp ["thing"] (mW dh K):=by
 refine⟨T.OW,T.EK.kp,T.Rs,T.EK.okQ Hv pT λ_ _ _ _ H vs Q E hr h=>?_⟩;obtain⟨v,rfl,kd,k⟩:=h;refine⟨_,(af (av (bO (cU (dN (dw (aP (ud T) hr (ab (aa 0) ad)))) (db (dN (pq fw fw ae (aa 0) (cm T.QB)))))) (ag (ap gz)) aA)
  (ag (ap (tz (pz (aP (Cw T) hr (ab (aa 0) ad)) (pz (aP (Cv T) hr (ab (aa 0) ad)) (fS (aP (NE T) hr (ab (aa 0) ad))))))))),?_⟩
 refine cy v Z kd ?_;refine ah (λe=>?_) (λe=>?_)
 ·refine i6 ?_;exact cE k (by cases v<;>simp_all [jA,dM,dh])
 ·obtain⟨i,rfl⟩:=tV (v:=v) (by simpa using e);refine ah (λe1=>?_) (λe1=>?_)
  ·refine ah (λe2=>?_) (λe2=>?_)
   ·exact cE k (by simp[dh,dM]at *;lia)
   ·refine gw i Z ?_;refine ah (λe3=>?_) (λe3=>?_)
    ·exact cE k (by simp[dh,dM]at *;lia)
    ·refine gw i Z ?_;refine ah (λe4=>?_) (λe4=>?_)
     ·exact cE k (by simp[dh,dM]at *;lia)
     ·refine dq Z kd ?_;exact cE k (by rw[Vf];simp[dh,dM]at *;lia)
  ·refine i6 ?_;exact cE k (by simp[dh,dM]at *;lia)
def Gr(K:PySem.W.Frag):Sp:=λvs H Q _=>∃(a:Addr) (us:List Int),vs=[.ref a]/\aF K H a (us.map V.int)/\us.length<=2/\∀H',aj H H'->Q (oV (hE us)) H'
theorem FN:∀ {us:List Int},us.length=2->∃u v,us=[u,v]
 | [u,v],_=>⟨u,v,rfl⟩
theorem FV(x y:Int):cu 10 [x,y]=x*1024+y:=by
 show (0*2 ^ 10+x)*2 ^ 10+y=_;have:(2:Int) ^ 10=1024:=by decide
 rw[this]
 lia
theorem Nt (T:Txt w K mg t):bp P w K mg base "sign_of" 4 t.ye t.ve ["units"] (Gr K):=by
 refine⟨T.OI,T.EB.kp,T.Ri,T.EB.okQ Hr (λvs H Q E h=>by obtain⟨a,us,rfl,_⟩:=h;rfl) λ_ _ _ _ H vs Q E hr h=>?_⟩;obtain⟨a,us,rfl,ha,hl,k⟩:=h;have hu:=hr.units;obtain⟨o,eo⟩:∃o,o=hE us:=⟨_,rfl⟩;rw[<- eo]at k;obtain⟨L,eL⟩:∃L:Int,L=((us.map V.int).length:Int):=⟨_,rfl⟩;have eL2:L=(us.length:Int):=by rw[eL,Uc]
 refine⟨_,(af (av (bO (fR (au (aX (K:=K) Z hu) (bh (T4 K) T.n_len Ui (ab (aa 0) ad)) ae (ar _)) (gb (dw (aP (jC T) hr (ab (ax (T5 K) (aa 0) ae (λ_ _=>rfl)) ad)))))) (ag (ap (ax (T5 K) (aa 0) ae (λ_ _=>rfl)))) aA)
  (af (av (bO (fR (au (aX (K:=K) rfl hu) (bh (T4 K) T.n_len Ui (ab (aa 0) ad)) ae (ar _)) (fR (dw (aP (Cw T) hr (ab (ax (T5 K) (aa 0) ae (λ_ _=>rfl)) ad))) (gb (dw (aP (Cv T) hr (ab (ax (T5 K) (aa 0) ae (λ_ _=>rfl)) ad))))))) (ag (ap (aw (T2 K) (cm T.xC) (aP (t5 T) hr (ab (aO (ab (aw cD (ax (T5 K) (aa 0) ae (λ_ _=>rfl)) (cm T.xD)) (ab (aw cD (ax (T5 K) (aa 0) ae (λ_ _=>rfl)) (cm T.rF)) ad))) (ab (cm T.DG) ad)))))) aA)
  (ag (ap bL)))),?_⟩
 have second:∀ {Q1:Prop} {Q2:Prop} {b:Bool},(b=true->Q1)->(b=false->Q2)->if b=true then Q1 else Q2:=λ{Q1 Q2 b} x y=>by
  cases b with
  | true=>exact x rfl
  | false=>exact y rfl
 refine aY (.inl ha) ?_;rw[<- eL];refine ah (λe=>?_) (λe=>?_)
 ·have e:L=1:=of_decide_eq_true e;obtain⟨u,rfl⟩:∃u,us=[u]:=List.length_eq_one_iff.mp (by lia);refine aW _ (.int u) (.inl ha) (aB (j:=0) Z) ?_;refine cy (.int u) Z (.int u) ?_;refine ah (λe1=>?_) (λe1=>?_)
  ·refine aW _ (.int u) (.inl ha) (aB (j:=0) Z) ?_;have es:o=some u:=eo.trans (if_pos e1);subst es;exact k _ (aj.refl _)
  ·have es:o=none:=eo.trans (if_neg e1);subst es;refine aY (.inl ha) ?_;rw[<- eL];refine ah (λe2=>absurd (of_decide_eq_true e2) (by lia)) (λ_=>?_);exact k _ (aj.refl _)
 have e:¬L=1:=λz=>e (decide_eq_true z);refine aY (.inl ha) ?_;rw[<- eL];refine ah (λe2=>?_) (λe2=>?_)
 ·have e2:L=2:=of_decide_eq_true e2;obtain⟨u,v,rfl⟩:∃u v,us=[u,v]:=FN (by lia);refine aW _ (.int u) (.inl ha) (aB (j:=0) Z) ?_;refine gw u Z ?_;refine ah (λe1=>?_) (λe1=>?_)
  ·simp only [UD,decide_eq_true_eq]at e1;refine aW _ (.int v) (.inl ha) (aB (j:=1) Z) ?_;refine gw v Z ?_;refine ah (λe2=>?_) (λe2=>?_)
   ·simp only [UD,decide_eq_true_eq]at e2;have es:o=some (65536+((u-55296)*1024+(v-56320))):=eo.trans (if_pos ⟨e1,e2⟩);subst es;refine aW _ (.int u) (.inl ha) (aB (j:=0) Z) ?_;refine aW _ (.int v) (.inl ha) (aB (j:=1) Z) ?_;refine⟨sz Z,λp1 H1 g1=>?_⟩;have et:=FV (u-55296) (v-56320);have g2:aF K H1 p1 (([u-55296,v-56320]:List Int).map V.int):=g1.lst;obtain⟨ps,e5⟩:∃ps:List Int,ps=[u-55296,v-56320]:=⟨_,rfl⟩;rw[<- e5]at g2 et;have e10:(2:Int) ^ 10=1024:=by decide
    refine⟨p1,ps,10,rfl,g2,?_,by decide,by rw[e5];simp,?_⟩
    ·intro x hx;rw[e5]at hx;simp at hx;rcases hx with rfl|rfl<;>lia
    ·rw[et];exact k _ g1.sm
   ·have es:o=none:=eo.trans (if_neg λz=>e2 (by simp;exact z.2));subst es;exact k _ (aj.refl _)
  ·have es:o=none:=eo.trans (if_neg λz=>e1 (by simp;exact z.1));subst es;exact k _ (aj.refl _)
 ·have e2:¬L=2:=λz=>e2 (decide_eq_true z);have z0:us=[]:=List.length_eq_zero_iff.mp (by lia);subst z0;subst eo;exact k _ (aj.refl _)
def Po(t:Adr)(H:Hp)(o:Addr)(h:Bool):Prop:=∃dx,H o=some (.ins t.cN dx [("order",.str (gQ h))])
theorem Po.mono{H H':Hp}{o:Addr}{h:Bool}(p:Po t H o h)(s:aj H H'):Po t H' o h:=let ⟨dx,z⟩:=p;⟨dx,s _ _ z⟩
def Ar(t:Adr):Sp:=λvs H Q _=>∃(x dx:Addr) (h:Bool),vs=[.ref x,.str (gQ h)]/\H x=some (.ins t.cN dx [])/\Q .non (upd H x (.ins t.cN dx [("order",.str (gQ h))]))
theorem KW (T:Txt w K mg t):bA P w K mg base bR 1 t.rV t.nR ["self", "order"] (Ar t):=by
 refine T.S0.okQ Ih (λvs H Q E h=>by obtain⟨x,dx,v,rfl,_⟩:=h;rfl) λ_ _ _ _ H vs Q E hr h=>?_;obtain⟨x,dx,h,rfl,hx,k⟩:=h;refine⟨_,(af (av (bO (cU (dN (dw (bh (T3 K) T.n_isinstance UY (ab (aa 1) (ab (gP rfl T.n_str PyProof.Rows.boot_str) ad))))) (db (au (ON (K:=K) rfl rfl T.Dr) (aa 1) (iB (v:=.ref t.yX) rfl T.DH rfl) (by with_unfolding_all rfl))))) (ag gN) aA)
  (ag (de (K:=K) rfl (aa 0) (aa 1)))),?_⟩
 refine aV (.str _) (by with_unfolding_all rfl) ?_;refine dq Z Z ?_;refine ah (λe=>absurd e (by cases h<;>simp[h9,gQ])) (λ_=>?_);exact⟨x,_,dx,_,rfl,hx,T.gT,T.tK,by decide,k⟩
theorem MY (T:Txt w K mg t):mM P w K mg base "PairTongue" t.cN 1 t.rV t.nR ["self", "order"] [] (Ar t):=⟨T.Of,T.LP,⟨[],T.Sa,.nil⟩,KW T⟩
theorem NH (T:Txt w K mg t):bp P w K mg base "is_byte" 2 t.yw t.vA ["thing"] (mW (λv=>dM v 0 255) K):=by
 refine⟨T.O2,T.ER.kp,T.Ry,T.ER.okQ HE pT λ_ _ _ _ H vs Q E hr h=>?_⟩;obtain⟨v,rfl,kd,k⟩:=h;refine⟨_,(ag (ap (gc (aP (ud T) hr (ab (aa 0) ad)) (fS (mj fw fw ae (aa 0) (cm T.QD)))))),?_⟩;refine cy v Z kd ?_;refine ah (λe=>?_) (λe=>?_)
 ·obtain⟨i,rfl⟩:=tV e;refine ah (λe1=>?_) (λe1=>?_)
  ·exact cE k (by simp[dM]at *;lia)
  ·exact cE k (by simp[dM]at *;lia)
 ·exact cE k (by cases v<;>simp_all [jA,dM])
def Gj(t:Adr):Sp:=λvs H Q _=>∃(o a:Addr) (h:Bool) (x y:Int),vs=[.ref o,.ref a]/\Po t H o h/\H a=some (.lst [.int x,.int y])/\∀p H',aj H H'->H' p=some (.lst ((if h then [x,y] else [y,x]).map V.int))->Q (.ref p) H'
theorem CJ (T:Txt w K mg t):cF P w K mg base t.cN "turned" 1 t.yV t.vU ["self", "pair"] (Gj t):=by
 refine⟨T.gT,T.LD,T.R7,T.SX.okQ Ie (λvs H Q E h=>by obtain⟨o,a,h,x,y,rfl,_⟩:=h;rfl) λ_ _ _ _ H vs Q E hr h=>?_⟩;obtain⟨o,a,h,x,y,rfl,⟨dx,ho⟩,ha,k⟩:=h;have hu:=hr.units;refine⟨_,(ag (ap (hW (au (aX (K:=K) Z hu) (aK (K:=K) Z (aa 0)) aU (ar _)) (aa 1) (aO (ab (ax (T5 K) (aa 1) ae (λ_ _=>rfl)) (ab (ax (T5 K) (aa 1) ae (λ_ _=>rfl)) ad)))))),?_⟩;refine bK o _ dx _ _ Z ho T.gT T.tK Z ?_;cases h with
 | true =>
  refine xS (by decide +kernel) (by decide +kernel) ?_;refine ah (λ_=>?_) (λe=>absurd (by decide +kernel) e);exact k _ _ (aj.refl _) ha
 | false =>
  refine xS (by decide +kernel) (by decide +kernel) ?_;refine ah (λe=>absurd e (by decide +kernel)) (λ_=>?_);refine aW _ (.int y) (.inl (.of ha)) (aB (j:=1) Z) ?_;refine aW _ (.int x) (.inl (.of ha)) (aB (j:=0) Z) ?_;exact⟨sz Z,λp H' g=>k _ _ g.sm g.at_⟩
def Gh(K:PySem.W.Frag)(t:Adr):Sp:=λvs H Q _=>∃(o a:Addr) (h:Bool) (r:List Int),vs=[.ref o,.ref a]/\Po t H o h/\aF K H a (r.map V.int)/\(r.length=2\/r.length=4)/\bj r/\∀p H',bi H p (.lst ((bY h r).map V.int)) H'->Q (.ref p) H'
theorem NV (T:Txt w K mg t):cF P w K mg base t.cN "units_in" 3 t.yT t.vS ["self", "row"] (Gh K t):=by
 refine⟨T.gT,T.LB,T.R5,T.SV.okQ Ic (λvs H Q E h=>by obtain⟨o,a,h,r,rfl,_⟩:=h;rfl) λ_ _ _ _ H vs Q E hr h=>?_⟩;obtain⟨o,a,h,r,rfl,po,ha,hl,hb,k⟩:=h;have hu:=hr.units;refine⟨_,(ag (ap (fT rfl (cZ.of (fns:=(ak jw).names) (N:=["self", "row"]) (Nc:=["at", "self", "row"]) (nv:=1) (caps:=[0,1]) rfl rfl (by decide +kernel)) (Bd rfl T.n_range (ab ae (ab (bh (T4 K) T.n_len Ui (ab (aa 1) ad)) (ab ae ad)))) (λ_ _ _ _=>(aT (i:=0) (show List.Nodup (["at", "self", "row"]:List Str) by decide +kernel) rfl (Or.inl rfl) (Or.inr rfl))) (λ_ _ _ _=>fg) (λ_ _ _ _=>(aP (t5 T) hr (ab (dO (CJ T) hr (aa 1) (ab (du (T6 K) (aa 2) (cA (aa 0)) (cA (aw (T2 K) (aa 0) ae))) ad)) (ab (cm T.DI) ad))))))),?_⟩;refine aY (.inl ha) ?_;refine⟨r.length,2,by rw[Uc];rfl,by lia,by decide,by decide,?_⟩;have hn:(bY h r).length=(r.length+(2-1))/2:=by
  match r,hl with
  | [x,y],_=>simp[bY]
  | [x,y,z,v],_=>simp[bY]
 refine P5 (cs:=[some (.ref o),some (.ref a)]) ((bY h r).map V.int) (by rw[Uc,hn]) (ci (by lia)) (λi y H2 N hi hy s2 hN=>?_) k;obtain⟨x1,x2,ec,m1,m2,rfl⟩:∃x1 x2,fY r (some ((0:Int)+(i:Int)*((2:Nat):Int))) (some ((0:Int)+(i:Int)*((2:Nat):Int)+2))=[x1,x2]/\x1∈r/\x2∈r/\y=.int (u2 h x1 x2):=by
  match r,hl,hi,hy with
  | [x,z],_,hi,hy =>
   have:i=0:=by simp at hi;lia
   subst this;cases hy;exact⟨x,z,rfl,by simp,by simp,rfl⟩
  | [x,z,v,u],_,hi,hy =>
   have:i=0\/i=1:=by simp at hi;lia
   rcases this with rfl|rfl
   ·cases hy;exact⟨x,z,rfl,by simp,by simp,rfl⟩
   ·cases hy;exact⟨v,u,rfl,by simp,by simp,rfl⟩
 obtain⟨dx,ho⟩:=po.mono s2;refine cG o dx _ Z ho Z ?_;refine⟨_,Z,_,Z,_,s2.seq ha,λp3 H3 g3=>?_⟩;rw[fz,ec]at g3;refine⟨o,p3,h,x1,x2,Z,⟨dx,g3.sm _ _ ho⟩,g3.at_,λp4 H4 s4 h4=>?_⟩;have b1:=hb x1 m1;have b2:=hb x2 m2;have e8:(2:Int) ^ 8=256:=by decide
 refine⟨p4,if h then [x1,x2] else [x2,x1],8,rfl,.of h4,?_,by decide,by cases h<;>simp,?_⟩
 ·intro q hq;cases h<;>simp at hq<;>rcases hq with rfl|rfl<;>lia
 ·have et:cu 8 (if h then [x1,x2] else [x2,x1])=u2 h x1 x2:=by cases h<;>simp[cu,u2]
  rw[et];exact hN _ (g3.sm.trans s4)
theorem Fr(h:Bool):∀r:List Int,r.length=2\/r.length=4->(bY h r).length<=2
 | [_,_],_=>by simp[bY]
 | [_,_,_,_],_=>by simp[bY]
def Ag(K:PySem.W.Frag)(t:Adr):Sp:=λvs H Q _=>∃(o a:Addr) (h:Bool) (r:List Int),vs=[.ref o,.ref a,.int 0]/\Po t H o h/\aF K H a (r.map V.int)/\bj r/\r.length<=1000/\(∀n,ff h r=some n->∀p H',bi H p (.tup [.int n,.int 0]) H'->Q (.ref p) H')/\(ff h r=none->∀H',aj H H'->Q .non H')
theorem KM (T:Txt w K mg t):bA P w K mg base bR 5 t.rT t.nP ["self", "row", "page"] (Ag K t):=by
 refine T.SU.okQ AR (λvs H Q E h=>by obtain⟨o,a,h,r,rfl,_⟩:=h;rfl) λ_ _ _ _ H vs Q E hr h=>?_;obtain⟨o,a,h,r,rfl,po,ha,hb,hl,k1,k2⟩:=h;have hu:=hr.units;refine⟨_,(af (av (au (uo (K:=K) rfl) (bh (T4 K) T.n_len Ui (ab (aa 1) ad)) (bN (ab ae (ab ae ad))) (by with_unfolding_all rfl)) (ag (ap bL)) aA)
  (af (aG (i:=3) AR.nd rfl (.inl rfl) (aP (Nt T) hr (ab (dO (NV T) hr (aa 0) (ab (aa 1) ad)) ad)))
  (ag (ap (hW (au ig (aa 3) bL (ar _)) bL (bN (ab (aa 3) (ab (aa 2) ad)))))))),?_⟩
 refine aY (.inl ha) ?_;refine⟨sz Z,λp1 H1 g1=>?_⟩;refine gK (.inr g1.tup) Z Z ?_;have ei:bC (.int ((r.map V.int).length:Int)) [V.int 2,V.int 4]=decide (r.length=2\/r.length=4):=by
  rw[Uc,Vf];simp[bC,dC]
  lia
 refine ah (λe=>?_) (λe=>?_)
 ·have e:(!bC (.int ((r.map V.int).length:Int)) [V.int 2,V.int 4])=true:=e;rw[ei]at e;have c:¬(r.length=2\/r.length=4):=by simpa using e
  exact k2 (if_neg c) _ g1.sm
 have e:¬(!bC (.int ((r.map V.int).length:Int)) [V.int 2,V.int 4])=true:=e;rw[ei]at e;have c:r.length=2\/r.length=4:=by simp at e;lia
 have ew:ff h r=hE (bY h r):=if_pos c;obtain⟨dx,ho⟩:=po.mono g1.sm;refine cG o dx _ Z ho Z ?_;refine cR o a h r Z ⟨dx,ho⟩ (g1.sm.seq ha) c hb (λp2 H2 g2=>?_);refine⟨p2,bY h r,Z,g2.lst,Fr h r c,λH3 s3=>?_⟩;have sA:=g1.sm.trans (g2.sm.trans s3);rw[ew]at k1 k2;cases es:hE (bY h r) with
 | none=>exact k2 es _ sA
 | some n=>exact⟨sz rfl,λp4 H4 g4=>k1 n es p4 H4 (g4.after sA)⟩
theorem CI (T:Txt w K mg t):dL P w K mg base t.cN "whole" 5 t.rT t.nP ["self", "row", "page"] [] (Ag K t) :=
 ⟨T.gT,T.LA,⟨_,T.R4,.nil⟩,KM T⟩
def iL(h:Bool)(r:List Int):Option (List Int):=(iK h).find? λf=>(ff h (r++f)).isSome
def Ay(K:PySem.W.Frag)(t:Adr):Sp:=λvs H Q _=>∃(o a:Addr) (h:Bool) (r:List Int),vs=[.ref o,.ref a,.int 0]/\Po t H o h/\aF K H a (r.map V.int)/\bj r/\r.length<=900/\(∀f,iL h r=some f->∀p H',bi H p (.lst (f.map V.int)) H'->Q (.ref p) H')/\(iL h r=none->∀H',aj H H'->Q .non H')
def qH(t:Adr)(h:Bool):List Addr:=if h then [t.a_FILLS_0_0,t.a_FILLS_0_1,t.a_FILLS_0_2,t.a_FILLS_0_3,t.a_FILLS_0_4] else [t.a_FILLS_1_0,t.a_FILLS_1_1,t.a_FILLS_1_2,t.a_FILLS_1_3,t.a_FILLS_1_4]
theorem Pu(T:Txt w K mg t)(h:Bool){i:Nat}{x:V}(hx:((qH t h).map V.ref)[i]? = some x):∃b f,x=.ref b/\(iK h)[i]? = some f/\∀H,bo K H b (f.map V.int):=by
 cases h with
 | true =>
  match i,hx with
  | 0,hx=>cases hx;exact⟨_,_,Z,Z,T.q_FILLS_0_0⟩
  | 1,hx=>cases hx;exact⟨_,_,Z,Z,T.q_FILLS_0_1⟩
  | 2,hx=>cases hx;exact⟨_,_,Z,Z,T.q_FILLS_0_2⟩
  | 3,hx=>cases hx;exact⟨_,_,Z,Z,T.q_FILLS_0_3⟩
  | 4,hx=>cases hx;exact⟨_,_,Z,Z,T.q_FILLS_0_4⟩
 | false =>
  match i,hx with
  | 0,hx=>cases hx;exact⟨_,_,Z,Z,T.q_FILLS_1_0⟩
  | 1,hx=>cases hx;exact⟨_,_,Z,Z,T.q_FILLS_1_1⟩
  | 2,hx=>cases hx;exact⟨_,_,Z,Z,T.q_FILLS_1_2⟩
  | 3,hx=>cases hx;exact⟨_,_,Z,Z,T.q_FILLS_1_3⟩
  | 4,hx=>cases hx;exact⟨_,_,Z,Z,T.q_FILLS_1_4⟩
theorem Dd{α:Type}{p:α->Bool}:∀ {l:List α} {i:Nat} {f:α},l[i]? = some f->(∀g∈l.take i,p g=false)->p f=true->l.find? p=some f
 | a::r,0,f,h,_,hp=>by cases h;rw[UR,hp]
 | a::r,i+1,f,h,hn,hp=>by
  rw[UR,hn a (by simp)];exact Dd (l:=r) (i:=i) h (λg hg=>hn g (by simp[hg])) hp
theorem K1 (T:Txt w K mg t):bA P w K mg base bR 6 t.rW t.nS ["self", "row", "page"] (Ay K t):=by
 refine T.S1.okQ AS (λvs H Q E h=>by obtain⟨o,a,h,r,rfl,_⟩:=h;rfl) λ_ _ _ _ H vs Q E hr h=>?_;obtain⟨o,a,h,r,rfl,po,ha,hb,hl,k1,k2⟩:=h;have hu:=hr.units;refine⟨_,(af (dt PassesOwn.never Z (IV (K:=K) Z (Jg (K:=K) Z Z T.Dr Z T.DH (aK (K:=K) Z (aa 0)))) (aT (i:=3) AS.nd Z (.inl Z)) (ag (av (au uq (cB (CI T) hr (aa 0) (ab (aw (T2 K) (aa 1) (cv (T7 K) T.n_list UK (ab (aa 3) ad))) (ab (aa 2) ad))) bL (ar _)) (ag (ap (cv (T7 K) T.n_list UK (ab (aa 3) ad)))) aA)))
  (ag (ap bL))),?_⟩
 obtain⟨dx,ho⟩:=id po;refine bK o _ dx _ _ Z ho T.gT T.tK Z ?_;obtain⟨F,eF,qF⟩:∃F,h9 [(t.h_FILLS_0, "high",t.a_FILLS_0),(t.h_FILLS_1, "low",t.a_FILLS_1)] (gQ h)=some F/\∀H,bo K H F ((qH t h).map V.ref):=by
  cases h with
  | true=>exact⟨_,by simp[h9,gQ],T.q_FILLS_0⟩
  | false=>exact⟨t.a_FILLS_1,by simp[h9,gQ,show ¬(("high" : Str) = "low") by decide],T.q_FILLS_1⟩
 refine aW _ F Z eF ?_;have eL:((qH t h).map V.ref).length=(iK h).length:=by cases h<;>rfl
 refine dq rfl ⟨_,qF _⟩ (Pn (K:=K) (a:=F) (xs:=(qH t h).map V.ref) (λi σ H'=>aj H H'/\(∀g∈(iK h).take i,(ff h (r++g)).isSome=false)/\∃v3,σ=[some (.ref o),some (.ref a),some (.int 0),v3]) ⟨aj.refl _,λg z=>by simp at z,_,rfl⟩ (λi σ H' _ z=>qF _) ?_ ?_)
 ·rintro i x σ H2 hx ⟨s2,hn,v3,rfl⟩;obtain⟨b,f,rfl,hf,qb⟩:=Pu T h hx;have hm:=Ur hf;have hfl:=De hm;refine cG o dx _ Z (s2 _ _ ho) Z ?_;refine aY (.inr (qb _)) (λp3 H3 g3=>?_);have s3:=s2.trans g3.sm;refine fe (s3.seq ha) g3.lst (ci (by rw[Uc,Uc];lia)) (λp4 H4 g4=>?_);rw[<- Up]at g4;have s4:=s3.trans g4.sm;refine⟨o,p4,h,r++f,rfl,⟨dx,s4 _ _ ho⟩,g4.lst,hb.app (Pq hm),by rw[Ud];lia,λn hw p5 H5 g5=>?_,λhw H5 s5=>?_⟩
  ·have ef:iL h r=some f:=Dd hf hn (by rw[hw];rfl);exact⟨_,.inr (qb _),λp6 H6 g6=>k1 f ef p6 H6 (g6.after (s4.trans g5.sm))⟩
  ·refine⟨s4.trans s5,λg hg=>?_,_,Z⟩;rw[VV,hf]at hg;rcases Us.mp hg with hg|hg
   ·exact hn g hg
   ·have:g=f:=by simpa using hg
    rw[this,hw];rfl
 ·rintro σ H2 ⟨s2,hn,v3,rfl⟩;rw[eL,UJ]at hn;exact k2 (U9.mpr λg hg=>by rw[hn g hg];simp) _ s2
theorem NY (T:Txt w K mg t):dL P w K mg base t.cN "fill" 6 t.rW t.nS ["self", "row", "page"] [] (Ay K t) :=
 ⟨T.gT,T.LG,⟨_,T.Sc,.nil⟩,K1 T⟩
theorem zy(h:Bool)(m:Int)(r:List Int):bY h (ub h m++r)=m::bY h r:=by
 have e:m/256*256+m%256=m:=by lia
 cases h
 ·show u2 false (m%256) (m/256)::bY false r=_;unfold u2;rw[if_neg (by simp),e]
 ·show u2 true (m/256) (m%256)::bY true r=_;unfold u2;rw[if_pos rfl,e]
theorem JI(h:Bool)(n:Int):(fI h n).length=if n<65536 then 2 else 4:=by
 unfold fI cz;by_cases c:n<65536
 ·rw[if_pos c,if_pos c,nI];rfl
 ·rw[if_neg c,if_neg c,nI];rfl
theorem Fs(h:Bool){u:Int}(hu:0<=u/\u<65536):bj (ub h u):=by
 intro b hb;unfold ub at hb;cases h<;>simp at hb<;>lia
theorem JK(h:Bool){n:Int}(hs:Sg n):bj (fI h n):=by
 intro b hb;unfold fI at hb;obtain⟨u,hu,hb⟩:=List.mem_flatMap.mp hb;exact Fs h (zx hs hu) b hb
theorem M6(h:Bool){u:Int}(h1:55296<=u)(h2:u<56320):iL h (ub h u)≠none:=by
 intro z;have z:=U9.mp z;have e2:bY h (ub h u++ub h 56320)=[u,56320]:=by
  have:=zy h 56320 [];rw[UC]at this;rw[zy,this];rfl
 have m:ub h 56320∈iK h:=by cases h<;>decide
 refine z _ m ?_;unfold ff;rw[if_pos (.inr (by rw[Ud,sH,sH])),e2];have:hE [u,56320]=some (65536+((u-55296)*1024+(56320-56320))):=if_pos (by lia);rw[this]
 rfl
theorem Dx(f:Int)(r:List Int):dD ((f::r).map V.int) (some 1) none=r.map V.int:=by
 rw[fz]
 congr 1
 exact jL (f::r) 1
def GP:Sp:=λvs H Q _=>∃f,vs=[.int f]/\Q (.int (lb f)) H
theorem NB (T:Txt w K mg t):bp P w K mg base "length_behind" 1 t.yk t.vk ["first"] GP:=by
 refine⟨T.OS,T.EH.kp,T.Ro,T.EH.okQ Ht (λvs H Q E h=>by obtain⟨f,rfl,_⟩:=h;rfl) λ_ _ _ _ H vs Q E hr h=>?_⟩;obtain⟨f,rfl,k⟩:=h;have hu:=hr.units;refine⟨_,(af (av (au cV (aa 0) ae (ar _)) (ag (ap ae)) aA)
  (af (av (bO (cU (au cV (aa 0) ae (ar _)) (db (au fK (aa 0) ae (ar _))))) (ag (ap ae)) aA)
  (af (av (au cV (aa 0) ae (ar _)) (ag (ap ae)) aA)
  (af (av (au cV (aa 0) ae (ar _)) (ag (ap ae)) aA)
  (ag (ap ae)))))),?_⟩
 have fit:∀ {n:Int},n=lb f->Q (.int n) H:=λe=>e ▸ k;refine ah (λe=>fit ?_) (λe=>?_)
 ·simp at e;unfold lb;rw[if_pos (by lia)]
 refine ah (λe1=>?_) (λe1=>?_)
 ·exact fit (by simp at e e1;unfold lb;rw[if_neg (by lia),if_pos (by lia)])
 refine ah (λe2=>?_) (λe2=>?_)
 ·exact fit (by simp at e e1 e2;unfold lb;rw[if_neg (by lia),if_pos (by lia)])
 refine ah (λe3=>?_) (λe3=>?_)
 ·exact fit (by simp at e e1 e2 e3;unfold lb;rw[if_neg (by lia),if_neg (by lia),if_pos (by lia)])
 refine ah (λe4=>?_) (λe4=>?_)
 ·exact fit (by simp at e e1 e2 e3 e4;unfold lb;rw[if_neg (by lia),if_neg (by lia),if_neg (by lia),if_pos (by lia)])
 ·exact fit (by simp at e e1 e2 e3 e4;unfold lb;rw[if_neg (by lia),if_neg (by lia),if_neg (by lia),if_neg (by lia)])
def G3(K:PySem.W.Frag):Sp:=λvs H Q _=>∃(a:Addr) (f:Int) (r:List Int) (p:Nat),vs=[.ref a,.int (p:Int)]/\aF K H a ((f::r).map V.int)/\∀b H',aj H H'->bo K H' b [.int (dQ f p),.int (eW f p)]->Q (.ref b) H'
theorem Cz (T:Txt w K mg t):bp P w K mg base "bounds_behind" 1 t.yD t.vG ["row", "place"] (G3 K):=by
 refine⟨T.Pb,T.EX.kp,T.RE,T.EX.okQ HI (λvs H Q E h=>by obtain⟨a,f,r,p,rfl,_⟩:=h;rfl) λ_ _ _ _ H vs Q E hr h=>?_⟩;obtain⟨a,f,r,p,rfl,h1,k⟩:=h;have hu:=hr.units;refine⟨_,(af (av (au (aX (K:=K) Z hu) (aa 1) ae (ar _)) (ag (ap (Jh (K:=K) Z T.PY Z T.Qv (ax (T5 K) (aa 0) ae (λ_ _=>rfl)) (bN (ab (cm T.rG) (ab (cm T.DF) ad)))))) aA)
  (ag (ap (bN (ab (cm T.rG) (ab (cm T.DF) ad)))))),?_⟩
 refine ah (λe=>?_) (λe=>?_)
 ·have hp:p=1:=by have:=of_decide_eq_true e;lia
  subst hp;refine aW _ (.int f) (.inl h1) (aB (j:=0) Z) ?_;refine⟨sz Z,λp1 H1 g1=>?_⟩;refine gw f Z ?_;by_cases c1:f=224
  ·subst c1;exact k _ _ g1.sm (T.q_SECONDS_0 H1)
  by_cases c2:f=237
  ·subst c2;exact k _ _ g1.sm (T.q_SECONDS_1 H1)
  by_cases c3:f=238
  ·subst c3;exact k _ _ g1.sm (T.q_SECONDS_2 H1)
  by_cases c4:f=240
  ·subst c4;exact k _ _ g1.sm (T.q_SECONDS_3 H1)
  by_cases c5:f=244
  ·subst c5;exact k _ _ g1.sm (T.q_SECONDS_4 H1)
  have e:nC [(224,t.a_SECONDS_0),(237,t.a_SECONDS_1),(238,t.a_SECONDS_2),(240,t.a_SECONDS_3),(244,t.a_SECONDS_4)] f=none:=by
   simp[nC,Ne.symm c1,Ne.symm c2,Ne.symm c3,Ne.symm c4,Ne.symm c5]
  rw[e];refine k _ _ g1.sm ?_;rw[dQ,eW,if_pos rfl,if_pos rfl,gA,gE,if_neg c1,if_neg c4,if_neg c2,if_neg c3,if_neg c5];exact g1.tup
 ·refine⟨sz Z,λp1 H1 g1=>?_⟩;have hp:p≠1:=λz=>by subst z;exact e Z
  refine k _ _ g1.sm ?_;rw[dQ,eW,if_neg hp,if_neg hp];exact g1.tup
def GU(K:PySem.W.Frag):Sp:=λvs H Q _=>∃(a:Addr) (f:Int) (r:List Int),vs=[.ref a]/\aF K H a ((f::r).map V.int)/\r.length<=1000/\∀H',aj H H'->(jj f r->Q (.bl true) H')/\(¬jj f r->Q (.bl false) H')
theorem NI (T:Txt w K mg t):bp P w K mg base "fits_behind" 2 t.yy t.vB ["row"] (GU K):=by
 refine⟨T.O5,T.ES.kp,T.Rz,T.ES.okQ sY (λvs H Q E h=>by obtain⟨a,f,r,rfl,_⟩:=h;rfl) λ_ _ _ _ H vs Q E hr h=>?_⟩;obtain⟨a,f,r,rfl,h1,hl,k⟩:=h;have hu:=hr.units;refine⟨_,(af (dt PassesOwn.never Z (Be Z T.n_range (ab ae (ab (bh (T4 K) T.n_len Ui (ab (aa 0) ad)) ad))) (aT (i:=1) sY.nd Z (.inl Z)) (af (aG (i:=2) sY.nd Z (.inl Z) (aP (Cz T) hr (ab (aa 0) (ab (aa 1) ad))))
  (ag (av (dN (pq fw fw (ax (T5 K) (aa 2) ae (λ_ _=>rfl)) (ax (T5 K) (aa 0) (aa 1) (λ_ _=>rfl)) (ax (T5 K) (aa 2) ae (λ_ _=>rfl)))) (ag (ap gz)) aA))))
  (ag (ap gz))),?_⟩
 refine aY (.inl h1) ?_;have hL:((List.map V.int (f::r)).length:Int)=(r.length:Int)+1:=by simp
 refine aW 1 _ rfl ⟨by lia,by lia,by lia,by lia⟩ ?_;have hN:(((List.map V.int (f::r)).length:Int)-1).toNat=r.length:=by lia
 rw[hN];refine qr (lo:=1) (n:=r.length) (λi σ H'=>aj H H'/\(∀j x,j<i->r[j]? = some x->dQ f (j+1)<=x/\x<=eW f (j+1))/\∃v1 v2,σ=[some (.ref a),v1,v2])
  ⟨aj.refl _,λj x z=>absurd z (VY _),_,_,rfl⟩ ?_ ?_
 ·rintro i σ H2 hi ⟨s2,p2,v1,v2,rfl⟩;obtain⟨x,hx⟩:∃x,r[i]? = some x:=⟨_,UL hi⟩;have c1:(1:Int)+(i:Int)=((i+1:Nat):Int):=by lia
  refine⟨a,f,r,i+1,by rw[<- c1];rfl,s2.seq h1,λb H3 s3 hb=>?_⟩;refine aW _ (.int (dQ f (i+1))) (.inr hb) (aB (j:=0) Z) ?_;have hax:cW (List.map V.int (f::r)) (1+(i:Int))=some (.int x):=by
   rw[c1];exact aB (by rw[UM,List.getElem?_cons_succ,Ug,hx];rfl)
  refine aW _ (.int x) (.inl (s3.seq (s2.seq h1))) hax ?_;have bad:¬(dQ f (i+1)<=x/\x<=eW f (i+1))->Q (.bl false) H3:=λz=>(k _ (s2.trans s3)).2 λy=>z (y i x hx);refine ah (λe=>?_) (λe=>?_)
  ·refine aW _ (.int (eW f (i+1))) (.inr hb) (aB (j:=1) Z) ?_;refine ah (λe2=>?_) (λe2=>?_)
   ·exact bad λz=>by simp at e2;lia
   ·refine⟨s2.trans s3,λj y hj hy=>?_,_,_,Z⟩;by_cases c:j<i
    ·exact p2 j y c hy
    ·have:j=i:=by lia
     subst this;rw[hx]at hy;cases hy;have:=of_decide_eq_true e;simp at e2
     lia
  ·exact bad λz=>e (decide_eq_true z.1)
 ·rintro σ H2 ⟨s2,p2,v1,v2,rfl⟩;exact (k _ s2).1 λi x hx=>p2 i x (Uk.mp hx).1 hx
def GJ(K:PySem.W.Frag):Sp:=λvs H Q _=>∃(a:Addr) (f:Int) (r:List Int),vs=[.ref a]/\aF K H a ((f::r).map V.int)/\r.length<=1000/\∀H',aj H H'->(jl f r->Q (.int (lb f-((r.length:Int)+1))) H')/\(¬jl f r->Q .non H')
theorem Ct (T:Txt w K mg t):bp P w K mg base "missing" 3 t.yi t.vi ["row"] (GJ K):=by
 refine⟨T.OQ,T.EF.kp,T.Rm,T.EF.okQ AJ (λvs H Q E h=>by obtain⟨a,f,r,rfl,_⟩:=h;rfl) λ_ _ _ _ H vs Q E hr h=>?_⟩;obtain⟨a,f,r,rfl,h1,hl,k⟩:=h;have hu:=hr.units;refine⟨_,(af (aG (i:=1) AJ.nd Z (.inl Z) (aw cD (aP (NB T) hr (ab (ax (T5 K) (aa 0) ae (λ_ _=>rfl)) ad)) (bh (T4 K) T.n_len Ui (ab (aa 0) ad))))
  (af (av (bO (cU (au cV (aa 1) ae (ar _)) (db (dN (dw (aP (NI T) hr (ab (aa 0) ad))))))) (ag (ap bL)) aA)
  (ag (ap (aa 1))))),?_⟩
 refine aW _ (.int f) (.inl h1) (aB (j:=0) Z) ?_;refine gw f Z ?_;refine aY (.inl h1) ?_;have hL:((List.map V.int (f::r)).length:Int)=(r.length:Int)+1:=by simp
 refine ah (λe=>?_) (λe=>?_)
 ·exact (k _ (aj.refl _)).2 λz=>by have:=of_decide_eq_true e;have:=z.1;lia
 ·have e':¬(lb f-((List.map V.int (f::r)).length:Int)<0):=λz=>e (decide_eq_true z);refine cG a f r Z h1 hl (λH2 s2=>⟨λy=>?_,λy=>?_⟩)
  ·have q:=(k _ s2).1 ⟨by lia,y⟩;rw[<- hL]at q;exact q
  ·exact (k _ s2).2 λz=>y z.2
def Ax(K:PySem.W.Frag):Sp:=λvs H Q _=>∃(o a:Addr) (rr:List Int),vs=[.ref o,.ref a,.int 0]/\aF K H a (rr.map V.int)/\rr.length<=1000/\(mO rr->∀p H',bi H p (.lst ((qt rr).map V.int)) H'->Q (.ref p) H')/\(¬mO rr->∀H',aj H H'->Q .non H')
theorem K2 (T:Txt w K mg t):bA P w K mg base bR 4 t.rZ t.nV ["self", "row", "page"] (Ax K):=by
 refine T.S4.okQ AT (λvs H Q E h=>by obtain⟨o,a,rr,rfl,_⟩:=h;rfl) λ_ _ _ _ H vs Q E hr h=>?_;obtain⟨o,a,rr,rfl,h1,hl,k1,k2⟩:=h;have hu:=hr.units;refine⟨_,(af (av (dN (gO (K:=K) Z (aa 1))) (ag (ap (aO (ab ae ad)))) aA)
  (af (aG (i:=3) AT.nd rfl (.inl rfl) (aP (Ct T) hr (ab (aa 1) ad)))
  (af (av (au ig (aa 3) bL (ar _)) (ag (ap bL)) aA)
  (ag (ap (fT rfl (cZ.of (fns:=(ak jx).names) (N:=["self", "row", "page", "lack"]) (Nc:=["place", "row"]) (nv:=1) (caps:=[1]) rfl rfl (by decide +kernel)) (Be rfl T.n_range (ab (bh (T4 K) T.n_len Ui (ab (aa 1) ad)) (ab (aw (T2 K) (bh (T4 K) T.n_len Ui (ab (aa 1) ad)) (aa 3)) ad))) (λ_ _ _ _=>(aT (i:=0) (show List.Nodup (["place", "row"]:List Str) by decide +kernel) rfl (Or.inl rfl) (Or.inr rfl))) (λ_ _ _ _=>fg) (λ_ _ _ _=>(ax (T5 K) (aP (Cz T) hr (ab (aa 1) (ab (aa 0) ad))) ae (λ_ _=>rfl))))))))),?_⟩
 refine aY (.inl h1) ?_;cases rr with
 | nil =>
  refine i6 ?_;exact⟨sz Z,λp H' g=>k1 trivial p H' g⟩
 | cons f r =>
  refine B7 ?_;refine cG a f r rfl h1 (by simp at hl;lia) (λH2 s2=>⟨λy=>?_,λy=>?_⟩)
  ·refine aY (.inl (s2.seq h1)) ?_;refine aY (.inl (s2.seq h1)) ?_;have hL:((List.map V.int (f::r)).length:Int)=(r.length:Int)+1:=by simp
   have hb:=pW f;have hy:=y.1;refine aV rfl ⟨by lia,by lia,by lia,by lia⟩ ?_;have hn:(((List.map V.int (f::r)).length:Int)+(lb f-((r.length:Int)+1))-((List.map V.int (f::r)).length:Int)).toNat=(lb f-((r.length:Int)+1)).toNat:=by lia
   rw[hn];refine re ((qt (f::r)).map V.int) (by rw[Uc,qt,Uc,UP]) (ci (by lia)) (λi v H3 N hi hv s3 hN=>?_) λp H3 g3=>k1 y p H3 (g3.after s2);have ev:v=.int (dQ f (r.length+1+i)):=by
    rw[Ug,qt,Ug,VI hi]at hv;cases hv
    rfl
   subst ev;have c1:((List.map V.int (f::r)).length:Int)+(i:Int)=((r.length+1+i:Nat):Int):=by lia
   refine⟨a,f,r,r.length+1+i,by rw[<- c1];rfl,s3.seq (s2.seq h1),λb H4 s4 hb=>?_⟩;exact⟨_,.int (dQ f (r.length+1+i)),.inr hb,aB (j:=0) Z,hN _ s4⟩
  ·exact k2 y _ s2
theorem N1 (T:Txt w K mg t):dL P w K mg base t.eY "fill" 4 t.rZ t.nV ["self", "row", "page"] [] (Ax K) :=
 ⟨T.nZ,T.LJ,⟨_,T.Sf,.nil⟩,K2 T⟩
def i5(n:Nat):Int:=if n=1 then 192 else if n=2 then 224 else 240
def gH:List Int->Int
 | []=>0
 | [f]=>f
 | f::r=>cu 6 ((f-i5 r.length)::r.map λb=>b-128)
def G2(K:PySem.W.Frag):Sp:=λvs H Q _=>∃(a:Addr) (rr:List Int),vs=[.ref a]/\aF K H a (rr.map V.int)/\gl rr/\∀H',aj H H'->Q (.int (gH rr)) H'
theorem Fn{f x:Int}{r:List Int}(h:gl (f::x::r)):(∀y∈x::r,128<=y/\y<=191)/\0<=f-i5 (r.length+1)/\f-i5 (r.length+1)<64/\r.length<=2/\(∃v,[0,0,192,224,240][r.length+2]? = some v/\v=i5 (r.length+1)):=by
 have hl:=pW f;obtain⟨⟨h1,h2⟩,h3⟩:jl f (x::r)/\((x::r).length:Int)+1=lb f:=h;refine⟨((Dc f _).mp h2).1,?_⟩;have hn:(r.length:Int)+2=lb f:=by simp at h3;lia
 have hr:r.length<=2:=by lia
 unfold lb at hn;have:r.length=0\/r.length=1\/r.length=2:=by lia
 rcases this with z|z|z<;>rw[z]at hn ⊢<;>simp only [i5]<;>(repeat' split at hn)<;>first|lia|exact⟨by simp;lia,by simp;lia,by lia,_,rfl,rfl⟩
theorem NL (T:Txt w K mg t):bp P w K mg base "carried" 3 t.yC t.vF ["row"] (G2 K):=by
 refine⟨T.Pa,T.EW.kp,T.RD,T.EW.okQ HH (λvs H Q E h=>by obtain⟨a,rr,rfl,_⟩:=h;rfl) λ_ _ _ _ H vs Q E hr h=>?_⟩;obtain⟨a,rr,rfl,h1,hw,k⟩:=h;have hu:=hr.units;refine⟨_,(af (av (au (aX (K:=K) Z hu) (bh (T4 K) T.n_len Ui (ab (aa 0) ad)) ae (ar _)) (ag (ap (ax (T5 K) (aa 0) ae (λ_ _=>rfl)))) aA)
  (ag (ap (aP (t5 T) hr (ab (aw (T2 K) (aO (ab (aw cD (ax (T5 K) (aa 0) ae (λ_ _=>rfl)) (ax (T5 K) (iB (v:=.ref t.oh) rfl T.DE rfl) (bh (T4 K) T.n_len Ui (ab (aa 0) ad)) (λ_ _=>rfl))) ad)) (fT rfl (cZ.of (fns:=(ak jv).names) (N:=["row"]) (Nc:=["byte"]) (nv:=1) (caps:=[]) rfl rfl (by decide +kernel)) (dI (K:=K) rfl (du (T6 K) (aa 0) (cA ae) eS)) (λ_ _ _ _=>(aT (i:=0) (show List.Nodup (["byte"]:List Str) by decide +kernel) rfl (Or.inl rfl) (Or.inr rfl))) (λ_ _ _ _=>fg) (λ_ _ _ _=>(aw cD (aa 0) (cm T.rG))))) (ab (cm T.DJ) ad)))))),?_⟩
 refine aY (.inl h1) ?_
 match rr,h1,hw,k with
 | [],_,hw,_=>exact hw.elim
 | [f],h1,hw,k =>
  exact⟨_,.int f,.inl h1,aB (j:=0) Z,k _ (aj.refl _)⟩
 | f::x::r,h1,hw,k =>
  obtain⟨b1,b2,b3,b4,v,hv,ev⟩:=Fn hw;have hL:((List.map V.int (f::x::r)).length:Int)=((r.length+2:Nat):Int):=by simp;lia
  refine aW _ (.int f) (.inl h1) (aB (j:=0) Z) ?_;refine aY (.inl h1) ?_;have hat:cW (([0,0,192,224,240]:List Int).map V.int) ((List.map V.int (f::x::r)).length:Int)=some (.int v):=by
   rw[hL];exact aB (by rw[Ug,hv];rfl)
  refine aW _ (.int v) (.inr (T.Bi _)) hat ?_;refine⟨sz Z,λp1 H1 g1=>?_⟩;refine⟨_,Z,_,g1.sm.seq h1,λp2 H2 g2=>?_⟩;rw[Dx]at g2;refine dq Z ⟨_,g2.lst⟩ ?_;refine jM (((x::r).map λb=>b-128).map V.int) (by simp) g2.lst (ci (by simp;lia)) (λi y v H3 N hy hv s3 hN=>?_) λp3 H3 g3=>?_
  ·rw[Ug]at hy;obtain⟨y,hy',rfl⟩:=Va.mp hy;rw[Ug,Ug,hy']at hv;cases hv;exact hN _ (aj.refl _)
  refine fe ((g2.sm.trans g3.sm).seq g1.lst) g3.lst (ci (by simp;lia)) (λp4 H4 g4=>?_);refine⟨p4,(f-v)::(x::r).map λb=>b-128,6,rfl,g4.lst,?_,by decide,by simp;lia,?_⟩
  ·intro y hy;rcases Uy.mp hy with rfl|hy
   ·rw[ev];exact⟨b2,b3⟩
   ·obtain⟨b,hb,rfl⟩:=Uu.mp hy;have:=b1 b hb;exact⟨by lia,show b-128<64 by lia⟩
  ·rw[ev];exact k _ (g1.sm.trans (g2.sm.trans (g3.sm.trans g4.sm)))
def Ah(K:PySem.W.Frag):Sp:=λvs H Q _=>∃(o a:Addr) (rr:List Int),vs=[.ref o,.ref a,.int 0]/\aF K H a (rr.map V.int)/\rr.length<=1000/\(gl rr->∀p H',bi H p (.tup [.int (gH rr),.int 0]) H'->Q (.ref p) H')/\(¬gl rr->∀H',aj H H'->Q .non H')
theorem KN (T:Txt w K mg t):bA P w K mg base bR 4 t.rX t.nT ["self", "row", "page"] (Ah K):=by
 refine T.S2.okQ Ii (λvs H Q E h=>by obtain⟨o,a,rr,rfl,_⟩:=h;rfl) λ_ _ _ _ H vs Q E hr h=>?_;obtain⟨o,a,rr,rfl,h1,hl,k1,k2⟩:=h;have hu:=hr.units;refine⟨_,(af (av (bO (fR (gO (K:=K) Z (aa 1)) (gb (au (aX (K:=K) Z hu) (aP (Ct T) hr (ab (aa 1) ad)) ae (ar _))))) (ag (ap (bN (ab (aP (NL T) hr (ab (aa 1) ad)) (ab (aa 2) ad))))) aA)
  (ag (ap bL))),?_⟩
 refine aY (.inl h1) ?_;cases rr with
 | nil=>exact k2 id _ (aj.refl _)
 | cons f r =>
  refine cG a f r rfl h1 (by simp at hl;lia) (λH2 s2=>⟨λy=>?_,λy=>?_⟩)
  ·refine ah (λe=>?_) (λe=>?_)
   ·have hw:gl (f::r):=⟨y,by have:=of_decide_eq_true e;lia⟩;refine⟨a,f::r,Z,s2.seq h1,hw,λH3 s3=>?_⟩;exact⟨sz Z,λp H' g=>k1 hw p H' (g.after (s2.trans s3))⟩
   ·exact k2 (λz=>e (decide_eq_true (by have:=z.2;lia))) _ s2
  ·refine⟨_,_,bq.non,bq.int 0,Z,Z,?_⟩;exact k2 (λz=>y z.1) _ s2
theorem NZ (T:Txt w K mg t):dL P w K mg base t.eY "whole" 4 t.rX t.nT ["self", "row", "page"] [] (Ah K) :=
 ⟨T.nZ,T.LH,⟨_,T.Sd,.nil⟩,KN T⟩
end
end My
namespace My
open PySem L2
def cM:List Int->Int->Option Nat
 | [],_=>none
 | m::ms,n=>if m=n then some 0 else (cM ms n).map (· + 1)
theorem gD{ns:List Int}{n:Int}:cM ns n=none ↔ n∉ns:=by
 induction ns with
 | nil=>simp[cM]
 | cons m ms ih =>
  unfold cM;by_cases e:m=n
  ·simp[e]
  ·rw[if_neg e];have e':¬n=m:=λz=>e z.symm;simp[ih,e']
theorem i7:∀ {ns:List Int} {n:Int} {i:Nat},cM ns n=some i->ns[i]? = some n/\∀j,j<i->ns[j]? ≠ some n
 | [],n,i,h=>by cases h
 | m::ms,n,i,h=>by
  unfold cM at h;by_cases e:m=n
  ·rw[if_pos e]at h;cases h;exact⟨by simp[e],λj hj=>absurd hj (by lia)⟩
  ·rw[if_neg e]at h;obtain⟨k,hk,rfl⟩:=Va.mp h;obtain⟨a,b⟩:=i7 hk;refine⟨by simpa using a,λj hj=>?_⟩;cases j with
   | zero=>simpa using e
   | succ j=>simpa using b j (by lia)
theorem MU(ns:List Int)(n m:Int):cM (ns++[n]) m=match cM ns m with
 | some i=>some i
 | none=>if n=m then some ns.length else none:=by
 induction ns with
 | nil=>simp[cM]
 | cons a as ih =>
  rw[List.cons_append,cM,cM];by_cases e:a=m
  ·rw[if_pos e,if_pos e]
  ·rw[if_neg e,if_neg e,ih];cases cM as m with
   | some i=>rfl
   | none =>
    dsimp only [Option.map];by_cases e2:n=m
    ·rw[if_pos e2,if_pos e2];simp
    ·rw[if_neg e2,if_neg e2]
theorem jB{ns:List Int}{n:Int}(h:n∈ns):∃i,cM ns n=some i/\i<ns.length:=by
 cases e:cM ns n with
 | none=>exact absurd h (gD.mp e)
 | some i=>exact⟨i,rfl,(Uk.mp (i7 e).1).1⟩
def ao{α:Type}(g:Int)(x y:α):α:=if g=0 then x else y
def cP(g:Int):Prop:=g=0\/g=1
theorem mG{g:Int}{x y:V}(h:cP g):cW [x,y] g=some (ao g x y):=by
 rcases h with rfl|rfl<;>rfl
theorem cP.flip{g:Int}(h:cP g):cP (1-g):=by
 rcases h with rfl|rfl
 ·exact .inr Z
 ·exact .inl Z
theorem AD{α:Type}{g:Int}{x y:α}(h:cP g):ao (1-g) x y=ao g y x:=by
 rcases h with rfl|rfl<;>rfl
theorem j2{α β:Type}(f:α->β)(g:Int)(x y:α):ao g (f x) (f y)=f (ao g x y):=by
 unfold ao;split<;>rfl
def og(O P:List Int)(b:Nat):Bool:=!decide (O.getD b 0∈P)
def gW(O P:List Int):List Nat:=(List.range O.length).filter (og O P)
theorem BQ{O P:List Int}{b:Nat}:b∈gW O P ↔ ∃n,O[b]? = some n/\n∉P:=by
 unfold gW og;rw[List.mem_filter,U3]
 constructor
 ·rintro⟨h,k⟩;refine⟨O[b],UL h,?_⟩;rw[VH,UL h]at k;simpa using k
 ·rintro⟨n,h,k⟩;refine⟨(Uk.mp h).1,?_⟩;rw[VH,h];simpa using k
theorem Ck{f:Nat->Bool}{i:Nat}(h:∀j,j<i->f j=false)(k:f i=true):∀ {n:Nat},i<n->((List.range n).filter f).head? = some i
 | 0,z=>absurd z (by lia)
 | n+1,z=>by
  rw[Vc,List.filter_append,List.head?_append];by_cases c:i<n
  ·rw[Ck h k c];rfl
  ·obtain rfl:i=n:=by lia
   have e:(List.range i).filter f=[]:=by
    rw[W7];intro j hj;rw[h j (U3.mp hj)]
    decide
   rw[e];simp[k]
theorem Pp{f:Nat->Bool}{n:Nat}(h:∀j,j<n->f j=false):(List.range n).filter f=[]:=by
 rw[W7];intro j hj;rw[h j (U3.mp hj)]
 decide
def dF(O P:List Int)(g:Int):List Int:=match (gW O P).head? with
 | some b=>[254+(1-g),(b:Int)]
 | none=>[]
def cX(ns:List Int):Prop:=(∀n∈ns,Sg n)/\ns.Nodup/\ns.length<=250
theorem j1{g:Int}{ns ms:List Int}(h:cX ns)(k:cX ms):cX (ao g ns ms):=by
 unfold ao;split
 ·exact h
 ·exact k
structure Fp where
 dx:Addr
 pp:Addr
 pl:Addr
 ps:Addr
 d0:Addr
 d1:Addr
 l0:Addr
 l1:Addr
 s0:Addr
 s1:Addr
def ir(H:Hp)(d:Addr)(ns:List Int):Prop:=∃kv,H d=some (.dK kv)/\∀n:Int,bv kv (.inl n)=(cM ns n).map λi=>V.int (i:Int)
structure Tg (t:Adr) (H:Hp) (a:Addr) (f:Fp) (ns ms:List Int):Prop where
 o:H a=some (.ins t.bU f.dx [("places",.ref f.pp),("lists",.ref f.pl),("shifted",.ref f.ps)])
 p:H f.pp=some (.lst [.ref f.d0,.ref f.d1])
 l:H f.pl=some (.lst [.ref f.l0,.ref f.l1])
 s:H f.ps=some (.lst [.ref f.s0,.ref f.s1])
 d0:ir H f.d0 ns
 d1:ir H f.d1 ms
 l0:H f.l0=some (.lst (ns.map V.int))
 l1:H f.l1=some (.lst (ms.map V.int))
 s0:H f.s0=some (.lst ((dF ms ns 0).map V.int))
 s1:H f.s1=some (.lst ((dF ns ms 1).map V.int))
 k0:cX ns
 k1:cX ms
section
variable {t:Adr}{H H':Hp}{a:Addr}{f:Fp}{ns ms:List Int}{g:Int}
theorem Tg.keep(h:Tg t H a f ns ms)(k:∀c u,c∈[a,f.pp,f.pl,f.ps,f.d0,f.d1,f.l0,f.l1,f.s0,f.s1]->H c=some u->H' c=some u):Tg t H' a f ns ms:=by
 obtain⟨o,p,l,s,⟨v0,d0,e0⟩,⟨v1,d1,e1⟩,l0,l1,s0,s1,k0,k1⟩:=h;exact⟨k _ _ (by simp) o,k _ _ (by simp) p,k _ _ (by simp) l,k _ _ (by simp) s,⟨v0,k _ _ (by simp) d0,e0⟩,⟨v1,k _ _ (by simp) d1,e1⟩,k _ _ (by simp) l0,k _ _ (by simp) l1,k _ _ (by simp) s0,k _ _ (by simp) s1,k0,k1⟩
theorem Tg.mono(h:Tg t H a f ns ms)(k:aj H H'):Tg t H' a f ns ms:=h.keep λc u _ e=>k c u e
theorem Tg.dk(h:Tg t H a f ns ms)(tg:cP g):ir H (ao g f.d0 f.d1) (ao g ns ms):=by
 rcases tg with rfl|rfl
 ·exact h.d0
 ·exact h.d1
theorem Tg.ll(h:Tg t H a f ns ms)(tg:cP g):H (ao g f.l0 f.l1)=some (.lst ((ao g ns ms).map V.int)):=by
 rcases tg with rfl|rfl
 ·exact h.l0
 ·exact h.l1
theorem Tg.ss(h:Tg t H a f ns ms)(tg:cP g):H (ao g f.s0 f.s1)=some (.lst ((dF (ao g ms ns) (ao g ns ms) g).map V.int)):=by
 rcases tg with rfl|rfl
 ·exact h.s0
 ·exact h.s1
def GE(K:PySem.W.Frag):Sp:=λvs H Q _=>∃(a:Addr) (ns:List Int) (wh:Int),vs=[.ref a,.int wh]/\aF K H a (ns.map V.int)/\cX ns/\∀p H',aj H H'->H p=none->ir H' p ns->Q (.ref p) H'
theorem Cs (T:Txt w K mg t):bp P w K mg base "places_in" 4 t.yf t.vf ["signs", "which"] (GE K):=by
 refine⟨T.OK,T.EC.kp,T.Rj,T.EC.okQ oY (λvs H Q E h=>by obtain⟨a,xs,wh,rfl,_⟩:=h;rfl) λ_ _ _ _ H vs Q E hr h=>?_⟩;obtain⟨a,ns,wh,rfl,h1,⟨sg,nd,ln⟩,kq⟩:=h;have hu:=hr.units;refine⟨_,(af (av (au fK (bh (T4 K) T.n_len Ui (ab (aa 0) ad)) (cm T.Qx) (ar _)) (ag gN) aA)
  (af (aG (i:=2) oY.nd rfl (.inl rfl) Bg)
  (af (dt PassesOwn.never rfl (m6 (K:=K) rfl rfl T.n_enumerate (ab (aa 0) ad)) (fi (K:=K) rfl rfl (bI (aT (i:=3) oY.nd rfl (.inl rfl)) (bI (aT (i:=4) oY.nd rfl (.inl rfl)) fh))) (af (av (bO (cU (dN (dw (aP (jC T) hr (ab (aa 4) ad)))) (db (au (qk hu) (aa 4) (aa 2) (by with_unfolding_all rfl))))) (ag gN) aA)
  (ag (pA hu (aa 2) (aa 4) (aa 3)))))
  (ag (ap (aa 2)))))),?_⟩
 refine aY (.inl h1) ?_;refine ah (λz=>?_) (λ_=>?_)
 ·have z:((ns.map V.int).length:Int) > 250:=of_decide_eq_true z;rw[Uc]at z
  lia
 refine λpd H1 g1=>?_;refine aW a _ rfl (g1.sm.seq h1) (nH (K:=K) (a:=a) (xs:=ns.map V.int) (λi σ H'=>aj H H'/\∃(kvs:List (aR × V)) (v3 v4:Option V),H' pd=some (.dK kvs)/\kvs.length<=i/\(∀n:Int,bv kvs (.inl n)=(cM (ns.take i) n).map λi=>V.int (i:Int))/\σ=[some (.ref a),some (.int wh),some (.ref pd),v3,v4]) ⟨g1.sm,[],_,_,g1.at_,by simp,(λn=>by simp[bv,cM]),rfl⟩ (λi σ H' _ z=>z.1.seq h1) ?_ ?_)
 ·rintro i x p σ H2 H3 hx ⟨s2,kvs,v3,v4,h2,lk,hv,rfl⟩ g3;obtain⟨n,hn,rfl⟩:=fk hx;have hi:=(Uk.mp hn).1;refine⟨p,_,Z,g3.tup,Z,_,_,Z,_,_,Z,Z,?_⟩;have s3:=s2.trans g3.sm;have d3:=g3.sm _ _ h2;have yes:dh (.int n)=true:=(hG n).mpr (sg n (Ur hn));refine dq Z (.int n) ?_;refine ah (λy=>?_) (λ_=>?_)
  ·have y:(!dh (.int n))=true:=y;rw[yes]at y;cases y
  have nin:n∉ns.take i:=λz=>by
   obtain⟨j,hj⟩:=W5 z;have hji:j<i:=by
    have:=(Uk.mp hj).1;rw[Ul]at this
    lia
   rw[Wf hji]at hj;obtain⟨a1,e1⟩:=Uk.mp hj;obtain⟨a2,e2⟩:=Uk.mp hn;exact absurd (e1.trans e2.symm) (Vr.mp nd j i a1 a2 hji)
  have vn:bv kvs (.inl n)=none:=by rw[hv,gD.mpr nin];rfl
  refine aW pd _ Z (da.k (k:=.inl n) d3) ?_;refine ah (λy=>?_) (λ_=>?_)
  ·have y:(bv kvs (.inl n)).isSome=true:=y;rw[vn]at y;cases y
  refine aW pd _ rfl (iu.k (k:=.inl n) d3 (eQ (by lia))) ?_;refine⟨s3.put g1.nw,_,_,_,bc,?_,λm=>?_,Z⟩
  ·rw[Jm _ vn,Ud];simp;lia
  ·rw[gX,f9 hn,MU,Ul,UT (by lia)];by_cases q:m=n
   ·subst q;rw[if_pos rfl,gD.mpr nin];simp
   ·rw[if_neg (λz=>q (Sum.inl.inj z)),hv];have q':¬n=m:=λz=>q z.symm;cases cM (ns.take i) m with
    | some j=>rfl
    | none=>simp[q']
 ·rintro σ H2 ⟨s2,kvs,v3,v4,h2,lk,hv,rfl⟩;rw[Uc,UJ]at hv;exact kq pd H2 s2 g1.nw ⟨kvs,h2,hv⟩
structure oy (t:Adr) (H:Hp) (a dx pp pl d0 d1 l0 l1:Addr) (ns ms:List Int):Prop where
 o:H a=some (.ins t.bU dx [("places",.ref pp),("lists",.ref pl)])
 p:H pp=some (.lst [.ref d0,.ref d1])
 l:H pl=some (.lst [.ref l0,.ref l1])
 d0:ir H d0 ns
 d1:ir H d1 ms
 l0:H l0=some (.lst (ns.map V.int))
 l1:H l1=some (.lst (ms.map V.int))
theorem ir.mono{H H':Hp}{d:Addr}{ns:List Int}(h:ir H d ns)(s:aj H H'):ir H' d ns:=by
 obtain⟨kv,a,b⟩:=h;exact⟨kv,s _ _ a,b⟩
theorem oy.mono{H H':Hp}{a dx pp pl d0 d1 l0 l1:Addr}{ns ms:List Int}(h:oy t H a dx pp pl d0 d1 l0 l1 ns ms)(s:aj H H'):oy t H' a dx pp pl d0 d1 l0 l1 ns ms :=
 ⟨s _ _ h.o,s _ _ h.p,s _ _ h.l,h.d0.mono s,h.d1.mono s,s _ _ h.l0,s _ _ h.l1⟩
def GB(t:Adr):Sp:=λvs H Q _=>∃(a dx pp pl d0 d1 l0 l1:Addr) (ns ms:List Int) (g:Int),vs=[.ref a,.int g]/\cP g/\oy t H a dx pp pl d0 d1 l0 l1 ns ms/\∀p H',aj H H'->H p=none->H' p=some (.lst ((dF (ao g ms ns) (ao g ns ms) g).map V.int))->Q (.ref p) H'
theorem CF (T:Txt w K mg t):cF P w K mg base t.bU "row_beyond" 1 t.yK t.vK ["self", "page"] (GB t):=by
 refine⟨T.dE,T.Lx,T.RS,T.SJ.okQ tj (λvs H Q E h=>by obtain⟨a,dx,pp,pl,d0,d1,l0,l1,ns,ms,g,rfl,_⟩:=h;rfl) λ_ _ _ _ H vs Q E hr h=>?_⟩;obtain⟨a,dx,pp,pl,d0,d1,l0,l1,ns,ms,g,rfl,tg,hf,k⟩:=h;have hu:=hr.units;refine⟨_,(af (dt PassesOwn.never rfl (m6 (K:=K) rfl rfl T.n_enumerate (ab (ax (T5 K) (aK (K:=K) rfl (aa 0)) (aw cD ae (aa 1)) (λ_ _=>rfl)) ad)) (fi (K:=K) rfl rfl (bI (aT (i:=2) tj.nd rfl (.inl rfl)) (bI (aT (i:=3) tj.nd rfl (.inl rfl)) fh))) (ag (av (au (CW hu) (aa 3) (ax (T5 K) (aK (K:=K) rfl (aa 0)) (aa 1) (λ_ _=>rfl)) (by with_unfolding_all rfl)) (ag (ap (aO (ab (ax (T5 K) (iB (v:=.ref t.mH) rfl T.xB rfl) (aw cD ae (aa 1)) (λ_ _=>rfl)) (ab (aa 2) ad))))) aA)))
  (ag (ap (aO ad)))),?_⟩
 have ln:H (ao (1-g) l0 l1)=some (.lst ((ao g ms ns).map V.int)):=by
  rcases tg with rfl|rfl
  ·exact hf.l1
  ·exact hf.l0
 have pk:ir H (ao g d0 d1) (ao g ns ms):=by
  rcases tg with rfl|rfl
  ·exact hf.d0
  ·exact hf.d1
 obtain⟨kv,hkv,vkv⟩:=pk;have sh:cW (([254,255]:List Int).map V.int) (1-g)=some (.int (254+(1-g))):=by
  rcases tg with rfl|rfl<;>rfl
 generalize hO:ao g ms ns=O at *;generalize hP:ao g ns ms=P' at *;refine bK a _ dx _ _ Z hf.o T.dE T.pL Z ?_;refine aW _ (.ref (ao (1-g) l0 l1)) (.inl (.of hf.l)) (by rw[mG tg.flip];exact congrArg some (j2 V.ref _ _ _)) ?_;refine⟨ao (1-g) l0 l1,_,rfl,.of ln,nH (K:=K) (a:=ao (1-g) l0 l1) (xs:=O.map V.int) (λi σ H'=>aj H H'/\(∀j,j<i->og O P' j=false)/\∃v2 v3,σ=[some (.ref a),some (.int g),v2,v3]) ⟨aj.refl _,(λj h=>absurd h (by lia)),_,_,rfl⟩ (λi σ H' _ z=>z.1.seq (.of ln)) ?_ ?_⟩
 ·rintro i x p σ H2 H3 hx ⟨s2,hj,v2,v3,rfl⟩ g3;obtain⟨q,hq,rfl⟩:=fk hx;have hi:=(Uk.mp hq).1;refine⟨p,_,Z,g3.tup,Z,_,_,Z,_,_,Z,Z,?_⟩;have s3:=s2.trans g3.sm;refine bK a _ dx _ _ Z (s3 _ _ hf.o) T.dE T.jz Z ?_;refine aW _ (.ref (ao g d0 d1)) (.inl (.of (s3 _ _ hf.p))) (by rw[mG tg];exact congrArg some (j2 V.ref _ _ _)) ?_;refine⟨ao g d0 d1,_,Z,da.k (k:=.inl q) (s3 _ _ hkv),?_⟩;have eq:(bv kv (.inl q)).isSome=decide (q∈P'):=by
   rw[vkv];cases e:cM P' q with
   | none=>have:=gD.mp e;simp[this]
   | some j =>
    have:q∈P':=Decidable.byContradiction λz=>by rw[gD.mpr z]at e;cases e
    simp[this]
  have ea:og O P' i = !decide (q∈P'):=by
   unfold og;rw[VH,hq];rfl
  refine ah (λy=>?_) (λy=>?_)
  ·have y:(!(bv kv (.inl q)).isSome)=true:=y;rw[eq,<- ea]at y;refine aW _ (.int (254+(1-g))) (.inr (T.tE _)) sh ?_;refine⟨sz Z,λp4 H4 g4=>?_⟩;refine k _ _ (s3.trans g4.sm) (s3.free g4.nw) ?_;have e:dF O P' g=[254+(1-g),(i:Int)]:=by
    unfold dF gW;rw[Ck hj y hi]
   rw[e];exact g4.at_
  ·have y:¬(!(bv kv (.inl q)).isSome)=true:=y;rw[eq,<- ea]at y;refine⟨s3,λj hji=>?_,_,_,Z⟩;by_cases c:j<i
   ·exact hj j c
   ·obtain rfl:j=i:=by lia
    simpa using y
 ·rintro σ H2 ⟨s2,hj,v2,v3,rfl⟩;rw[Uc]at hj;refine⟨sz Z,λp4 H4 g4=>k _ _ (s2.trans g4.sm) (s2.free g4.nw) ?_⟩;have e:dF O P' g=[]:=by
   unfold dF gW;rw[Pp hj]
   rfl
  rw[e];exact g4.at_
theorem Kp.seq{a f:Addr}{H H':Hp}{xs:List V}(k:Kp a H H')(n:f≠a)(h:aF K H f xs):aF K H' f xs:=by
 rcases h with h|h
 ·rcases h with h|⟨o,h⟩
  ·exact .inl (.inl (k _ _ n h))
  ·exact .inl (.inr ⟨o,k _ _ n h⟩)
 ·exact .inr h
def Au(K:PySem.W.Frag)(t:Adr):Sp:=λvs H Q _=>∃(a dx f g:Addr) (ns ms:List Int),vs=[.ref a,.ref f,.ref g]/\H a=some (.ins t.bU dx [])/\aF K H f (ns.map V.int)/\aF K H g (ms.map V.int)/\cX ns/\cX ms/\f≠a/\g≠a /\
 ∀fp H',Kp a H H'->Tg t H' a fp ns ms->(∀c∈[fp.pp,fp.pl,fp.ps,fp.d0,fp.d1,fp.l0,fp.l1,fp.s0,fp.s1],c≠a/\H c=none)->Q .non H'
theorem KZ (T:Txt w K mg t):bA P w K mg base bR 5 t.rQ t.qB ["self", "first", "second"] (Au K t):=by
 refine T.SK.okQ HU (λvs H Q E h=>by obtain⟨a,dx,f,g,ns,ms,rfl,_⟩:=h;rfl) λ_ _ _ _ H vs Q E hr h=>?_;obtain⟨a,dx,f,g,ns,ms,rfl,ha,hf,hg,ok0,ok1,nf,ng,kq⟩:=h;have hu:=hr.units;refine⟨_,(af (de (K:=K) Z (aa 0) (aO (ab (aP (Cs T) hr (ab (aa 1) (ab ae ad))) (ab (aP (Cs T) hr (ab (aa 2) (ab ae ad))) ad))))
  (af (de (K:=K) rfl (aa 0) (aO (ab (cv (T7 K) T.n_list UK (ab (aa 1) ad)) (ab (cv (T7 K) T.n_list UK (ab (aa 2) ad)) ad))))
  (ag (de (K:=K) rfl (aa 0) (aO (ab (dO (CF T) hr (aa 0) (ab ae ad)) (ab (dO (CF T) hr (aa 0) (ab ae ad)) ad))))))),?_⟩
 refine cG f ns 0 Z hf ok0 (λd0 H1 s1 fd0 pl0=>?_);refine cG g ms 1 Z (s1.seq hg) ok1 (λd1 H2 s2 fd1 pl1=>?_);refine⟨sz Z,λpp H3 g3=>?_⟩;have s3:=s1.trans (s2.trans g3.sm);refine cR a _ dx _ rfl (s3 _ _ ha) T.dE T.jz (Uh WE (by decide)) ?_;obtain⟨H4,e4⟩:∃H4,H4=upd H3 a (HO.ins t.bU dx (cI "places" (.ref pp) [])):=⟨_,rfl⟩;have a4:H4 a=some (.ins t.bU dx [("places",.ref pp)]):=by rw[e4,bc];rfl
 have k4:Kp a H3 H4:=by rw[e4];exact Kp.upd
 rw[<- e4];clear e4;have k04:Kp a H H4:=(Kp.of s3).trans k4;refine aY (.inl (k04.seq nf hf)) (λl0 H5 g5=>?_);refine aY (.inl ((k04.trans (Kp.of g5.sm)).seq ng hg)) (λl1 H6 g6=>?_);refine⟨sz Z,λpl H7 g7=>?_⟩;have s47:=g5.sm.trans (g6.sm.trans g7.sm);refine cR a _ dx _ rfl (s47 _ _ a4) T.dE T.pL (Uh (Uz 1) (by decide)) ?_;obtain⟨H8,e8⟩:∃H8,H8=upd H7 a (HO.ins t.bU dx (cI "lists" (.ref pl) [("places",.ref pp)])):=⟨_,rfl⟩;have a8:H8 a=some (.ins t.bU dx [("places",.ref pp),("lists",.ref pl)]):=by rw[e8,bc];rfl
 have k8:Kp a H7 H8:=by rw[e8];exact Kp.upd
 rw[<- e8];clear e8;have nd0:d0≠a:=(aN ha fd0).symm;have nd1:d1≠a:=(aN (s1 _ _ ha) fd1).symm;have npp:pp≠a:=(aN (s2 _ _ (s1 _ _ ha)) g3.nw).symm;have nl0:l0≠a:=(aN a4 g5.nw).symm;have nl1:l1≠a:=(aN (g5.sm _ _ a4) g6.nw).symm;have npl:pl≠a:=(aN (g6.sm _ _ (g5.sm _ _ a4)) g7.nw).symm;have k38:Kp a H3 H8:=k4.trans ((Kp.of s47).trans k8);have k08:Kp a H H8:=(Kp.of s3).trans k38;obtain⟨kv0,q0,e0⟩:=pl0;obtain⟨kv1,q1,e1⟩:=pl1;have half:oy t H8 a dx pp pl d0 d1 l0 l1 ns ms:=⟨a8,k38 _ _ npp g3.at_,k8 _ _ npl g7.at_,⟨kv0,k38 _ _ nd0 (g3.sm _ _ (s2 _ _ q0)),e0⟩,⟨kv1,k38 _ _ nd1 (g3.sm _ _ q1),e1⟩,k8 _ _ nl0 (g7.sm _ _ (g6.sm _ _ g5.at_)),k8 _ _ nl1 (g7.sm _ _ g6.at_)⟩;refine cG a dx _ Z a8 Z ?_;refine⟨a,dx,pp,pl,d0,d1,l0,l1,ns,ms,0,Z,.inl Z,half,λz0 H9 s9 fz0 hz0=>?_⟩;refine cG a dx _ Z (s9 _ _ a8) Z ?_;refine⟨a,dx,pp,pl,d0,d1,l0,l1,ns,ms,1,Z,.inr Z,half.mono s9,λz1 HA sA fz1 hz1=>?_⟩;refine⟨sz Z,λps HB gB=>?_⟩;have s8B:=s9.trans (sA.trans gB.sm);refine cR a _ dx _ rfl (s8B _ _ a8) T.dE T.pK (Uh (Uz 2) (by decide)) ?_;obtain⟨HC,eC⟩:∃HC,HC=upd HB a (HO.ins t.bU dx (cI "shifted" (.ref ps) [("places",.ref pp),("lists",.ref pl)])):=⟨_,rfl⟩;have aC:HC a=some (.ins t.bU dx [("places",.ref pp),("lists",.ref pl),("shifted",.ref ps)]):=by rw[eC,bc];rfl
 have kC:Kp a HB HC:=by rw[eC];exact Kp.upd
 rw[<- eC];clear eC;have nz0:z0≠a:=(aN a8 fz0).symm;have nz1:z1≠a:=(aN (s9 _ _ a8) fz1).symm;have nps:ps≠a:=(aN (sA _ _ (s9 _ _ a8)) gB.nw).symm;have k8C:Kp a H8 HC:=(Kp.of s8B).trans kC;have hB:=half.mono s8B;have fr:∀ {c:Addr} {H':Hp},Kp a H H'->c≠a->H' c=none->H c=none:=λ{c H'} k n e=>by
  cases h:H c with
  | none=>rfl
  | some u=>rw[k c u n h]at e;cases e
 refine kq ⟨dx,pp,pl,ps,d0,d1,l0,l1,z0,z1⟩ HC (k08.trans k8C) ⟨aC,kC _ _ npp hB.p,kC _ _ npl hB.l,kC _ _ nps gB.at_,?_,?_,kC _ _ nl0 hB.l0,kC _ _ nl1 hB.l1,kC _ _ nz0 (gB.sm _ _ (sA _ _ hz0)),kC _ _ nz1 (gB.sm _ _ hz1),ok0,ok1⟩ ?_
 ·obtain⟨kv,x,y⟩:=hB.d0;exact⟨kv,kC _ _ nd0 x,y⟩
 ·obtain⟨kv,x,y⟩:=hB.d1;exact⟨kv,kC _ _ nd1 x,y⟩
 ·intro c hc;simp only [Uy,WF,or_false]at hc;rcases hc with rfl|rfl|rfl|rfl|rfl|rfl|rfl|rfl|rfl
  ·exact⟨npp,s1.free (s2.free g3.nw)⟩
  ·exact⟨npl,fr (k04.trans (Kp.of (g5.sm.trans g6.sm))) npl g7.nw⟩
  ·exact⟨nps,fr (k08.trans (Kp.of (s9.trans sA))) nps gB.nw⟩
  ·exact⟨nd0,fd0⟩
  ·exact⟨nd1,s1.free fd1⟩
  ·exact⟨nl0,fr k04 nl0 g5.nw⟩
  ·exact⟨nl1,fr (k04.trans (Kp.of g5.sm)) nl1 g6.nw⟩
  ·exact⟨nz0,fr k08 nz0 fz0⟩
  ·exact⟨nz1,fr (k08.trans (Kp.of s9)) nz1 fz1⟩
theorem MW (T:Txt w K mg t):mM P w K mg base "ShiftTongue" t.bU 5 t.rQ t.qB ["self", "first", "second"] [] (Au K t):=⟨T.Oc,T.LN,⟨[],T.RT,.nil⟩,KZ T⟩
theorem DK(O P:List Int)(g:Int):dF O P g=[]\/∃b:Nat,(gW O P).head? = some b/\dF O P g=[254+(1-g),(b:Int)]:=by
 unfold dF;cases e:(gW O P).head? with
 | none=>exact .inl rfl
 | some b=>exact .inr ⟨b,rfl,rfl⟩
theorem QJ(O P:List Int)(g:Int):dF O P g=[] ↔ gW O P=[]:=by
 unfold dF;cases e:gW O P with
 | nil=>simp
 | cons b r=>simp
def dX(P O:List Int)(g:Int)(x:V):Option (List Int × Int):=match x with
 | .int n=>match cM P n with
  | some i=>some ([(i:Int)],g)
  | none=>match cM O n with
   | some i=>some ([254+(1-g),(i:Int)],1-g)
   | none=>none
 | _=>none
theorem Gc{P O:List Int}{g:Int}{x:V}(hP:cX P)(hO:cX O)(h:dh x=false):dX P O g x=none:=by
 cases x with
 | int n =>
  have hn:¬Sg n:=λz=>by rw[(hG n).mpr z]at h;cases h
  unfold dX;dsimp only;rw[gD.mpr λz=>hn (hP.1 n z)];dsimp only;rw[gD.mpr λz=>hn (hO.1 n z)]
 | _=>rfl
theorem He{v:V}(h:dh v=true):∃n,v=.int n/\Sg n:=by
 cases v with
 | int n=>exact⟨n,rfl,(hG n).mp h⟩
 | _=>simp[dh,dM]at h
def Ku:Option Int->V
 | some n=>.int n
 | none=>.non
theorem DU{L:List Int}{b n:Int}(b0:0<=b)(h:L[b.toNat]? = some n):cW (L.map V.int) b=some (.int n):=by
 obtain⟨k,rfl⟩:∃k:Nat,b=(k:Int):=⟨b.toNat,by lia⟩;exact aB (by rw[Ug];simp at h;rw[h];rfl)
def Gs(t:Adr):Sp:=λvs H Q _=>∃(a:Addr) (f:Fp) (ns ms:List Int) (b g:Int),vs=[.ref a,.int b,.int g]/\cP g/\Tg t H a f ns ms/\0<=b/\Q (Ku (ao g ns ms)[b.toNat]?) H
theorem CD (T:Txt w K mg t):cF P w K mg base t.bU "sign_of" 1 t.yJ t.vJ ["self", "byte", "page"] (Gs t):=by
 refine⟨T.dE,T.Lw,T.RQ,T.SH.okQ HS (λvs H Q E h=>by obtain⟨a,f,ns,ms,b,g,rfl,_⟩:=h;rfl) λ_ _ _ _ H vs Q E hr h=>?_⟩;obtain⟨a,f,ns,ms,b,g,rfl,two,tg,b0,k⟩:=h;refine⟨_,(ag (ap (hW (au cV (aa 1) (bh (T4 K) T.n_len Ui (ab (ax (T5 K) (aK (K:=K) Z (aa 0)) (aa 2) (λ_ _=>rfl)) ad)) (ar _)) (ax (T5 K) (ax (T5 K) (aK (K:=K) Z (aa 0)) (aa 2) (λ_ _=>rfl)) (aa 1) (λ_ _=>rfl)) bL))),?_⟩;have el:cW [V.ref f.l0,V.ref f.l1] g=some (.ref (ao g f.l0 f.l1)):=by rw[mG two];exact congrArg some (j2 V.ref _ _ _)
 have hl:=tg.ll two;refine bK a _ f.dx _ _ Z tg.o T.dE T.pL Z ?_;refine aV (.inl (.of tg.l)) el ?_;refine aY (.inl (.of hl)) ?_;refine ah (λz=>?_) (λz=>?_)
 ·have z:b<(((ao g ns ms).map V.int).length:Int):=of_decide_eq_true z;rw[Uc]at z;refine bK a _ f.dx _ _ Z tg.o T.dE T.pL Z ?_;refine aV (.inl (.of tg.l)) el ?_;obtain⟨n,hn⟩:∃n,(ao g ns ms)[b.toNat]? = some n:=⟨_,UL (by lia)⟩;rw[hn]at k;exact⟨_,.int n,.inl (.of hl),DU b0 hn,k⟩
 ·have z:¬b<(((ao g ns ms).map V.int).length:Int):=λy=>z (decide_eq_true y);rw[Uc]at z;rw[U7 (by lia)]at k;exact k
def r9(g:Int)(row:List Int):Prop:=(∃b,row=[b]/\0<=b)\/∃c,row=[254+(1-g),c]/\0<=c
def eI(P O:List Int)(g:Int)(row:List Int):Option (Int × Int):=match row with
 | [b]=>P[b.toNat]?.map λn=>(n,g)
 | [_,c]=>match O[c.toNat]? with
  | some n=>if n∈P then none else some (n,1-g)
  | none=>none
 | _=>none
def Ai(t:Adr):Sp:=λvs H Q _=>∃(a:Addr) (f:Fp) (ns ms:List Int) (q:Addr) (row:List Int) (g:Int),vs=[.ref a,.ref q,.int g]/\cP g/\Tg t H a f ns ms/\H q=some (.lst (row.map V.int))/\r9 g row /\
 (eI (ao g ns ms) (ao g ms ns) g row=none->Q .non H)/\(∀n g',eI (ao g ns ms) (ao g ms ns) g row=some (n,g')->∀p H',bi H p (.tup [.int n,.int g']) H'->Q (.ref p) H')
theorem KO (T:Txt w K mg t):bA P w K mg base bR 2 t.rO t.nM ["self", "row", "page"] (Ai t):=by
 refine T.SF.okQ sZ (λvs H Q E h=>by obtain⟨o,f,ns,ms,q,row,g,rfl,_⟩:=h;rfl) λ_ _ _ _ H vs Q E hr h=>?_;obtain⟨a,f,ns,ms,q,row,g,rfl,two,tg,hq,ok,kn,ks⟩:=h;have hu:=hr.units;refine⟨_,(af (av (au (aX (K:=K) Z hu) (bh (T4 K) T.n_len Ui (ab (aa 1) ad)) ae (ar _)) (af (aG (i:=3) sZ.nd Z (.inl Z) (dO (CD T) hr (aa 0) (ab (ax (T5 K) (aa 1) ae (λ_ _=>rfl)) (ab (aa 2) ad))))
  (ag (ap (hW (au ig (aa 3) bL (ar _)) bL (bN (ab (aa 3) (ab (aa 2) ad))))))) aA)
  (af (av (bO (fR (au (aX (K:=K) rfl hu) (bh (T4 K) T.n_len Ui (ab (aa 1) ad)) ae (ar _)) (gb (au (aX (K:=K) rfl hu) (ax (T5 K) (aa 1) ae (λ_ _=>rfl)) (ax (T5 K) (iB (v:=.ref t.mH) rfl T.xB rfl) (aw cD ae (aa 2)) (λ_ _=>rfl)) (ar _))))) (af (aG (i:=3) sZ.nd rfl (.inl rfl) (dO (CD T) hr (aa 0) (ab (ax (T5 K) (aa 1) ae (λ_ _=>rfl)) (ab (aw cD ae (aa 2)) ad))))
  (ag (ap (hW (bO (cU (au ig (aa 3) bL (ar _)) (db (au (qk hu) (aa 3) (ax (T5 K) (aK (K:=K) rfl (aa 0)) (aa 2) (λ_ _=>rfl)) (by with_unfolding_all rfl))))) bL (bN (ab (aa 3) (ab (aw cD ae (aa 2)) ad))))))) aA)
  (ag (ap bL)))),?_⟩
 refine aY (.inl (.of hq)) ?_;rcases ok with ⟨b,rfl,b0⟩|⟨c,rfl,c0⟩
 ·refine cG a f.dx _ Z tg.o Z ?_;refine aV (.inl (.of hq)) (aB (j:=0) Z) ?_;refine⟨a,f,ns,ms,b,g,Z,two,tg,b0,?_⟩;unfold eI at kn ks;dsimp only at kn ks;cases e:(ao g ns ms)[b.toNat]? with
  | none=>exact kn (by rw[e];rfl)
  | some n=>exact⟨sz rfl,λp H' g'=>ks n g (by rw[e];rfl) p H' g'⟩
 ·have sh:cW (([254,255]:List Int).map V.int) (1-g)=some (.int (254+(1-g))):=by
   rcases two with rfl|rfl<;>rfl
  refine aY (.inl (.of hq)) ?_;refine aV (.inl (.of hq)) (aB (j:=0) Z) ?_;refine aV (.inr (T.tE _)) sh ?_;refine ah (λ_=>?_) (λz=>absurd (show decide (254+(1-g)=254+(1-g))=true by simp) z);refine cG a f.dx _ Z tg.o Z ?_;refine aV (.inl (.of hq)) (aB (j:=1) Z) ?_;refine⟨a,f,ns,ms,c,1-g,Z,two.flip,tg,c0,?_⟩;rw[AD two];unfold eI at kn ks;dsimp only at kn ks;cases e:(ao g ms ns)[c.toNat]? with
  | none =>
   rw[e]at kn;exact kn Z
  | some n =>
   rw[e]at kn ks;dsimp only at kn ks;obtain⟨kv,hkv,vkv⟩:=tg.dk two;refine bK a _ f.dx _ _ Z tg.o T.dE T.jz Z ?_;refine aW _ (.ref (ao g f.d0 f.d1)) (.inl (.of tg.p)) (by rw[mG two];exact congrArg some (j2 V.ref _ _ _)) ?_;refine aV Z (da.k (k:=.inl n) hkv) ?_;by_cases hn:n∈ao g ns ms
   ·rw[if_pos hn]at kn;obtain⟨i,hi,_⟩:=jB hn;have v1:bv kv (.inl n)=some (.int (i:Int)):=by rw[vkv,hi];rfl
    refine ah (λ_=>?_) (λz=>absurd (show (bv kv (.inl n)).isSome=true by rw[v1];rfl) z);exact kn Z
   ·rw[if_neg hn]at ks;have v1:bv kv (.inl n)=none:=by rw[vkv,gD.mpr hn];rfl
    refine ah (λz=>absurd (show (bv kv (.inl n)).isSome=true from z) (by rw[v1];decide)) (λ_=>?_);exact⟨sz Z,λp H' g'=>ks n (1-g) Z p H' g'⟩
theorem CC (T:Txt w K mg t):dL P w K mg base t.bU "whole" 2 t.rO t.nM ["self", "row", "page"] [] (Ai t) :=
 ⟨T.dE,T.Lu,⟨_,T.RO,.nil⟩,KO T⟩
def dj(one other:List Int):Bool:=decide (other.take one.length=one)
def G5(K:PySem.W.Frag):Sp:=λvs H Q _=>∃(a b:Addr) (x y:List Int),vs=[.ref a,.ref b]/\aF K H a (x.map V.int)/\aF K H b (y.map V.int)/\∀H',aj H H'->Q (.bl (dj x y)) H'
theorem nX(ns:List Int)(k:Nat):dD (ns.map V.int) none (some (k:Int))=(ns.take k).map V.int:=by rw[fz,qM]
theorem ue (T:Txt w K mg t):bp P w K mg base "begins" 1 t.yE t.vH ["one", "other"] (G5 K):=by
 refine⟨T.Pd,T.EY.kp,T.RF,T.EY.okQ HJ (λvs H Q E h=>by obtain⟨a,b,x,y,rfl,_⟩:=h;rfl) λ_ _ _ _ H vs Q E hr h=>?_⟩;obtain⟨a,b,x,y,rfl,ha,hb,k⟩:=h;have hu:=hr.units;refine⟨_,(ag (ap (dJ (aX (K:=K) Z hu) (du (T6 K) (aa 1) eS (cA (bh (T4 K) T.n_len Ui (ab (aa 0) ad)))) (aa 0) (ar _)))),?_⟩;refine⟨_,.inl ha,_,Z,_,hb,λp1 H1 g1=>?_⟩;rw[Uc,nX]at g1;exact gS g1.lst (g1.sm.seq ha) (k H1 g1.sm)
def gF(P O:List Int)(g:Int)(row:List Int):Bool:=(eI P O g row).isSome || (!(dF O P g).isEmpty && dj row (dF O P g))
def Aw(t:Adr):Sp:=λvs H Q _=>∃(a:Addr) (f:Fp) (ns ms:List Int) (q:Addr) (row:List Int) (g:Int),vs=[.ref a,.ref q,.int g]/\cP g/\Tg t H a f ns ms/\H q=some (.lst (row.map V.int))/\r9 g row /\
 (gF (ao g ns ms) (ao g ms ns) g row=false->∀H',aj H H'->Q .non H')/\(gF (ao g ns ms) (ao g ms ns) g row=true->∀p (r2:List Int) H',aj H H'->H' p=some (.lst (r2.map V.int))->(eI (ao g ns ms) (ao g ms ns) g row=none->r2=(dF (ao g ms ns) (ao g ns ms) g).drop row.length)->Q (.ref p) H')
theorem K3 (T:Txt w K mg t):bA P w K mg base bR 3 t.rR t.nO ["self", "row", "page"] (Aw t):=by
 refine T.SL.okQ HV (λvs H Q E h=>by obtain⟨o,f,ns,ms,q,row,g,rfl,_⟩:=h;rfl) λ_ _ _ _ H vs Q E hr h=>?_;obtain⟨a,f,ns,ms,q,row,g,rfl,two,tg,hq,ok,kn,ks⟩:=h;have hu:=hr.units;refine⟨_,(af (av (au uq (cB (CC T) hr (aa 0) (ab (aa 1) (ab (aa 2) ad))) bL (ar _)) (ag (ap (aO ad))) aA)
  (af (av (bO (fR (dN (gO (K:=K) rfl (aa 1))) (gb (gO (K:=K) rfl (ax (T5 K) (aK (K:=K) rfl (aa 0)) (aa 2) (λ_ _=>rfl)))))) (ag (ap (aO (ab ae ad)))) aA)
  (af (av (bO (fR (gO (K:=K) rfl (ax (T5 K) (aK (K:=K) rfl (aa 0)) (aa 2) (λ_ _=>rfl))) (gb (dw (aP (ue T) hr (ab (aa 1) (ab (ax (T5 K) (aK (K:=K) rfl (aa 0)) (aa 2) (λ_ _=>rfl)) ad))))))) (ag (ap (du (T6 K) (ax (T5 K) (aK (K:=K) rfl (aa 0)) (aa 2) (λ_ _=>rfl)) (cA (bh (T4 K) T.n_len Ui (ab (aa 1) ad))) eS))) aA)
  (ag (ap bL))))),?_⟩
 refine cG a f.dx _ Z tg.o Z ?_;refine⟨a,f,ns,ms,q,row,g,Z,two,tg,hq,ok,λhw=>?_,λn g' hw p H1 g1=>?_⟩
 ·have rne:row≠[]:=by
   rcases ok with ⟨b,rfl,_⟩|⟨c,rfl,_⟩<;>simp
  have rt:(!(row.map V.int).isEmpty)=true:=by
   cases row with
   | nil=>exact absurd rfl rne
   | cons _ _=>rfl
  refine aY (.inl (.of hq)) ?_;refine ah (λz=>absurd (show (!(!(row.map V.int).isEmpty))=true from z) (by rw[rt];decide)) (λ_=>?_);have es:cW [V.ref f.s0,V.ref f.s1] g=some (.ref (ao g f.s0 f.s1)):=by rw[mG two];exact congrArg some (j2 V.ref _ _ _)
  have hs:=tg.ss two;refine bK a _ f.dx _ _ Z tg.o T.dE T.pK Z ?_;refine aV (.inl (.of tg.s)) es ?_;refine aY (.inl (.of hs)) ?_;unfold gF at kn ks;rw[hw]at kn ks;refine ah (λz=>?_) (λz=>?_)
  ·have z:(!((dF (ao g ms ns) (ao g ns ms) g).map V.int).isEmpty)=true:=z;rw[List.isEmpty_map]at z;rw[z]at kn ks;refine bK a _ f.dx _ _ Z tg.o T.dE T.pK Z ?_;refine aV (.inl (.of tg.s)) es ?_;refine⟨q,ao g f.s0 f.s1,row,_,Z,.of hq,.of hs,λH1 s1=>?_⟩;refine ah (λy=>?_) (λy=>?_)
   ·have y:dj row (dF (ao g ms ns) (ao g ns ms) g)=true:=y;rw[y]at ks;have tg1:=tg.mono s1;refine bK a _ f.dx _ _ Z tg1.o T.dE T.pK Z ?_;refine aV (.inl (.of tg1.s)) es ?_;refine⟨_,.inl (.of (s1 _ _ hq)),_,Z,_,.of (s1 _ _ hs),λp2 H2 g2=>?_⟩;rw[Uc,fz,jL]at g2;exact ks Z p2 _ H2 (s1.trans g2.sm) g2.at_ (λ_=>rfl)
   ·have y:dj row (dF (ao g ms ns) (ao g ns ms) g)=false:=by
     cases e:dj row (dF (ao g ms ns) (ao g ns ms) g) with
     | false=>rfl
     | true=>exact absurd e y
    rw[y]at kn;exact kn Z H1 s1
  ·have z:(!((dF (ao g ms ns) (ao g ns ms) g).map V.int).isEmpty)=false:=by
    cases e:(!((dF (ao g ms ns) (ao g ns ms) g).map V.int).isEmpty) with
    | false=>rfl
    | true=>exact absurd e z
   rw[List.isEmpty_map]at z;rw[z]at kn;exact kn Z H (aj.refl _)
 ·refine⟨sz Z,λp2 H2 g2=>?_⟩;exact ks (by unfold gF;rw[hw];rfl) p2 [] H2 (g1.sm.trans g2.sm) g2.at_ (λh=>by rw[hw]at h;cases h)
theorem NU (T:Txt w K mg t):dL P w K mg base t.bU "fill" 3 t.rR t.nO ["self", "row", "page"] [] (Aw t) :=
 ⟨T.dE,T.Ly,⟨_,T.RU,.nil⟩,K3 T⟩
def iD(P O:List Int)(g:Int)(row:List Int):List V:=match eI P O g row with
 | some (n,g')=>[.str "sign",.int n,.int g']
 | none=>if gF P O g row=true then [.str "more",.non,.int g] else [.str "none",.non,.int g]
def fO(P O:List Int):List Int:=(gW P O).map λb:Nat=>(b:Int)
theorem mv{O P:List Int}{c:Int}(c0:0<=c):c∈fO O P ↔ ∃n,O[c.toNat]? = some n/\n∉P:=by
 unfold fO;rw[Uu]
 constructor
 ·rintro⟨b,hb,rfl⟩;simpa using BQ.mp hb
 ·rintro h;exact⟨c.toNat,BQ.mpr h,by lia⟩
theorem DY{O P:List Int}:fO O P=[] ↔ gW O P=[]:=by unfold fO;simp
theorem BX{P O:List Int}{g b:Int}(b0:0<=b):iD P O g [b]=match P[b.toNat]? with
 | some n=>[.str "sign",.int n,.int g]
 | none=>if b=254+(1-g)/\fO O P≠[] then [.str "more",.non,.int g] else [.str "none",.non,.int g]:=by
 have hw:eI P O g [b]=P[b.toNat]?.map λn=>(n,g):=rfl;unfold iD;rw[hw];cases e:P[b.toNat]? with
 | some n=>rfl
 | none =>
  have hw':eI P O g [b]=none:=by rw[hw,e];rfl
  dsimp only [Option.map];unfold gF;rw[hw'];rcases DK O P g with hb|⟨i,hi,hb⟩
  ·have ha:=DY.mpr ((QJ O P g).mp hb);rw[hb,ha];simp
  ·have ha:fO O P≠[]:=λz=>by
    rw[DY.mp z]at hi;cases hi
   rw[hb];unfold dj;by_cases c:b=254+(1-g)
   ·simp[c,ha]
   ·have c':¬254+(1-g)=b:=λz=>c z.symm;simp[c,c']
theorem BW {P O:List Int} {g c:Int} (c0:0<=c):iD P O g [254+(1-g),c]=if c∈fO O P then [.str "sign",.int (O.getD c.toNat 0),.int (1-g)] else [.str "none",.non,.int g]:=by
 by_cases h:c∈fO O P
 ·rw[if_pos h];obtain⟨n,hn,hp⟩:=(mv c0).mp h;unfold iD eI;simp[hn,hp,VH]
 ·rw[if_neg h];have hw:eI P O g [254+(1-g),c]=none:=by
   unfold eI;dsimp only;cases e:O[c.toNat]? with
   | none=>rfl
   | some n =>
    dsimp only;rw[if_pos];exact Decidable.byContradiction λz=>h ((mv c0).mpr ⟨n,e,z⟩)
  have hf:gF P O g [254+(1-g),c]=false:=by
   unfold gF;rw[hw];rcases DK O P g with hb|⟨i,hi,hb⟩
   ·rw[hb];rfl
   ·rw[hb];unfold dj;have:¬(i:Int)=c:=λz=>h (by
     unfold fO;exact Uu.mpr ⟨i,List.mem_of_mem_head? hi,z⟩)
    simp[this]
  unfold iD;rw[hw,hf]
  rfl
structure jR (H:Hp) (p:Addr) (s:Int) (r:List Int):Prop where
 h:∃q,H p=some (.tup [.int s,.ref q])/\H q=some (.lst (r.map V.int))
 l:1<=r.length/\r.length<=6
theorem jR.mono{H H':Hp}{p:Addr}{s:Int}{r:List Int}(h:jR H p s r)(k:aj H H'):jR H' p s r:=by
 obtain⟨⟨q,a,b⟩,l⟩:=h
 exact⟨⟨q,k _ _ a,k _ _ b⟩,l⟩
def gj(e f:Int × List Int):Bool:=decide (e.1=f.1) || dj e.2 f.2 || dj f.2 e.2
def G0:Sp:=λvs H Q _=>∃(a b:Addr) (e f:Int × List Int),vs=[.ref a,.ref b]/\jR H a e.1 e.2/\jR H b f.1 f.2/\∀H',aj H H'->Q (.bl (gj e f)) H'
theorem NJ (T:Txt w K mg t):bp P w K mg base "collide" 2 t.yz t.vC ["one", "other"] G0:=by
 refine⟨T.O7,T.ET.kp,T.RA,T.ET.okQ HF (λvs H Q E h=>by obtain⟨a,b,x,y,rfl,_⟩:=h;rfl) λ_ _ _ _ H vs Q E hr h=>?_⟩;obtain⟨a,b,⟨s1,r1⟩,⟨s2,r2⟩,rfl,⟨⟨q1,ha,hq1⟩,_⟩,⟨⟨q2,hb,hq2⟩,_⟩,k⟩:=h;dsimp only at ha hq1 hb hq2;have hu:=hr.units;refine⟨_,(ag (ap (pz (dJ (aX (K:=K) Z hu) (ax (T5 K) (aa 0) ae (λ_ _=>rfl)) (ax (T5 K) (aa 1) ae (λ_ _=>rfl)) (ar _)) (pz (aP (ue T) hr (ab (ax (T5 K) (aa 0) ae (λ_ _=>rfl)) (ab (ax (T5 K) (aa 1) ae (λ_ _=>rfl)) ad))) (fS (aP (ue T) hr (ab (ax (T5 K) (aa 1) ae (λ_ _=>rfl)) (ab (ax (T5 K) (aa 0) ae (λ_ _=>rfl)) ad)))))))),?_⟩;refine aV (.inr (.of ha)) (aB (j:=0) Z) ?_;refine aV (.inr (.of hb)) (aB (j:=0) Z) ?_;refine ah (λz=>?_) (λz=>?_)
 ·refine cE (k H (aj.refl _)) ?_;have z:decide (s1=s2)=true:=z;show (decide (s1=s2) || dj r1 r2 || dj r2 r1)=true;rw[z];rfl
 have z:¬decide (s1=s2)=true:=z;refine aV (.inr (.of ha)) (aB (j:=1) Z) ?_;refine aV (.inr (.of hb)) (aB (j:=1) Z) ?_;refine⟨q1,q2,r1,r2,Z,.of hq1,.of hq2,λH1 k1=>?_⟩;refine ah (λy=>?_) (λy=>?_)
 ·refine cE (k H1 k1) ?_;have y:dj r1 r2=true:=y;show (decide (s1=s2) || dj r1 r2 || dj r2 r1)=true;rw[y];simp
 have y:¬dj r1 r2=true:=y;refine aV (.inr (.of (k1 _ _ hb))) (aB (j:=1) Z) ?_;refine aV (.inr (.of (k1 _ _ ha))) (aB (j:=1) Z) ?_;refine⟨q2,q1,r2,r1,Z,.of (k1 _ _ hq2),.of (k1 _ _ hq1),λH2 k2=>?_⟩;refine cE (k H2 (k1.trans k2)) ?_;show (decide (s1=s2) || dj r1 r2 || dj r2 r1)=dj r2 r1;simp at z y;simp[z,y]
structure Es (es:List (Int × List Int)):Prop where
 sg:∀e∈es,Sg e.1/\1<=e.2.length/\e.2.length<=6/\∀b∈e.2,0<=b/\b<=255
 pw:es.Pairwise λe f=>gj e f=false
 l:es.length<=64
theorem Qa(e f:Int × List Int):gj e f=gj f e:=by
 unfold gj;rw[show decide (e.1=f.1)=decide (f.1=e.1) by simp[eq_comm],Bool.or_assoc,Bool.or_assoc,Bool.or_comm (dj e.2 f.2)]
theorem Es.two{es:List (Int × List Int)}(h:Es es){e f:Int × List Int}(he:e∈es)(hf:f∈es):e=f\/gj e f=false:=by
 obtain⟨i,hi,rfl⟩:=V2.mp he;obtain⟨j,hj,rfl⟩:=V2.mp hf;rcases Nat.lt_trichotomy i j with c|c|c
 ·exact .inr (Vr.mp h.pw i j hi hj c)
 ·subst c;exact .inl Z
 ·rw[Qa];exact .inr (Vr.mp h.pw j i hj hi c)
def mN(H:Hp)(ps:List Addr)(es:List (Int × List Int)):Prop:=cQ (λa e=>jR H a e.1 e.2) ps es
theorem mN.mono{H H':Hp}{ps:List Addr}{es:List (Int × List Int)}(h:mN H ps es)(s:aj H H'):mN H' ps es:=h.imp λa e z=>z.mono s
def Ge(K:PySem.W.Frag):Sp:=λvs H Q _=>∃(q:Addr) (r:List Int),vs=[.ref q]/\H q=some (.lst (r.map V.int))/\(∀b∈r,0<=b/\b<=255)/\r.length<=1000/\∀H',aj H H'->Q (.bl true) H'
theorem NF (T:Txt w K mg t):bp P w K mg base "is_row" 3 t.yq t.vw ["thing"] (Ge K):=by
 refine⟨T.OY,T.EM.kp,T.Ru,T.EM.okQ Hx (λvs H Q E h=>by obtain⟨q,r,rfl,_⟩:=h;rfl) λ_ _ _ _ H vs Q E hr h=>?_⟩;obtain⟨q,r,rfl,hq,hb,hl,k⟩:=h;refine⟨_,(ag (ap (gc (bh (T3 K) T.n_isinstance UY (ab (aa 0) (ab (gP rfl T.n_list UK) ad))) (fS (bh (rE (K:=K) rfl rfl) T.n_all V3 (ab (fT rfl (cZ.of (fns:=(ak ju).names) (N:=["thing"]) (Nc:=["each"]) (nv:=1) (caps:=[]) rfl rfl (by decide +kernel)) (dI (K:=K) rfl (aa 0)) (λ_ _ _ _=>(aT (i:=0) (show List.Nodup (["each"]:List Str) by decide +kernel) rfl (Or.inl rfl) (Or.inr rfl))) (λ_ _ _ _=>fg) (λ_ _ _ _=>(aP (NH T) hr (ab (aa 0) ad)))) ad)))))),?_⟩;refine aV (.lst hq) (by with_unfolding_all rfl) ?_;refine i6 ?_;refine cy q rfl ⟨_,.of hq⟩ (jM ((r.map λ_=>true).map V.bl) (by simp) (.of hq) (ci (by rw[Uc];lia)) (λi x y H4 N hx hy s4 hN=>?_) λp3 H3 g3=>?_)
 ·obtain⟨o,ho,rfl⟩:=fk hx;rw[Ug,Ug,ho]at hy;cases hy;have:=hb o (Ur ho);exact⟨_,rfl,.int _,cE (hN _ (aj.refl _)) (by simp[dM];lia)⟩
 refine aY g3.lst ?_;exact cE (k H3 g3.sm) (by simp)
def GX(K:PySem.W.Frag):Sp:=λvs H Q _=>∃(p:Addr) (e:Int × List Int),vs=[.ref p]/\jR H p e.1 e.2/\Sg e.1/\(∀b∈e.2,0<=b/\b<=255)/\∀H',aj H H'->Q (.bl true) H'
theorem NG (T:Txt w K mg t):bp P w K mg base "is_entry" 4 t.yu t.vz ["thing"] (GX K):=by
 refine⟨T.O1,T.EQ.kp,T.Rx,T.EQ.okQ HD (λvs H Q E h=>by obtain⟨p,e,rfl,_⟩:=h;rfl) λ_ _ _ _ H vs Q E hr h=>?_⟩;obtain⟨p,⟨sg,r⟩,rfl,⟨⟨q,hp,hq⟩,l1,l6⟩,hs,hb,k⟩:=h;dsimp only at hp hq l1 l6 hs hb;have hu:=hr.units;refine⟨_,(af (av (bO (cU (dN (dw (bh (T3 K) T.n_isinstance UY (ab (aa 0) (ab (gP Z T.n_tuple VJ) ad))))) (db (au (ie (K:=K) Z hu) (bh (T4 K) T.n_len Ui (ab (aa 0) ad)) ae (ar _))))) (ag (ap gz)) aA)
  (ag (ap (gc (aP (jC T) hr (ab (ax (T5 K) (aa 0) ae (λ_ _=>rfl)) ad)) (gc (aP (NF T) hr (ab (ax (T5 K) (aa 0) ae (λ_ _=>rfl)) ad)) (fS (mj fw fw ae (bh (T4 K) T.n_len Ui (ab (ax (T5 K) (aa 0) ae (λ_ _=>rfl)) ad)) (cm T.Qy)))))))),?_⟩
 refine aV (.tup hp) (by with_unfolding_all rfl) ?_;refine ah (λz=>absurd z (by decide)) (λ_=>?_);refine aY (.inr (.of hp)) ?_;refine aV (.inr (.of hp)) (aB (j:=0) Z) ?_;refine dq Z (.int _) ?_;refine ah (λ_=>?_) (λz=>absurd ((hG sg).mpr hs) z);refine aV (.inr (.of hp)) (aB (j:=1) Z) ?_;refine⟨q,r,rfl,hq,hb,by lia,λH1 s1=>?_⟩;refine i6 ?_;refine aV (.inr (.of (s1 _ _ hp))) (aB (j:=1) Z) ?_;refine aY (.inl (.of (s1 _ _ hq))) ?_;refine ah (λz=>?_) (λz=>?_)
 ·exact cE (k H1 s1) (by rw[Uc];simp;lia)
 ·exact absurd (show decide ((1:Int)<=((r.map V.int).length:Int))=true by rw[Uc];simp;lia) z
def G1:Sp:=λvs H Q _=>∃(a:Addr) (ps:List Addr) (es:List (Int × List Int)),vs=[.ref a]/\H a=some (.lst (ps.map V.ref))/\mN H ps es/\Es es/\∀H',aj H H'->Q .non H'
theorem PZ(xs:List V)(k:Nat):dD xs none (some (k:Int))=xs.take k:=qM xs k
theorem o9{qs:List Addr}{i:Nat}{x:V}(h:(qs.map V.ref)[i]? = some x):∃q,qs[i]? = some q/\x=.ref q:=by
 rw[Ug]at h;obtain⟨q,hq,rfl⟩:=Va.mp h;exact⟨q,hq,Z⟩
theorem NK (T:Txt w K mg t):bp P w K mg base "check_table" 5 t.yA t.vD ["rows"] G1:=by
 refine⟨T.O8,T.EU.kp,T.RB,T.EU.okQ m4 (λvs H Q E h=>by obtain⟨a,ps,es,rfl,_⟩:=h;rfl) λ_ _ _ _ H vs Q E hr h=>?_⟩;obtain⟨a,ps,es,rfl,ha,en,ok,k⟩:=h;have hu:=hr.units;refine⟨_,(af (av (au fK (bh (T4 K) T.n_len Ui (ab (aa 0) ad)) (cm T.Qw) (ar _)) (ag gN) aA)
  (ag (dt PassesOwn.never rfl (m6 (K:=K) rfl rfl T.n_enumerate (ab (aa 0) ad)) (fi (K:=K) rfl rfl (bI (aT (i:=1) m4.nd rfl (.inl rfl)) (bI (aT (i:=2) m4.nd rfl (.inl rfl)) fh))) (af (av (dN (dw (aP (NG T) hr (ab (aa 2) ad)))) (ag gN) aA)
  (ag (dt PassesOwn.never rfl (m6 (K:=K) rfl rfl T.n_enumerate (ab (du (T6 K) (aa 0) eS (cA (aa 1))) ad)) (fi (K:=K) rfl rfl (bI (aT (i:=3) m4.nd rfl (.inl rfl)) (bI (aT (i:=4) m4.nd rfl (.inl rfl)) fh))) (ag (av (dw (aP (NJ T) hr (ab (aa 4) (ab (aa 2) ad)))) (ag gN) aA)))))))),?_⟩
 have lp:ps.length=es.length:=en.1;have l64:=ok.l;refine aY (.inl (.of ha)) ?_;refine ah (λz=>?_) (λ_=>?_)
 ·have z:((ps.map V.ref).length:Int) > 64:=of_decide_eq_true z;rw[Uc]at z
  lia
 refine aW a _ Z (.of ha) (nH (K:=K) (a:=a) (xs:=ps.map V.ref) (λi σ H'=>aj H H'/\∃v1 v2 v3 v4,σ=[some (.ref a),v1,v2,v3,v4]) ⟨aj.refl _,_,_,_,_,Z⟩ (λi σ H' _ z=>z.1.seq (.of ha)) ?_ ?_)
 ·rintro i x p σ H2 H3 hx ⟨s2,v1,v2,v3,v4,rfl⟩ g3;obtain⟨px,hpx,rfl⟩:=o9 hx;obtain⟨e,he,ee⟩:=en.right hpx;refine⟨p,_,Z,g3.tup,Z,_,_,Z,_,_,Z,Z,?_⟩;have s3:=s2.trans g3.sm;obtain⟨k1,k2,k3,k4⟩:=ok.sg e (Ur he);refine⟨px,e,Z,ee.mono s3,k1,k4,λH4 s4=>?_⟩;refine ah (λz=>absurd (show (!true)=true from z) (by decide)) (λ_=>?_);have s04:=s3.trans s4;refine⟨_,Z,_,s04.seq (.of ha),λp1 H5 g5=>?_⟩;rw[PZ]at g5;have s05:=s04.trans g5.sm;refine aW p1 _ Z g5.lst (nH (K:=K) (a:=p1) (xs:=(ps.map V.ref).take i) (λj σ H'=>aj H5 H'/\∃v3 v4,σ=[some (.ref a),some (.int (i:Int)),some (.ref px),v3,v4]) ⟨aj.refl _,_,_,Z⟩ (λi σ H' _ z=>z.1.seq g5.lst) ?_ ?_)
  ·rintro j u pj σ H6 H7 hju ⟨s6,v3,v4,rfl⟩ g7;have hji:j<i:=by have:=(Uk.mp hju).1;rw[Ul]at this;lia
   rw[Wf hji]at hju;obtain⟨pu,hpu,rfl⟩:=o9 hju;obtain⟨f,hf,ef⟩:=en.right hpu;refine⟨pj,_,Z,g7.tup,Z,_,_,Z,_,_,Z,Z,?_⟩;have s07:=s05.trans (s6.trans g7.sm);refine⟨pu,px,f,e,Z,ef.mono s07,ee.mono s07,λH8 s8=>?_⟩;have nc:gj f e=false:=by
    obtain⟨a1,e1⟩:=Uk.mp hf;obtain⟨a2,e2⟩:=Uk.mp he;rw[<- e1,<- e2];exact Vr.mp ok.pw j i a1 a2 hji
   refine ah (λz=>absurd (show gj f e=true from z) (by rw[nc];decide)) (λ_=>?_);exact⟨s6.trans (g7.sm.trans s8),_,_,Z⟩
  ·rintro σ H6 ⟨s6,v3,v4,rfl⟩;exact⟨s05.trans s6,_,_,_,_,Z⟩
 ·rintro σ H2 ⟨s2,_⟩;exact k H2 s2
structure Ft where
 dx:Addr
 d1:Addr
 d2:Addr
 d3:Addr
def dB(r:List Int):List aR:=r.map Sum.inl
theorem pZ(r:List Int):r.map V.int=(dB r).map kV:=by
 unfold dB;rw[Vd];rfl
theorem qa{r s:List Int}(h:dB r=dB s):r=s:=by
 unfold dB at h
 induction r generalizing s with
 | nil=>cases s with
  | nil=>rfl
  | cons _ _=>cases h
 | cons x r ih=>cases s with
  | nil=>cases h
  | cons y s=>simp at h;rw[h.1,ih (by simpa using h.2)]
def mJ(es:List (Int × List Int))(row:List Int):Prop:=∃e∈es,∃m,m<=e.2.length/\row=e.2.take m
def om(H:Hp)(k3:List (List aR × V))(es:List (Int × List Int))(rr:List Int):Prop:=∃(q:Addr) (r2:List Int),bv k3 (dB rr)=some (.ref q)/\H q=some (.tup (r2.map V.int))/\∃e'∈es,e'.2=rr++r2
structure Kv (H:Hp) (k1:List (aR × V)) (k2 k3:List (List aR × V)) (es:List (Int × List Int)):Prop where
 a:∀e∈es,∃q,bv k1 (.inl e.1)=some (.ref q)/\H q=some (.tup (e.2.map V.int))
 b:∀e∈es,bv k2 (dB e.2)=some (.int e.1)
 b':∀r:List Int,(∀e∈es,e.2≠r)->bv k2 (dB r)=none
 c:∀e∈es,∀m,m<=e.2.length->om H k3 es (e.2.take m)
 c':∀r:List Int,¬mJ es r->bv k3 (dB r)=none
structure Tt (t:Adr) (H:Hp) (a:Addr) (f:Ft) (es:List (Int × List Int)) (n:Nat):Prop where
 o:H a=some (.ins t.cn f.dx [("row_by_sign",.ref f.d1),("sign_by_row",.ref f.d2),("rest_by_row",.ref f.d3)])
 k:∃k1 k2 k3,H f.d1=some (.dK k1)/\H f.d2=some (.dT k2)/\H f.d3=some (.dT k3)/\k1.length<=n/\k2.length<=n/\k3.length<=n/\Kv H k1 k2 k3 es
 ne:f.d2≠f.d3
variable {H H':Hp}{a:Addr}{f:Ft}{es:List (Int × List Int)}{n:Nat}
theorem Kv.mono{k1:List (aR × V)}{k2 k3:List (List aR × V)}(h:Kv H k1 k2 k3 es)(s:∀q xs,H q=some (.tup xs)->H' q=some (.tup xs)):Kv H' k1 k2 k3 es:=by
 refine⟨λe he=>?_,h.b,h.b',λe he m hm=>?_,h.c'⟩
 ·obtain⟨q,x,y⟩:=h.a e he;exact⟨q,x,s _ _ y⟩
 ·obtain⟨q,r2,x,y,z⟩:=h.c e he m hm;exact⟨q,r2,x,s _ _ y,z⟩
theorem Tt.mono(h:Tt t H a f es n)(s:aj H H'):Tt t H' a f es n:=by
 obtain⟨o,⟨k1,k2,k3,a1,a2,a3,l1,l2,l3,kv⟩,ne⟩:=h;exact⟨s _ _ o,⟨k1,k2,k3,s _ _ a1,s _ _ a2,s _ _ a3,l1,l2,l3,kv.mono λq xs e=>s _ _ e⟩,ne⟩
theorem bE{c d:Addr}{u v:HO}(h:H c=some u)(k:H d=some v)(n:u≠v):c≠d:=λz=>by rw[z,k]at h;exact n (UO h).symm
def eZ(f:Ft)(H H':Hp):Prop:=∀c u,c≠f.d1->c≠f.d2->c≠f.d3->H c=some u->H' c=some u
theorem eZ.trans{H H1 H2:Hp}(h:eZ f H H1)(h':eZ f H1 H2):eZ f H H2:=λc u n1 n2 n3 e=>h' c u n1 n2 n3 (h c u n1 n2 n3 e)
theorem eZ.of{H H1:Hp}(h:aj H H1):eZ f H H1:=λc u _ _ _ e=>h c u e
theorem Tt.tup{q:Addr}{xs:List V}(h:Tt t H a f es n)(hq:H q=some (.tup xs))(k:eZ f H H'):H' q=some (.tup xs):=by
 obtain⟨o,⟨k1,k2,k3,a1,a2,a3,_⟩,ne⟩:=h;exact k _ _ (bE hq a1 (by intro z;cases z)) (bE hq a2 (by intro z;cases z)) (bE hq a3 (by intro z;cases z)) hq
def GW(t:Adr):Sp:=λvs H Q _=>∃(a:Addr) (f:Ft) (q:Addr) (n:Nat) (s:Int) (r:List Int) (es:List (Int × List Int)),vs=[.ref a,.int s,.ref q]/\Tt t H a f es n/\H q=some (.tup (r.map V.int))/\r.length<=6/\n<=1000/\(∀e∈es,e.1≠s/\e.2≠r) /\
 ∀H',Tt t H' a f (es++[(s,r)]) (n+9)->eZ f H H'->Q .non H'
theorem NS (T:Txt w K mg t):cF P w K mg base t.cn "enter" 1 t.yI t.vI ["self", "sign", "row"] (GW t):=by
 refine⟨T.fA,T.Ls,T.RN,T.SE.okQ AO (λvs H Q E h=>by obtain⟨a,f,q,n,s,r,es,rfl,_⟩:=h;rfl) λ_ _ _ _ H vs Q E hr h=>?_⟩;obtain⟨a,f,q,n,sg,r,es,rfl,tb,hq,lr,ln,new,k⟩:=h;have hu:=hr.units;obtain⟨o,⟨k1,k2,k3,a1,a2,a3,l1,l2,l3,kv⟩,ne⟩:=id tb;refine⟨_,(af (pA hu (aK (K:=K) Z (aa 0)) (aa 1) (aa 2))
  (af (pA hu (aK (K:=K) rfl (aa 0)) (aa 2) (aa 1))
  (ag (dt PassesOwn.never rfl (mi rfl T.n_range (ab (aw (T2 K) (bh (T4 K) T.n_len Ui (ab (aa 2) ad)) ae) ad)) (aT (i:=3) AO.nd rfl (.inl rfl)) (ag (pA hu (aK (K:=K) rfl (aa 0)) (du (CU (K:=K) rfl) (aa 2) eS (cA (aa 3))) (du (CU (K:=K) rfl) (aa 2) (cA (aa 3)) eS))))))),?_⟩
 have n12:f.d1≠f.d2:=bE a1 a2 (by intro z;cases z);have n13:f.d1≠f.d3:=bE a1 a3 (by intro z;cases z);have na1:a≠f.d1:=bE o a1 (by intro z;cases z);have na2:a≠f.d2:=bE o a2 (by intro z;cases z);have na3:a≠f.d3:=bE o a3 (by intro z;cases z);refine bK a _ f.dx _ _ Z o T.fA T.pJ Z ?_;refine aW f.d1 _ rfl (iu.k (k:=.inl sg) a1 (eQ (by lia))) ?_;obtain⟨H1,e1⟩:∃H1,H1=upd H f.d1 (.dK (cH k1 (.inl sg) (.ref q))):=⟨_,rfl⟩;rw[<- e1];have o1:eZ f H H1:=λc u m1 m2 m3 e=>by rw[e1,az m1];exact e
 have b1:H1 f.d1=some (.dK (cH k1 (.inl sg) (.ref q))):=by rw[e1,bc]
 have b2:H1 f.d2=some (.dT k2):=by rw[e1,az n12.symm];exact a2
 have b3:H1 f.d3=some (.dT k3):=by rw[e1,az n13.symm];exact a3
 clear e1;refine bK a _ f.dx _ _ Z (o1 _ _ na1 na2 na3 o) T.fA T.tI Z ?_;have hq1:=tb.tup hq o1;refine aW f.d2 _ rfl (iu.t (k:=dB r) b2 (by rw[<- pZ];exact hq1) (eQ (by lia))) ?_;obtain⟨H2,e2⟩:∃H2,H2=upd H1 f.d2 (.dT (cH k2 (dB r) (.int sg))):=⟨_,rfl⟩;rw[<- e2];have o2:eZ f H1 H2:=λc u m1 m2 m3 e=>by rw[e2,az m2];exact e
 have c1:H2 f.d1=some (.dK (cH k1 (.inl sg) (.ref q))):=by rw[e2,az n12];exact b1
 have c2:H2 f.d2=some (.dT (cH k2 (dB r) (.int sg))):=by rw[e2,bc]
 have c3:H2 f.d3=some (.dT k3):=by rw[e2,az ne.symm];exact b3
 clear e2;have o02:=o1.trans o2;have hq2:=tb.tup hq o02;refine aY (.inr (.of hq2)) ?_;refine gK rfl (by rw[Uc];lia) (by rw[Uc];lia) ?_;rw[Uc];refine qr (lo:=0) (n:=((r.length:Int)+1).toNat) (λi σ H'=>eZ f H H'/\H' f.d1=some (.dK (cH k1 (.inl sg) (.ref q)))/\H' f.d2=some (.dT (cH k2 (dB r) (.int sg)))/\(∃k3',H' f.d3=some (.dT k3')/\k3'.length<=n+i/\(∀m,m<i->om H' k3' (es++[(sg,r)]) (r.take m))/\(∀e∈es,∀m,m<=e.2.length->om H' k3' (es++[(sg,r)]) (e.2.take m))/\(∀rr,¬mJ (es++[(sg,r)]) rr->bv k3' (dB rr)=none))/\∃v3,σ=[some (.ref a),some (.int sg),some (.ref q),v3]) ⟨o02,c1,c2,⟨k3,c3,by lia,(λm h=>absurd h (by lia)),(λe he m hm=>?_),λrr hrr=>kv.c' rr λ⟨e,he,z⟩=>hrr ⟨e,UQ _ he,z⟩⟩,_,rfl⟩ ?_ ?_
 ·obtain⟨q',r2,x,y,e',he',z⟩:=kv.c e he m hm;exact⟨q',r2,x,tb.tup y o02,e',UQ _ he',z⟩
 ·rintro i σ H3 hi ⟨o3,d1,d2,⟨k3',d3,l3',new3,old3,no3⟩,v3,rfl⟩;have hq3:=tb.tup hq o3;refine⟨_,Z,_,.of hq3,hq3,λp4 H4 s4 h4=>?_⟩;refine bK a _ f.dx _ _ Z (s4 _ _ (o3 _ _ na1 na2 na3 o)) T.fA T.tJ Z ?_;refine⟨_,Z,_,.of (s4 _ _ hq3),s4 _ _ hq3,λp5 H5 s5 h5=>?_⟩;rw[Int.zero_add,nX,pZ]at h5;have s35:=s4.trans s5;refine aW f.d3 _ rfl (iu.t (k:=dB (r.take i)) (s35 _ _ d3) h5 (eQ (by lia))) ?_;obtain⟨H6,e6⟩:∃H6,H6=upd H5 f.d3 (.dT (cH k3' (dB (r.take i)) (.ref p4))):=⟨_,rfl⟩;rw[<- e6];have t6:∀c u,c≠f.d3->H3 c=some u->H6 c=some u:=λc u m e=>by rw[e6,az m];exact s35 _ _ e
  have n43:p4≠f.d3:=bE (s5 _ _ h4) (s35 _ _ d3) (by intro z;cases z);have h46:H6 p4=some (.tup (dD (r.map V.int) (some (0+(i:Int))) none)):=by rw[e6,az n43];exact s5 _ _ h4
  have b6:H6 f.d3=some (.dT (cH k3' (dB (r.take i)) (.ref p4))):=by rw[e6,bc]
  clear e6;have h46':H6 p4=some (.tup ((r.drop i).map V.int)):=by
   rw[h46,Int.zero_add,fz];exact congrArg _ (congrArg _ (congrArg _ (jL r i)))
  have keep:∀rr,om H3 k3' (es++[(sg,r)]) rr->om H6 (cH k3' (dB (r.take i)) (.ref p4)) (es++[(sg,r)]) rr:=by
   rintro rr ⟨q',r2,x,y,z⟩;by_cases c:dB rr=dB (r.take i)
   ·have c':=qa c;exact⟨p4,r.drop i,by rw[gX,if_pos c],h46',(sg,r),by simp,by rw[c',VL]⟩
   ·exact⟨q',r2,by rw[gX,if_neg c];exact x,t6 _ _ (bE y d3 (by intro z;cases z)) y,z⟩
  refine⟨λc u m1 m2 m3 e=>t6 _ _ m3 (o3 c u m1 m2 m3 e),t6 _ _ n13 d1,t6 _ _ ne d2,⟨_,b6,?_,λm hm=>?_,(λe he m hm=>keep _ (old3 e he m hm)),λrr hrr=>?_⟩,_,Z⟩
  ·have:=nB k3' (dB (r.take i)) (.ref p4);lia
  ·by_cases c:m<i
   ·exact keep _ (new3 m c)
   ·obtain rfl:m=i:=by lia
    exact⟨p4,r.drop m,by rw[gX,if_pos rfl],h46',(sg,r),by simp,by rw[VL]⟩
  ·rw[gX,if_neg (λz=>hrr ⟨(sg,r),by simp,i,by dsimp only;lia,qa z⟩)];exact no3 rr hrr
 ·rintro σ H3 ⟨o3,d1,d2,⟨k3',d3,l3',new3,old3,no3⟩,_⟩;refine k _ ⟨o3 _ _ na1 na2 na3 o,⟨_,_,k3',d1,d2,d3,?_,?_,by lia,?_⟩,ne⟩ o3
  ·have:=nB k1 (.inl sg) (.ref q);lia
  ·have:=nB k2 (dB r) (.int sg);lia
  ·refine⟨λe he=>?_,λe he=>?_,λr' hr'=>?_,(λe he m hm=>?_),no3⟩
   ·rcases Us.mp he with he|he
    ·rw[gX,if_neg (λz=>(new e he).1 (Sum.inl.inj z))];obtain⟨q',x,y⟩:=kv.a e he;exact⟨q',x,tb.tup y o3⟩
    ·rw[Uq.mp he,gX,if_pos rfl];exact⟨q,Z,tb.tup hq o3⟩
   ·rcases Us.mp he with he|he
    ·rw[gX,if_neg (λz=>(new e he).2 (qa z))];exact kv.b e he
    ·rw[Uq.mp he,gX,if_pos rfl]
   ·rw[gX,if_neg (λz=>hr' (sg,r) (by simp) (qa z).symm)];exact kv.b' r' λe he=>hr' e (by simp[he])
   ·rcases Us.mp he with he|he
    ·exact old3 e he m hm
    ·rw[Uq.mp he]at hm ⊢;exact new3 m (by dsimp only at hm;lia)
def Aq(t:Adr):Sp:=λvs H Q _=>∃(a dx p:Addr) (ps:List Addr) (es:List (Int × List Int)),vs=[.ref a,.ref p]/\H a=some (.ins t.cn dx [])/\H p=some (.lst (ps.map V.ref))/\mN H ps es/\Es es /\
 ∀f H',Kp a H H'->Tt t H' a f es 1000->Q .non H'
theorem Tt.up{H:Hp}{a:Addr}{f:Ft}{es:List (Int × List Int)}{n m:Nat}(h:Tt t H a f es n)(hm:n<=m):Tt t H a f es m:=by
 obtain⟨o,⟨k1,k2,k3,a1,a2,a3,l1,l2,l3,kv⟩,ne⟩:=h;exact⟨o,⟨k1,k2,k3,a1,a2,a3,by lia,by lia,by lia,kv⟩,ne⟩
theorem KU (T:Txt w K mg t):bA P w K mg base bR 6 t.rM t.qA ["self", "rows"] (Aq t):=by
 refine T.SC.okQ AM (λvs H Q E h=>by obtain⟨a,dx,p,ps,es,rfl,_⟩:=h;rfl) λ_ _ _ _ H vs Q E hr h=>?_;obtain⟨a,dx,p,ps,es,rfl,ha,hp,en,ok,kq⟩:=h;have hu:=hr.units;refine⟨_,(af (df (aP (NK T) hr (ab (aa 1) ad)))
  (af (de (K:=K) rfl (aa 0) Bg)
  (af (de (K:=K) rfl (aa 0) Bf)
  (af (de (K:=K) rfl (aa 0) Bf)
  (ag (dt PassesOwn.never rfl (dI (K:=K) rfl (aa 1)) (aT (i:=2) AM.nd rfl (.inl rfl)) (ag (df (dO (NS T) hr (aa 0) (ab (ax (T5 K) (aa 2) ae (λ_ _=>rfl)) (ab (cv (xA (K:=K) rfl) T.n_tuple VJ (ab (ax (T5 K) (aa 2) ae (λ_ _=>rfl)) ad)) ad))))))))))),?_⟩
 refine⟨p,ps,es,Z,hp,en,ok,λH1 s1=>?_⟩;refine λd1 H2 g2=>?_;refine cR a _ dx _ rfl (g2.sm _ _ (s1 _ _ ha)) T.fA T.pJ (Uh WE (by decide)) ?_;obtain⟨H3,e3⟩:∃H3,H3=upd H2 a (HO.ins t.cn dx (cI "row_by_sign" (.ref d1) [])):=⟨_,rfl⟩;have a3:H3 a=some (.ins t.cn dx [("row_by_sign",.ref d1)]):=by rw[e3,bc];rfl
 have k3:Kp a H2 H3:=by rw[e3];exact Kp.upd
 rw[<- e3];clear e3;refine λd2 H4 g4=>?_;refine cR a _ dx _ rfl (g4.sm _ _ a3) T.fA T.tI (Uh (Uz 1) (by decide)) ?_;obtain⟨H5,e5⟩:∃H5,H5=upd H4 a (HO.ins t.cn dx (cI "sign_by_row" (.ref d2) [("row_by_sign",.ref d1)])):=⟨_,rfl⟩;have a5:H5 a=some (.ins t.cn dx [("row_by_sign",.ref d1),("sign_by_row",.ref d2)]):=by rw[e5,bc];rfl
 have k5:Kp a H4 H5:=by rw[e5];exact Kp.upd
 rw[<- e5];clear e5;refine λd3 H6 g6=>?_;refine cR a _ dx _ rfl (g6.sm _ _ a5) T.fA T.tJ (Uh (Uz 2) (by decide)) ?_;obtain⟨H7,e7⟩:∃H7,H7=upd H6 a (HO.ins t.cn dx (cI "rest_by_row" (.ref d3) [("row_by_sign",.ref d1),("sign_by_row",.ref d2)])):=⟨_,rfl⟩;have a7:H7 a=some (.ins t.cn dx [("row_by_sign",.ref d1),("sign_by_row",.ref d2),("rest_by_row",.ref d3)]):=by rw[e7,bc];rfl
 have k7:Kp a H6 H7:=by rw[e7];exact Kp.upd
 rw[<- e7];clear e7;have n1:d1≠a:=(aN (s1 _ _ ha) g2.nw).symm;have n2:d2≠a:=(aN a3 g4.nw).symm;have n3:d3≠a:=(aN a5 g6.nw).symm;have k35:Kp a H3 H5:=(Kp.of g4.sm).trans k5;have k57:Kp a H5 H7:=(Kp.of g6.sm).trans k7;have k37:Kp a H3 H7:=k35.trans k57;have k17:Kp a H1 H7:=(Kp.of g2.sm).trans (k3.trans k37);have k07:Kp a H H7:=(Kp.of s1).trans k17;have b2:H5 d2=some (.dT []):=k5 _ _ n2 g4.at_;have n23:d2≠d3:=aN b2 g6.nw;have tb:Tt t H7 a ⟨dx,d1,d2,d3⟩ [] 0:=⟨a7,⟨[],[],[],k37 _ _ n1 (k3 _ _ n1 g2.at_),k57 _ _ n2 b2,k7 _ _ n3 g6.at_,Ue _,Ue _,Ue _,⟨(λe h=>nomatch h),(λe h=>nomatch h),(λr _=>rfl),(λe h=>nomatch h),(λr _=>rfl)⟩⟩,n23⟩;have f1:H d1=none:=s1.free g2.nw;have f2:∀c u,H c=some u->c≠a->c≠d2:=λc u e n=>aN (k3 _ _ n (g2.sm _ _ (s1 _ _ e))) g4.nw;have f3:∀c u,H c=some u->c≠a->c≠d3:=λc u e n=>aN (k35 _ _ n (k3 _ _ n (g2.sm _ _ (s1 _ _ e)))) g6.nw;have lx:=en.1;have l64:=ok.l;have kpo:∀H',eZ ⟨dx,d1,d2,d3⟩ H7 H'->Kp a H H':=λH' o c u n e=>o c u (aN e f1) (f2 c u e n) (f3 c u e n) (k07 c u n e);have px:∀H',eZ ⟨dx,d1,d2,d3⟩ H7 H'->H' p=some (.lst (ps.map V.ref)):=λH' o=>kpo H' o _ _ (bE hp ha (by intro z;cases z)) hp;refine cy p rfl ⟨_,.of (px H7 (eZ.of (aj.refl _)))⟩ (ii (K:=K) (a:=p) (xs:=ps.map V.ref) (λi σ H'=>Tt t H' a ⟨dx,d1,d2,d3⟩ (es.take i) (i*9)/\eZ ⟨dx,d1,d2,d3⟩ H7 H'/\∃v2,σ=[some (.ref a),some (.ref p),v2]) ⟨tb.up (by lia),eZ.of (aj.refl _),_,rfl⟩ (λi σ H' _ z=>.of (px H' z.2.1)) ?_ ?_)
 ·rintro i x σ H8 hx ⟨tb8,o8,v2,rfl⟩;obtain⟨pe,hpe,rfl⟩:=o9 hx;obtain⟨e,he,⟨q,hq1,hq2⟩,l1,l6⟩:=en.right hpe;have he8:=kpo _ o8 _ _ (bE hq1 ha (by intro z;cases z)) hq1;have hq8:=kpo _ o8 _ _ (bE hq2 ha (by intro z;cases z)) hq2;have hi:i<ps.length:=(Uk.mp hpe).1;refine cG a dx _ Z tb8.o Z ?_;refine aV (.inr (.of he8)) (aB (j:=0) Z) ?_;refine aV (.inr (.of he8)) (aB (j:=1) Z) ?_;refine aY (.of hq8) (λpt H9 g9=>?_);refine⟨a,⟨dx,d1,d2,d3⟩,pt,i*9,e.1,e.2,es.take i,rfl,tb8.mono g9.sm,g9.at_,l6,by lia,λe' he'=>?_,λHA tA oA=>?_⟩
  ·obtain⟨j,hj,rfl⟩:=V2.mp he';obtain⟨a2,e2⟩:=Uk.mp he;rw[Ul]at hj;have nc:=Vr.mp ok.pw j i (by lia) a2 (by lia);rw[e2]at nc;rw[List.getElem_take];unfold gj dj at nc;refine⟨λz=>?_,λz=>?_⟩
   ·rw[decide_eq_true z]at nc;cases nc
   ·rw[z]at nc;simp at nc
  ·have et:es.take (i+1)=es.take i++[(e.1,e.2)]:=f9 he;rw[et];exact⟨tA.up (by lia),o8.trans ((eZ.of g9.sm).trans oA),_,rfl⟩
 ·rintro σ H8 ⟨t8,o8,_⟩;rw[Uc,lx,UJ]at t8;exact kq _ _ (kpo _ o8) (t8.up (by lia))
theorem MV (T:Txt w K mg t):mM P w K mg base "TableTongue" t.cn 6 t.rM t.qA ["self", "rows"] [] (Aq t):=⟨T.Ob,T.LM,⟨[],T.RL,.nil⟩,KU T⟩
def Af(t:Adr):Sp:=λvs H Q _=>∃(a:Addr) (f:Ft) (es:List (Int × List Int)) (q:Addr) (row:List Int) (g:Int),vs=[.ref a,.ref q,.int g]/\Tt t H a f es 1000/\Es es/\H q=some (.lst (row.map V.int)) /\
 ((∀e∈es,e.2≠row)->∀H',aj H H'->Q .non H')/\(∀e∈es,e.2=row->∀p H',aj H H'->H' p=some (.tup [.int e.1,.int g])->Q (.ref p) H')
theorem KL (T:Txt w K mg t):bA P w K mg base bR 2 t.rK t.nJ ["self", "row", "page"] (Af t):=by
 refine T.SA.okQ AL (λvs H Q E h=>by obtain⟨o,f,es,q,row,g,rfl,_⟩:=h;rfl) λ_ _ _ _ H vs Q E hr h=>?_;obtain⟨a,f,es,q,row,g,rfl,tt,ok,hq,kn,ks⟩:=h;have hu:=hr.units;refine⟨_,(af (aG (i:=3) AL.nd Z (.inl Z) (Bh hu (aK (K:=K) Z (aa 0)) (cv (xA (K:=K) Z) T.n_tuple VJ (ab (aa 1) ad))))
  (ag (ap (hW (au ig (aa 3) bL (ar _)) bL (bN (ab (aa 3) (ab (aa 2) ad))))))),?_⟩
 obtain⟨o,⟨k1,k2,k3,a1,a2,a3,_,_,_,kv⟩,ne⟩:=id tt;refine bK a _ f.dx _ _ Z o T.fA T.tI Z ?_;refine cy f.d2 Z (.inr ⟨_,.inl a2⟩) ?_;refine aY (.of hq) (λp1 H1 g1=>?_);have h1:=g1.at_;rw[pZ]at h1;refine aY (da.t (g1.sm _ _ a2) h1) ?_;by_cases c:∀e∈es,e.2≠row
 ·rw[kv.b' row c];exact kn c H1 g1.sm
 ·obtain⟨e,he⟩:=Classical.not_forall.mp c;obtain⟨hm,hrow⟩:=Classical.not_imp.mp he;have hrow:e.2=row:=Classical.not_not.mp hrow;have vb:=kv.b e hm;rw[hrow]at vb;rw[vb];exact⟨sz Z,λp2 H2 g2=>ks e hm hrow p2 H2 (g1.sm.trans g2.sm) g2.at_⟩
theorem NP (T:Txt w K mg t):dL P w K mg base t.cn "whole" 2 t.rK t.nJ ["self", "row", "page"] [] (Af t) :=
 ⟨T.fA,T.Lp,⟨_,T.RJ,.nil⟩,KL T⟩
def Av(t:Adr):Sp:=λvs H Q _=>∃(a:Addr) (f:Ft) (es:List (Int × List Int)) (q:Addr) (row:List Int) (g:Int),vs=[.ref a,.ref q,.int g]/\Tt t H a f es 1000/\H q=some (.lst (row.map V.int)) /\
 (mJ es row->∀p H',aj H H'->Q (.ref p) H')/\(¬mJ es row->∀H',aj H H'->Q .non H')
theorem K0 (T:Txt w K mg t):bA P w K mg base bR 3 t.rN t.nL ["self", "row", "page"] (Av t):=by
 refine T.SD.okQ AN (λvs H Q E h=>by obtain⟨o,f,es,q,row,g,rfl,_⟩:=h;rfl) λ_ _ _ _ H vs Q E hr h=>?_;obtain⟨a,f,es,q,row,g,rfl,tt,hq,k,kn⟩:=h;have hu:=hr.units;refine⟨_,(af (aG (i:=3) AN.nd Z (.inl Z) (Bh hu (aK (K:=K) Z (aa 0)) (cv (xA (K:=K) Z) T.n_tuple VJ (ab (aa 1) ad))))
  (ag (ap (hW (au ig (aa 3) bL (ar _)) bL (cv (T7 K) T.n_list UK (ab (aa 3) ad)))))),?_⟩
 obtain⟨o,⟨k1,k2,k3,a1,a2,a3,_,_,_,kv⟩,ne⟩:=id tt;refine bK a _ f.dx _ _ Z o T.fA T.tJ Z ?_;refine cy f.d3 Z (.inr ⟨_,.inl a3⟩) ?_;refine aY (.of hq) (λp1 H1 g1=>?_);have h1:=g1.at_;rw[pZ]at h1;refine aY (da.t (g1.sm _ _ a3) h1) ?_;by_cases c:mJ es row
 ·obtain⟨e,he,m,hm,rfl⟩:=id c;obtain⟨q',r2,vc,hq',ee⟩:=kv.c e he m hm;rw[vc];exact⟨_,.inr (.of (g1.sm _ _ hq')),λp2 H2 g2=>k c p2 H2 (g1.sm.trans g2.sm)⟩
 ·rw[kv.c' row c];exact kn c H1 g1.sm
theorem NR (T:Txt w K mg t):dL P w K mg base t.cn "fill" 3 t.rN t.nL ["self", "row", "page"] [] (Av t) :=
 ⟨T.fA,T.Lr,⟨_,T.RM,.nil⟩,K0 T⟩
inductive Kt where
 | ld
 | pr (h:Bool)
 | sh (f:Fp) (ns ms:List Int)
 | tb (f:Ft) (es:List (Int × List Int))
 | br
def TN(t:Adr)(H:Hp)(o:Addr):Kt->Prop
 | .ld=>∃dx,H o=some (.ins t.eY dx [])
 | .pr h=>Po t H o h
 | .sh f ns ms=>Tg t H o f ns ms
 | .tb f es=>Tt t H o f es 1000/\Es es
 | .br=>∃dx,H o=some (.ins t.fB dx [])
theorem TN.mono{H H':Hp}{o:Addr}{D:Kt}(h:TN t H o D)(s:aj H H'):TN t H' o D:=by
 cases D with
 | ld=>obtain⟨dx,h⟩:=h;exact⟨dx,s _ _ h⟩
 | pr b=>exact Po.mono h s
 | sh f ns ms=>exact Tg.mono h s
 | tb f es=>exact⟨Tt.mono h.1 s,h.2⟩
 | br=>obtain⟨dx,h⟩:=h;exact⟨dx,s _ _ h⟩
def sT:Kt->Int->Int->Option (List Int × Int)
 | .ld,g,n=>some (row n,g)
 | .pr h,g,n=>some (fI h n,g)
 | .sh _ ns ms,g,n=>dX (ao g ns ms) (ao g ms ns) g (.int n)
 | .tb _ es,g,n=>(es.find? λe=>decide (e.1=n)).map λe=>(e.2,g)
 | .br,_,_=>none
def bS(D:Kt)(g n:Int):List Int × Int:=(sT D g n).getD ([],g)
def fP:Kt->Int->Prop
 | .ld,n=>Sg n
 | .pr _,n=>Sg n
 | .sh _ ns ms,n=>n∈ns\/n∈ms
 | .tb _ es,n=>∃e∈es,e.1=n
 | .br,_=>False
def bG:Kt->Int->Prop
 | .sh _ _ _,g=>cP g
 | _,g=>g=0
theorem Gd{ns ms:List Int}{g n:Int}(two:cP g)(h:n∈ns\/n∈ms):∃r g',dX (ao g ns ms) (ao g ms ns) g (.int n)=some (r,g')/\cP g'/\r.length<=2:=by
 have hh:n∈ao g ns ms\/n∈ao g ms ns:=by
  rcases two with rfl|rfl
  ·exact h
  ·exact h.symm
 unfold dX;dsimp only;cases e:cM (ao g ns ms) n with
 | some i=>exact⟨_,_,rfl,two,by show (1:Nat)<=2;decide⟩
 | none =>
  dsimp only;have hn:=gD.mp e;rcases hh with hh|hh
  ·exact absurd hh hn
  ·obtain⟨i,hi,_⟩:=jB hh;rw[hi];exact⟨_,_,rfl,two.flip,by show (2:Nat)<=2;decide⟩
theorem mD{es:List (Int × List Int)}{n:Int}(h:∃e∈es,e.1=n):∃e∈es,e.1=n/\(es.find? λe=>decide (e.1=n))=some e:=by
 cases e:es.find? λe=>decide (e.1=n) with
 | none =>
  obtain⟨f,hf,rfl⟩:=h;have:=U9.mp e f hf;simp at this
 | some f =>
  exact⟨f,V4 e,by simpa using VE e,rfl⟩
def sj:Kt->Prop
 | .tb _ es=>Es es
 | _=>True
theorem TN.ok{H:Hp}{o:Addr}{D:Kt}(h:TN t H o D):sj D:=by
 cases D with
 | tb f es=>exact h.2
 | _=>exact trivial
theorem sS{D:Kt}{g n:Int}(tn:sj D)(hg:bG D g)(hn:fP D n):∃r g',sT D g n=some (r,g')/\bS D g n=(r,g')/\bG D g'/\r.length<=6:=by
 have key:∃r g',sT D g n=some (r,g')/\bG D g'/\r.length<=6:=by
  cases D with
  | ld=>exact⟨_,_,rfl,hg,UE (AY n).2 (by decide)⟩
  | pr b=>exact⟨_,_,rfl,hg,UE (JJ b n) (by decide)⟩
  | sh f ns ms =>
   obtain⟨r,g',e,two,l⟩:=Gd hg hn;exact⟨r,g',e,two,by lia⟩
  | tb f es =>
   obtain⟨e,he,_,ef⟩:=mD hn;exact⟨e.2,g,by show Option.map _ _=_;rw[ef];rfl,hg,(Es.sg tn e he).2.2.1⟩
  | br=>exact hn.elim
 obtain⟨r,g',e,a,b⟩:=key;exact⟨r,g',e,by unfold bS;rw[e];rfl,a,b⟩
theorem Fm{rr:List Int}(h:gl rr)(b:∀x∈rr,0<=x):Sg (gH rr)/\row (gH rr)=rr:=by
 cases rr with
 | nil=>exact h.elim
 | cons f r =>
  have f0:=b f (Uv ..);obtain⟨⟨_,ft⟩,hl⟩:=h;obtain⟨f1,f2⟩:=(Dc f r).mp ft
  match r,hl,f1,f2 with
  | [],hl,_,_ =>
   have hf:f<128:=by
    have hl:((0:Nat):Int)+1=lb f:=hl;unfold lb at hl;by_cases c:f<128
    ·exact c
    ·rw[if_neg c]at hl;(repeat' split at hl)<;>omega
   show Sg f/\row f=[f];refine⟨by unfold Sg;omega,?_⟩;unfold row;rw[if_pos hf]
  | [x],hl,f1,f2 =>
   have hl:((1:Nat):Int)+1=lb f:=hl;have hx:=f1 x (by simp);have e:gH [f,x]=(f-192)*64+(x-128):=by simp[gH,i5,cu]
   have hf:194<=f/\f<224:=by
    unfold lb at hl
    (repeat' split at hl)<;>omega
   rw[e];refine⟨by unfold Sg;omega,?_⟩;unfold row;rw[if_neg (by omega),if_pos (by omega)]
   congr 1
   ·omega
   ·congr 1;omega
  | [x,y],hl,f1,f2 =>
   have hl:((2:Nat):Int)+1=lb f:=hl;have hx:=f1 x (by simp);have hy:=f1 y (by simp);have h2:=f2 x rfl;have e:gH [f,x,y]=(f-224)*4096+(x-128)*64+(y-128):=by simp[gH,i5,cu];omega
   have hf:224<=f/\f<240:=by
    unfold lb at hl
    (repeat' split at hl)<;>omega
   have z:(f=224->160<=x)/\(f=237->x<=159)/\(f=238->x<=187):=by
    unfold gA gE at h2;refine⟨λc=>?_,λc=>?_,λc=>?_⟩<;>subst c<;>simp at h2<;>omega
   rw[e];refine⟨by unfold Sg;omega,?_⟩;unfold row;rw[if_neg (by omega),if_neg (by omega),if_pos (by omega)]
   congr 1
   ·omega
   ·congr 1
    ·omega
    ·congr 1;omega
  | [x,y,v],hl,f1,f2 =>
   have hl:((3:Nat):Int)+1=lb f:=hl;have hx:=f1 x (by simp);have hy:=f1 y (by simp);have hv:=f1 v (by simp);have h2:=f2 x rfl;have e:gH [f,x,y,v]=(f-240)*262144+(x-128)*4096+(y-128)*64+(v-128):=by simp[gH,i5,cu];omega
   have hf:240<=f/\f<=244:=by
    unfold lb at hl
    (repeat' split at hl)<;>omega
   have z:(f=240->144<=x)/\(f=244->x<=143):=by
    unfold gA gE at h2;refine⟨λc=>?_,λc=>?_⟩<;>subst c<;>simp at h2<;>omega
   rw[e];refine⟨by unfold Sg;omega,?_⟩;unfold row;rw[if_neg (by omega),if_neg (by omega),if_neg (by omega)]
   congr 1
   ·omega
   ·congr 1
    ·omega
    ·congr 1
     ·omega
     ·congr 1;omega
  | _::_::_::_::r,hl,_,_ =>
   exfalso
   have:=(pW f).2;simp at hl;omega
theorem Fo(h:Bool){r:List Int}{n:Int}(hb:bj r)(e:ff h r=some n):Sg n/\fI h n=r:=by
 unfold ff at e;by_cases c:r.length=2\/r.length=4
 ·rw[if_pos c]at e;rcases c with c|c
  ·match r,c with
   | [x,y],_ =>
    have hx:=hb x (by simp);have hy:=hb y (by simp);have e:hE [u2 h x y]=some n:=e;have e:(if dh (.int (u2 h x y))=true then some (u2 h x y) else none)=some n:=e;by_cases d:dh (.int (u2 h x y))=true
    ·rw[if_pos d]at e;cases e;refine⟨(hG _).mp d,?_⟩;unfold fI cz u2;cases h
     ·simp[ub];rw[if_pos (by omega)];simp[ub];omega
     ·simp[ub];rw[if_pos (by omega)];simp[ub];omega
    ·rw[if_neg d]at e;cases e
  ·match r,c with
   | [x,y,z,v],_ =>
    have hx:=hb x (by simp);have hy:=hb y (by simp);have hz:=hb z (by simp);have hv:=hb v (by simp);have e:hE [u2 h x y,u2 h z v]=some n:=e;unfold hE at e;simp only at e
    split at e
    ·cases e;rename_i d;cases h
     ·simp[u2]at d ⊢;refine⟨by unfold Sg;omega,?_⟩;unfold fI cz;rw[if_neg (by omega)];simp[ub];omega
     ·simp[u2]at d ⊢;refine⟨by unfold Sg;omega,?_⟩;unfold fI cz;rw[if_neg (by omega)];simp[ub];omega
    ·cases e
 ·rw[if_neg c]at e;cases e
theorem Ae{ns ms:List Int}{g n:Int}(two:cP g)(h:n∈ns\/n∈ms):∃r g',dX (ao g ns ms) (ao g ms ns) g (.int n)=some (r,g')/\cP g'/\((∃b:Int,r=[b]/\0<=b/\(ao g ns ms)[b.toNat]? = some n/\g'=g)\/(∃c:Int,r=[254+(1-g),c]/\0<=c/\(ao g ms ns)[c.toNat]? = some n/\n∉ao g ns ms/\g'=1-g)):=by
 have hh:n∈ao g ns ms\/n∈ao g ms ns:=by
  rcases two with rfl|rfl
  ·exact h
  ·exact h.symm
 unfold dX;dsimp only;cases e:cM (ao g ns ms) n with
 | some i=>exact⟨_,_,rfl,two,.inl ⟨(i:Int),rfl,by lia,by simpa using (i7 e).1,rfl⟩⟩
 | none =>
  dsimp only;have hn:=gD.mp e;rcases hh with hh|hh
  ·exact absurd hh hn
  ·obtain⟨i,hi,_⟩:=jB hh;rw[hi];exact⟨_,_,rfl,two.flip,.inr ⟨(i:Int),rfl,by lia,by simpa using (i7 hi).1,hn,rfl⟩⟩
theorem Ad{f:Fp}{ns ms:List Int}{g n:Int}{r:List Int}{g':Int}(e:dX (ao g ns ms) (ao g ms ns) g (.int n)=some (r,g')):bS (.sh f ns ms) g n=(r,g'):=by
 show (dX (ao g ns ms) (ao g ms ns) g (.int n)).getD ([],g)=_;rw[e];rfl
theorem pH:PyData.strOk "sign" = true:=by decide +kernel
theorem iZ:PyData.strOk "more" = true:=by decide +kernel
theorem iY:PyData.strOk "none" = true:=by decide +kernel
theorem aE{x:Str}(h:PyData.strOk x=true):SeqAt.shaped (.str x)=true:=by
 simpa [SeqAt.shaped,PyData.canLay0,PyData.depth] using h
def Ao:Sp:=λ_ _ _ _=>False
def An:Sp:=λvs H Q _=>∃a b c:V,vs=[a,b,c]/\Q .non H
theorem NM (T:Txt w K mg t):dL P w K mg base t.fB "whole" 1 t.yF t.qx ["self", "row", "page"] [] An :=
 ⟨T.nY,T.Lj,⟨_,T.RG,.nil⟩,T.Sv.okQ HK (λvs H Q E h=>by obtain⟨a,b,c,rfl,_⟩:=h;rfl) λcdv A outer s H vs Q E hr h=>by
  obtain⟨a,b,c,rfl,k⟩:=h;exact⟨_,(ag (ap bL)),k⟩⟩
theorem NO (T:Txt w K mg t):dL P w K mg base t.fB "fill" 1 t.yH t.qz ["self", "row", "page"] [] An :=
 ⟨T.nY,T.Lo,⟨_,T.RI,.nil⟩,T.Sz.okQ HN (λvs H Q E h=>by obtain⟨a,b,c,rfl,_⟩:=h;rfl) λcdv A outer s H vs Q E hr h=>by
  obtain⟨a,b,c,rfl,k⟩:=h;exact⟨_,(ag (ap bL)),k⟩⟩
inductive Lk where
 | sg (n g:Int)
 | mo
 | no
def nA(g:Int):Lk->List V
 | .sg n g'=>[.str "sign",.int n,.int g']
 | .mo=>[.str "more",.non,.int g]
 | .no=>[.str "none",.non,.int g]
open Classical in
noncomputable def be:Kt->Int->List Int->Lk
 | .ld,g,r=>if gl r then .sg (gH r) g else if mO r then .mo else .no
 | .pr h,g,r=>match ff h r with
  | some n=>.sg n g
  | none=>if iL h r=none then .no else .mo
 | .sh _ ns ms,g,r=>match eI (ao g ns ms) (ao g ms ns) g r with
  | some (n,g')=>.sg n g'
  | none=>if gF (ao g ns ms) (ao g ms ns) g r=true then .mo else .no
 | .tb _ es,g,r=>match es.find? λe=>decide (e.2=r) with
  | some e=>.sg e.1 g
  | none=>if mJ es r then .mo else .no
 | .br,_,_=>.no
def Dm:Kt->Int->List Int->Prop
 | .ld,_,r=>bj r/\r.length<=9
 | .pr _,_,r=>bj r/\r.length<=9
 | .sh _ _ _,g,r=>r9 g r
 | .tb _ _,_,r=>bj r
 | .br,_,_=>True
def jZ(t:Adr):Sp:=λvs H Q _=>∃(o q:Addr) (D:Kt) (g:Int) (r:List Int),vs=[.ref o,.ref q,.int g]/\TN t H o D/\bG D g/\H q=some (.lst (r.map V.int))/\Dm D g r/\∀p H',aj H H'->H' p=some (.tup (nA g (be D g r)))->Q (.ref p) H'
theorem nj (T:Txt w K mg t):bA P w K mg base bR 7 t.gJ t.iM ["self", "begun", "page"] (jZ t):=by
 refine T.Sy.okQ AK (λvs H Q E h=>by obtain⟨o,q,D,g,r,rfl,_⟩:=h;rfl) λ_ _ _ _ H vs Q E hr h=>?_;obtain⟨o,q,D,g,r,rfl,tn,pg,hq,dm,k⟩:=h;have hu:=hr.units;refine⟨_,(af (aG (i:=3) AK.nd Z (.inl Z) (cb (cB (NM T) hr (aa 0) (ab (aa 1) (ab (aa 2) ad))) (cb (cB (NZ T) hr (aa 0) (ab (aa 1) (ab (aa 2) ad))) (cb (cB (CI T) hr (aa 0) (ab (aa 1) (ab (aa 2) ad))) (cb (cB (CC T) hr (aa 0) (ab (aa 1) (ab (aa 2) ad))) (cB (NP T) hr (aa 0) (ab (aa 1) (ab (aa 2) ad))))))))
  (af (av (au uq (aa 3) bL (ar _)) (ag (ap (bN (ab aU (ab (ax (T5 K) (aa 3) ae (λ_ _=>rfl)) (ab (ax (T5 K) (aa 3) ae (λ_ _=>rfl)) ad)))))) aA)
  (af (av (au ig (cb (cB (NO T) hr (aa 0) (ab (aa 1) (ab (aa 2) ad))) (cb (cB (N1 T) hr (aa 0) (ab (aa 1) (ab (aa 2) ad))) (cb (cB (NY T) hr (aa 0) (ab (aa 1) (ab (aa 2) ad))) (cb (cB (NU T) hr (aa 0) (ab (aa 1) (ab (aa 2) ad))) (cB (NR T) hr (aa 0) (ab (aa 1) (ab (aa 2) ad))))))) bL (ar _)) (ag (ap (bN (ab aU (ab bL (ab (aa 2) ad)))))) aA)
  (ag (ap (bN (ab aU (ab bL (ab (aa 2) ad))))))))),?_⟩
 cases D with
 | br =>
  obtain⟨dx,ho⟩:=id tn;refine .inl ⟨o,dx,_,Z,ho,Z,_,_,_,Z,?_⟩;refine .inl ⟨o,dx,_,Z,ho,Z,_,_,_,Z,?_⟩;exact⟨sz Z,λp2 H2 g2=>k p2 H2 g2.sm g2.at_⟩
 | ld =>
  obtain rfl:g=0:=pg;obtain⟨dx,ho⟩:=id tn;have tl:r.length<=1000:=by have:=dm.2;lia
  dsimp only [be]at k;refine .inr (.inl ⟨o,dx,_,Z,ho,Z,?_⟩);refine⟨o,q,_,Z,.of hq,tl,λwh p H1 g1=>?_,λnw H1 s1=>?_⟩
  ·rw[if_pos wh]at k;refine aV (.inr g1.tup) (aB (j:=0) Z) ?_;refine aV (.inr g1.tup) (aB (j:=1) Z) ?_;exact⟨sz Z,λp2 H2 g2=>k p2 H2 (g1.sm.trans g2.sm) g2.at_⟩
  ·rw[if_neg nw]at k;refine .inr (.inl ⟨o,dx,_,Z,s1 _ _ ho,Z,?_⟩);refine⟨o,q,_,Z,.of (s1 _ _ hq),tl,λbg p2 H2 g2=>?_,λnb H2 s2=>?_⟩
   ·rw[if_pos bg]at k;exact⟨sz Z,λp3 H3 g3=>k p3 H3 (s1.trans (g2.sm.trans g3.sm)) g3.at_⟩
   ·rw[if_neg nb]at k;exact⟨sz Z,λp3 H3 g3=>k p3 H3 (s1.trans (s2.trans g3.sm)) g3.at_⟩
 | pr h =>
  obtain rfl:g=0:=pg;have po:Po t H o h:=tn;obtain⟨dx,ho⟩:=id po;have l9:=dm.2;dsimp only [be]at k;refine .inr (.inr (.inl ⟨o,dx,_,Z,ho,Z,?_⟩));refine⟨o,q,h,_,rfl,po,.of hq,dm.1,by lia,λn' en p H1 g1=>?_,λen H1 s1=>?_⟩
  ·rw[en]at k;refine aV (.inr g1.tup) (aB (j:=0) Z) ?_;refine aV (.inr g1.tup) (aB (j:=1) Z) ?_;exact⟨sz Z,λp2 H2 g2=>k p2 H2 (g1.sm.trans g2.sm) g2.at_⟩
  ·rw[en]at k;dsimp only at k;refine .inr (.inr (.inl ⟨o,dx,_,Z,s1 _ _ ho,Z,?_⟩));refine⟨o,q,h,_,rfl,po.mono s1,.of (s1 _ _ hq),dm.1,by lia,λf ef p2 H2 g2=>?_,λef H2 s2=>?_⟩
   ·rw[if_neg (by rw[ef];intro z;cases z)]at k;exact⟨sz Z,λp3 H3 g3=>k p3 H3 (s1.trans (g2.sm.trans g3.sm)) g3.at_⟩
   ·rw[if_pos ef]at k;exact⟨sz Z,λp3 H3 g3=>k p3 H3 (s1.trans (s2.trans g3.sm)) g3.at_⟩
 | sh f ns ms =>
  have two:cP g:=pg;have tg:Tg t H o f ns ms:=tn;dsimp only [be]at k;refine .inr (.inr (.inr (.inl ⟨o,f.dx,_,Z,tg.o,Z,?_⟩)));refine⟨o,f,ns,ms,q,_,g,Z,two,tg,hq,dm,λhw=>?_,λn g' hw p H1 g1=>?_⟩
  ·rw[hw]at k;dsimp only at k;refine .inr (.inr (.inr (.inl ⟨o,f.dx,_,Z,tg.o,Z,?_⟩)));refine⟨o,f,ns,ms,q,_,g,Z,two,tg,hq,dm,λhf H1 s1=>?_,λhf p1 r2 H1 s1 _ _=>?_⟩
   ·rw[if_neg (by rw[hf];decide)]at k;exact⟨sz Z,λp2 H2 g2=>k p2 H2 (s1.trans g2.sm) g2.at_⟩
   ·rw[if_pos hf]at k;exact⟨sz Z,λp2 H2 g2=>k p2 H2 (s1.trans g2.sm) g2.at_⟩
  ·rw[hw]at k;refine aV (.inr g1.tup) (aB (j:=0) Z) ?_;refine aV (.inr g1.tup) (aB (j:=1) Z) ?_;exact⟨sz Z,λp2 H2 g2=>k p2 H2 (g1.sm.trans g2.sm) g2.at_⟩
 | tb f es =>
  obtain rfl:g=0:=pg;obtain⟨tt,ok⟩:=id tn;dsimp only [be]at k;refine .inr (.inr (.inr (.inr ⟨o,f.dx,_,Z,tt.o,Z,?_⟩)));refine⟨o,f,es,q,_,0,Z,tt,ok,hq,λhnn H1 s1=>?_,λe he hrow p H1 s1 hp=>?_⟩
  ·rw[show (es.find? λe=>decide (e.2=r))=none from U9.mpr λe he=>by simpa using hnn e he]at k;dsimp only at k;refine .inr (.inr (.inr (.inr ⟨o,f.dx,_,Z,(tt.mono s1).o,Z,?_⟩)));refine⟨o,f,es,q,_,0,Z,tt.mono s1,s1 _ _ hq,λrt p2 H2 s2=>?_,λnrt H2 s2=>?_⟩
   ·rw[if_pos rt]at k;exact⟨sz Z,λp3 H3 g3=>k p3 H3 (s1.trans (s2.trans g3.sm)) g3.at_⟩
   ·rw[if_neg nrt]at k;exact⟨sz Z,λp3 H3 g3=>k p3 H3 (s1.trans (s2.trans g3.sm)) g3.at_⟩
  ·have ef:(es.find? λe=>decide (e.2=r))=some e:=by
    cases ef:es.find? λe=>decide (e.2=r) with
    | none=>exact absurd (decide_eq_true hrow) (U9.mp ef e he)
    | some e' =>
     have h':e'.2=r:=by simpa using VE ef
     rcases ok.two (V4 ef) he with z|z
     ·rw[z]
     ·unfold gj dj at z;rw[h',hrow]at z;simp at z
   rw[ef]at k;refine aV (.inr (.of hp)) (aB (j:=0) Z) ?_;refine aV (.inr (.of hp)) (aB (j:=1) Z) ?_;exact⟨sz Z,λp3 H3 g3=>k p3 H3 (s1.trans g3.sm) g3.at_⟩
theorem CA (T:Txt w K mg t):dL P w K mg base t.fB "look" 7 t.gJ t.iM ["self", "begun", "page"] [] (jZ t):=⟨T.nY,T.Ln,⟨_,T.n5,.nil⟩,nj T⟩
theorem CL (T:Txt w K mg t):dL P w K mg base t.eY "look" 7 t.gJ t.iM ["self", "begun", "page"] [] (jZ t):=⟨T.nZ,T.mt_LeadTongue_look,⟨_,T.n5,.nil⟩,nj T⟩
theorem CK (T:Txt w K mg t):dL P w K mg base t.cN "look" 7 t.gJ t.iM ["self", "begun", "page"] [] (jZ t):=⟨T.gT,T.mt_PairTongue_look,⟨_,T.n5,.nil⟩,nj T⟩
theorem CG (T:Txt w K mg t):dL P w K mg base t.bU "look" 7 t.gJ t.iM ["self", "begun", "page"] [] (jZ t):=⟨T.dE,T.mt_ShiftTongue_look,⟨_,T.n5,.nil⟩,nj T⟩
theorem CB (T:Txt w K mg t):dL P w K mg base t.cn "look" 7 t.gJ t.iM ["self", "begun", "page"] [] (jZ t):=⟨T.fA,T.mt_TableTongue_look,⟨_,T.n5,.nil⟩,nj T⟩
def jY(u:Int):Sp:=λvs H Q _=>∃o:V,vs=[o]/\Q (.int u) H
theorem pG (T:Txt w K mg t):bA P w K mg base bR 1 t.io t.jH ["self"] (jY 1):=by
 refine T.Sw.okQ HL (λvs H Q E h=>by obtain⟨o,rfl,_⟩:=h;rfl) λ_ _ _ _ H vs Q E hr h=>?_;obtain⟨o,rfl,k⟩:=h;exact⟨_,(ag (ap ae)),k⟩
theorem uf (T:Txt w K mg t):cF P w K mg base t.fB "unit" 1 t.io t.jH ["self"] (jY 1):=⟨T.nY,T.Ll,T.rH,pG T⟩
theorem uj (T:Txt w K mg t):cF P w K mg base t.eY "unit" 1 t.io t.jH ["self"] (jY 1):=⟨T.nZ,T.mt_LeadTongue_unit,T.rH,pG T⟩
theorem uh (T:Txt w K mg t):cF P w K mg base t.bU "unit" 1 t.io t.jH ["self"] (jY 1):=⟨T.dE,T.mt_ShiftTongue_unit,T.rH,pG T⟩
theorem ug (T:Txt w K mg t):cF P w K mg base t.cn "unit" 1 t.io t.jH ["self"] (jY 1):=⟨T.fA,T.mt_TableTongue_unit,T.rH,pG T⟩
theorem ui (T:Txt w K mg t):cF P w K mg base t.cN "unit" 1 t.yU t.vT ["self"] (jY 2):=by
 refine⟨T.gT,T.LC,T.R6,T.SW.okQ Id (λvs H Q E h=>by obtain⟨o,rfl,_⟩:=h;rfl) λ_ _ _ _ H vs Q E hr h=>?_⟩;obtain⟨o,rfl,k⟩:=h;exact⟨_,(ag (ap ae)),k⟩
def c9:Kt->Prop
 | .sh _ ns ms=>cX ns/\cX ms
 | .tb _ es=>Es es
 | _=>True
theorem TN.koS{H:Hp}{o:Addr}{D:Kt}(h:TN t H o D):c9 D:=by
 cases D with
 | sh f ns ms=>exact⟨Tg.k0 h,Tg.k1 h⟩
 | tb f es=>exact h.2
 | _=>exact trivial
theorem c9.kok{D:Kt}(h:c9 D):sj D:=by
 cases D with
 | tb f es=>exact h
 | _=>exact trivial
theorem MQ{D:Kt}{n:Int}(ok:c9 D)(h:fP D n):Sg n:=by
 cases D with
 | ld=>exact h
 | pr b=>exact h
 | sh f ns ms=>exact h.elim (ok.1.1 n) (ok.2.1 n)
 | tb f es =>
  obtain⟨e,he,rfl⟩:=h;exact (Es.sg ok e he).1
 | br=>exact h.elim
theorem Cd{P:List Int}{n:Int}{i:Nat}(nd:P.Nodup)(h:P[i]? = some n):cM P n=some i:=by
 obtain⟨j,hj,_⟩:=jB (Ur h);obtain⟨e1,e2⟩:=i7 hj;rcases Nat.lt_trichotomy i j with c|c|c
 ·exact absurd h (e2 i c)
 ·rw[c];exact hj
 ·obtain⟨a1,a2⟩:=Uk.mp e1;obtain⟨b1,b2⟩:=Uk.mp h;exact absurd (a2.trans b2.symm) (Vr.mp nd j i a1 b1 c)
theorem tT{D:Kt}{g n g':Int}{r:List Int}(ok:c9 D)(pg:bG D g)(dm:Dm D g r)(h:be D g r=.sg n g'):fP D n/\bS D g n=(r,g')/\bG D g':=by
 cases D with
 | br=>cases h
 | ld =>
  dsimp only [be]at h;by_cases c:gl r
  ·rw[if_pos c]at h;cases h;obtain⟨a,b⟩:=Fm c λx hx=>(dm.1 x hx).1;refine⟨a,?_,pg⟩;show (row (gH r),g)=_;rw[b]
  ·rw[if_neg c]at h
   split at h<;>cases h
 | pr b =>
  dsimp only [be]at h;cases e:ff b r with
  | some m =>
   rw[e]at h;cases h;obtain⟨a,e2⟩:=Fo b dm.1 e;refine⟨a,?_,pg⟩;show (fI b n,g)=_;rw[e2]
  | none =>
   rw[e]at h;dsimp only at h
   split at h<;>cases h
 | sh f ns ms =>
  dsimp only [be]at h;have two:cP g:=pg;obtain⟨okP,okO⟩:=ok;have oP:=j1 (g:=g) okP okO;have oO:=j1 (g:=g) okO okP;cases e:eI (ao g ns ms) (ao g ms ns) g r with
  | none =>
   rw[e]at h;dsimp only at h
   split at h<;>cases h
  | some z =>
   rw[e]at h;obtain⟨m,gg⟩:=z;cases h;have inn:∀ {x:Int},x∈ao g ns ms\/x∈ao g ms ns->x∈ns\/x∈ms:=λ{x} hx=>by
    rcases two with rfl|rfl
    ·exact hx
    ·exact hx.symm
   rcases dm with ⟨b,rfl,b0⟩|⟨c,rfl,c0⟩
   ·have e:((ao g ns ms)[b.toNat]?.map λn=>(n,g))=some (n,g'):=e;obtain⟨m,hm,e2⟩:=Va.mp e;cases e2;refine⟨inn (.inl (Ur hm)),?_,pg⟩;show (dX (ao g ns ms) (ao g ms ns) g (.int n)).getD _=_;unfold dX;dsimp only;rw[Cd oP.2.1 hm];show (([(b.toNat:Int)],g):List Int × Int)=_;rw[Wo b0]
   ·have e:(match (ao g ms ns)[c.toNat]? with|some n=>if n∈ao g ns ms then none else some (n,1-g)|none=>none)=some (n,g'):=e;cases hm:(ao g ms ns)[c.toNat]? with
    | none=>rw[hm]at e;cases e
    | some m =>
     rw[hm]at e;dsimp only at e;by_cases hp:m∈ao g ns ms
     ·rw[if_pos hp]at e;cases e
     ·rw[if_neg hp]at e;cases e;refine⟨inn (.inr (Ur hm)),?_,two.flip⟩;show (dX (ao g ns ms) (ao g ms ns) g (.int n)).getD _=_;unfold dX;dsimp only;rw[gD.mpr hp];dsimp only;rw[Cd oO.2.1 hm];show (([254+(1-g),(c.toNat:Int)],1-g):List Int × Int)=_;rw[Wo c0]
 | tb f es =>
  dsimp only [be]at h;cases e:es.find? λe=>decide (e.2=r) with
  | none =>
   rw[e]at h;dsimp only at h
   split at h<;>cases h
  | some x =>
   rw[e]at h;cases h;have hx:=V4 e;have hr:x.2=r:=by simpa using VE e
   refine⟨⟨x,hx,Z⟩,?_,pg⟩;obtain⟨y,hy,ey,ef⟩:=mD (es:=es) (n:=x.1) ⟨x,hx,rfl⟩;have yx:y=x:=by
    rcases Es.two ok hy hx with z|z
    ·exact z
    ·unfold gj at z;rw[decide_eq_true ey]at z;cases z
   show (Option.map _ _).getD _=_;rw[ef,yx,<- hr]
   rfl
def cq:Kt->Int->List Int->Prop
 | .ld,_,r=>bj r/\r.length<=4
 | .pr _,_,r=>bj r/\r.length<=3
 | .sh _ _ _,g,r=>r=[]\/r=[254+(1-g)]
 | .tb _ _,_,r=>bj r/\r.length<=6
 | .br,_,r=>r=[]
def am:Kt->Nat
 | .pr _=>2
 | _=>1
theorem cq.nil(D:Kt)(g:Int):cq D g []:=by
 cases D with
 | ld=>exact⟨(λ_ h=>nomatch h),Ux _⟩
 | pr b=>exact⟨(λ_ h=>nomatch h),Ux _⟩
 | sh f ns ms=>exact .inl rfl
 | tb f es=>exact⟨(λ_ h=>nomatch h),Ux _⟩
 | br=>rfl
theorem cq.byts{D:Kt}{g:Int}{r:List Int}(pg:bG D g)(h:cq D g r):bj r/\r.length<=6:=by
 cases D with
 | ld=>exact⟨h.1,by have:=h.2;lia⟩
 | pr b=>exact⟨h.1,by have:=h.2;lia⟩
 | sh f ns ms =>
  have two:cP g:=pg;rcases h with rfl|rfl
  ·exact⟨(λ_ h=>nomatch h),Ux _⟩
  ·refine⟨λx hx=>?_,by show 1<=6;decide⟩;rw[Uq.mp hx];rcases two with rfl|rfl<;>decide
 | tb f es=>exact h
 | br =>
  obtain rfl:r=[]:=h;exact⟨(λ_ h=>nomatch h),Ux _⟩
theorem im{r:List Int}{b:Int}(h:bj r)(b0:0<=b)(b1:b<=255):bj (r++[b]):=λx hx=>by
 rcases Us.mp hx with z|z
 ·exact h x z
 ·rw[Uq.mp z];exact⟨b0,b1⟩
theorem qK{D:Kt}{g:Int}{r:List Int}{b:Int}(h:cq D g r)(b0:0<=b)(b1:b<=255):Dm D g (r++[b]):=by
 cases D with
 | ld=>exact⟨im h.1 b0 b1,by have:=h.2;rw[Ud];show _+1<=_;lia⟩
 | pr c=>exact⟨im h.1 b0 b1,by have:=h.2;rw[Ud];show _+1<=_;lia⟩
 | sh f ns ms =>
  rcases h with rfl|rfl
  ·exact .inl ⟨b,Z,b0⟩
  ·exact .inr ⟨b,Z,b0⟩
 | tb f es=>exact im h.1 b0 b1
 | br=>exact trivial
theorem vZ{D:Kt}{g:Int}{r:List Int}{b:Int}(h:cq D g r)(b0:0<=b)(b1:b<=255):Dm D g ((r++[b]).drop ((r++[b]).length-am D)):=by
 have one:(r++[b]).drop ((r++[b]).length-1)=[b]:=by rw[Ud];simp
 have bb:bj [b]:=λx hx=>by rw[Uq.mp hx];exact⟨b0,b1⟩
 cases D with
 | ld=>show bj _/\_;rw[show am .ld=1 from rfl,one];exact⟨bb,by show 1<=9;decide⟩
 | pr c=>exact⟨λx hx=>im h.1 b0 b1 x (Vq hx),by have:=h.2;rw[U5,Ud];show _+1-_<=_;lia⟩
 | sh f ns ms=>show r9 _ _;rw[show am (.sh f ns ms)=1 from rfl,one];exact .inl ⟨b,Z,b0⟩
 | tb f es=>show bj _;rw[show am (.tb f es)=1 from rfl,one];exact bb
 | br=>exact trivial
theorem Df(h:Bool){r:List Int}(l:r.length=4)(e:ff h r=none):iL h r=none:=by
 unfold iL;refine U9.mpr λf hf=>?_;rw[V1,W8,W9];by_cases c:f=[]
 ·rw[c,UC];exact e
 ·unfold ff;have:1<=f.length:=WG.mpr c;rw[if_neg (by rw[Ud,l];lia)]
theorem pM{D:Kt}{g:Int}{r:List Int}(ok:c9 D)(dm:Dm D g r)(ev:r.length%am D=0)(l5:r.length<=4\/∀h,D ≠ .pr h)(h:be D g r=.mo):cq D g r:=by
 cases D with
 | br=>cases h
 | ld =>
  dsimp only [be]at h;refine⟨dm.1,?_⟩
  split at h
  ·cases h
  split at h
  ·rename_i bg;cases r with
   | nil=>exact Ux _
   | cons f r =>
    have bg:jl f r:=bg;have:=bg.1;have:=(pW f).2;rw[UB]
    lia
  ·cases h
 | pr b =>
  dsimp only [be]at h;refine⟨dm.1,?_⟩;have ev:r.length%2=0:=ev;cases e:ff b r with
  | some m=>rw[e]at h;cases h
  | none =>
   rw[e]at h;dsimp only at h;rcases l5 with l5|l5
   ·by_cases c:r.length=4
    ·rw[if_pos (Df b c e)]at h;cases h
    ·lia
   ·exact absurd Z (l5 b)
 | sh f ns ms =>
  dsimp only [be]at h;rcases dm with ⟨b,rfl,b0⟩|⟨c,rfl,c0⟩
  ·have lk:=BX (P:=ao g ns ms) (O:=ao g ms ns) (g:=g) b0;unfold iD at lk;cases e:eI (ao g ns ms) (ao g ms ns) g [b] with
   | some z=>rw[e]at h;cases h
   | none =>
    rw[e]at h lk;dsimp only at h lk;by_cases c:gF (ao g ns ms) (ao g ms ns) g [b]=true
    ·rw[if_pos c]at lk;cases e2:(ao g ns ms)[b.toNat]? with
     | some n=>rw[e2]at lk;cases lk
     | none =>
      rw[e2]at lk;dsimp only at lk;by_cases c2:b=254+(1-g)/\fO (ao g ms ns) (ao g ns ms)≠[]
      ·exact .inr (by rw[c2.1])
      ·rw[if_neg c2]at lk;cases lk
    ·rw[if_neg c]at h;cases h
  ·have lk:=BW (P:=ao g ns ms) (O:=ao g ms ns) (g:=g) c0;unfold iD at lk;cases e:eI (ao g ns ms) (ao g ms ns) g [254+(1-g),c] with
   | some z=>rw[e]at h;cases h
   | none =>
    rw[e]at h lk;dsimp only at h lk;by_cases d:gF (ao g ns ms) (ao g ms ns) g [254+(1-g),c]=true
    ·rw[if_pos d]at lk
     split at lk<;>cases lk
    ·rw[if_neg d]at h;cases h
 | tb f es =>
  dsimp only [be]at h;refine⟨dm,?_⟩
  split at h
  ·cases h
  split at h
  ·rename_i rt;obtain⟨e,he,m,hm,rfl⟩:=rt;have:=(Es.sg ok e he).2.2.1;rw[Ul]
   lia
  ·cases h
inductive Ev where
 | sg (n:Int)
 | ft (p l:Nat) (k:Str) (bs:List Int)
inductive Wy where
 | lv
 | pt (n:Int)
 | se
def FW:Wy->List Int->List Int
 | .lv,_=>[]
 | .pt n,_=>[n]
 | .se,bs=>bs.map λb=>61184+b
def sM(W:Wy):Ev->List Int
 | .sg n=>[n]
 | .ft _ _ _ bs=>FW W bs
def eN(W:Wy)(es:List Ev):List Int:=es.flatMap (sM W)
def ce:List Ev->List (Nat × Nat × Str)
 | []=>[]
 | .sg _::es=>ce es
 | .ft p l k _::es=>(p,l,k)::ce es
theorem jG:∀xs ys:List Ev,ce (xs++ys)=ce xs++ce ys
 | [],_=>rfl
 | .sg n::xs,ys=>jG xs ys
 | .ft p l k bs::xs,ys=>by show (p,l,k)::ce (xs++ys)=_;rw[jG xs ys];rfl
theorem zF(W:Wy)(xs ys:List Ev):eN W (xs++ys)=eN W xs++eN W ys:=V5 ..
noncomputable def dg(D:Kt)(g:Int)(c:Nat)(r:List Int):Int × List Int × List Ev:=match be D g r with
 | .sg n g'=>(g',[],[.sg n])
 | .mo=>(g,r,[])
 | .no=>(g,[],[.ft (c-r.length) r.length "strange" r])
noncomputable def iF(D:Kt)(g:Int)(c:Nat)(r:List Int):Int × List Int × List Ev:=match be D g r with
 | .sg n g'=>(g',[],[.sg n])
 | .mo=>(g,r,[])
 | .no=>((dg D g c (r.drop (r.length-am D))).1,(dg D g c (r.drop (r.length-am D))).2.1,.ft (c-r.length) (r.length-am D) "broken" (r.take (r.length-am D))::(dg D g c (r.drop (r.length-am D))).2.2)
noncomputable def bM(D:Kt)(g:Int)(r:List Int)(c:Nat)(b:Int):Int × List Int × List Ev :=
 if (r++[b]).length%am D=0 then (if (r++[b]).length=am D then dg D g c (r++[b]) else iF D g c (r++[b])) else (g,r++[b],[])
noncomputable def run(D:Kt):Int->List Int->Nat->List Int->Int × List Int × List Ev
 | g,r,_,[]=>(g,r,[])
 | g,r,c,b::bs=>((run D (bM D g r (c+1) b).1 (bM D g r (c+1) b).2.1 (c+1) bs).1,(run D (bM D g r (c+1) b).1 (bM D g r (c+1) b).2.1 (c+1) bs).2.1,(bM D g r (c+1) b).2.2++(run D (bM D g r (c+1) b).1 (bM D g r (c+1) b).2.1 (c+1) bs).2.2)
theorem AX(D:Kt)(b:Int):∀(bs:List Int) (g:Int) (r:List Int) (c:Nat),run D g r c (bs++[b])=((bM D (run D g r c bs).1 (run D g r c bs).2.1 (c+bs.length+1) b).1,(bM D (run D g r c bs).1 (run D g r c bs).2.1 (c+bs.length+1) b).2.1,(run D g r c bs).2.2++(bM D (run D g r c bs).1 (run D g r c bs).2.1 (c+bs.length+1) b).2.2)
 | [],g,r,c=>by simp[run]
 | a::bs,g,r,c=>by
  show run D g r c (a::(bs++[b]))=_;simp only [run];rw[AX D b bs];simp[Nat.add_assoc,Nat.add_comm 1,Nat.add_left_comm]
def y8(D:Kt):Ev->Prop
 | .sg n=>fP D n
 | .ft _ l _ bs=>bj bs/\bs.length=l
def fF(D:Kt)(g x:Int):List Int × Int:=if 61184<=x/\x<=61439 then ([x-61184],g) else bS D g x
def bX(D:Kt)(g:Int)(xs:List Int):List Int × Int:=xs.foldl (λa n=>(a.1++(fF D a.2 n).1,(fF D a.2 n).2)) ([],g)
theorem sD(D:Kt):∀(ts:List Int) (row:List Int) (g:Int),ts.foldl (λa n=>(a.1++(fF D a.2 n).1,(fF D a.2 n).2)) (row,g)=(row++(bX D g ts).1,(bX D g ts).2)
 | [],row,g=>by simp[bX]
 | n::ts,row,g=>by
  rw[Vn,sD D ts];have e:bX D g (n::ts)=((fF D g n).1++(bX D (fF D g n).2 ts).1,(bX D (fF D g n).2 ts).2):=by
   show List.foldl _ _ (n::ts)=_;rw[Vn,sD D ts];simp
  rw[e,UN]
theorem mP(D:Kt)(g:Int)(xs ys:List Int):bX D g (xs++ys)=((bX D g xs).1++(bX D (bX D g xs).2 ys).1,(bX D (bX D g xs).2 ys).2):=by
 show List.foldl _ _ (xs++ys)=_;rw[List.foldl_append];exact sD D ys _ _
theorem sx(D:Kt)(g n:Int):bX D g [n]=fF D g n:=by simp[bX]
theorem sC(D:Kt)(g:Int):∀bs:List Int,bj bs->bX D g (bs.map λb=>61184+b)=(bs,g)
 | [],_=>rfl
 | b::bs,h=>by
  have hb:=h b (Uv ..);have e:(b::bs).map (λb=>61184+b)=[61184+b]++bs.map λb=>61184+b:=rfl;rw[e,mP,sx];unfold fF;rw[if_pos (by lia),sC D g bs λx hx=>h x (Uw _ hx)];simp
  lia
theorem Gv{D:Kt}{g n:Int}(h:Sg n):fF D g n=bS D g n:=by
 unfold fF;rw[if_neg (λz=>h.2.2.2 z)]
def zc(D:Kt)(g:Int)(r:List Int)(z:Int × List Int × List Ev):Prop:=bG D z.1/\cq D z.1 z.2.1/\(bX D g (eN .se z.2.2)).1++z.2.1=r/\(bX D g (eN .se z.2.2)).2=z.1/\(∀e∈z.2.2,y8 D e)/\z.2.2.length<=2
theorem CO{D:Kt}{g n g':Int}{r:List Int}(ok:c9 D)(pg:bG D g)(dm:Dm D g r)(h:be D g r=.sg n g'):zc D g r (g',[],[.sg n]):=by
 obtain⟨a,b,c⟩:=tT ok pg dm h;have e:bX D g (eN .se [.sg n])=(r,g'):=by
  show bX D g [n]=_;rw[sx,Gv (MQ ok a),b]
 refine⟨c,cq.nil _ _,by rw[e,UC],by rw[e],λx hx=>?_,by show 1<=2;decide⟩;rw[Uq.mp hx];exact a
theorem CP{D:Kt}{g:Int}{r:List Int}(c:Nat)(ok:c9 D)(pg:bG D g)(dm:Dm D g r)(by':bj r)(ev:r.length%am D=0)(l5:r.length<=4\/∀h,D ≠ .pr h):zc D g r (dg D g c r)/\(dg D g c r).2.2.length<=1:=by
 unfold dg;cases e:be D g r with
 | sg n g'=>exact⟨CO ok pg dm e,by show 1<=1;decide⟩
 | mo=>exact⟨⟨pg,pM ok dm ev l5 e,rfl,rfl,(λ_ h=>nomatch h),by show 0<=2;decide⟩,by show 0<=1;decide⟩
 | no =>
  have e2:bX D g (eN .se [.ft (c-r.length) r.length "strange" r])=(r,g):=by
   show bX D g ((r.map λb=>61184+b)++[])=_;rw[UC,sC D g r by']
  refine⟨⟨pg,cq.nil _ _,by rw[e2,UC],by rw[e2],λx hx=>?_,by show 1<=2;decide⟩,by show 1<=1;decide⟩;rw[Uq.mp hx];exact⟨by',Z⟩
theorem ul{D:Kt}{g:Int}{r:List Int}(c:Nat){b:Int}(ok:c9 D)(pg:bG D g)(bg:cq D g r)(b0:0<=b)(b1:b<=255):zc D g (r++[b]) (bM D g r c b):=by
 obtain⟨by0,l6⟩:=bg.byts pg;have by1:=im by0 b0 b1;have dm:=qK bg b0 b1;have l5:(r++[b]).length<=4\/∀h,D ≠ .pr h:=by
  cases D with
  | pr h=>exact .inl (by rw[Ud];have:=bg.2;show _+1<=4;lia)
  | _=>exact .inr (λh z=>by cases z)
 unfold bM;by_cases ev:(r++[b]).length%am D=0
 ·rw[if_pos ev];by_cases one:(r++[b]).length=am D
  ·rw[if_pos one];exact (CP c ok pg dm by1 ev l5).1
  ·rw[if_neg one];unfold iF;cases e:be D g (r++[b]) with
   | sg n g'=>exact CO ok pg dm e
   | mo=>exact⟨pg,pM ok dm ev l5 e,rfl,rfl,(λ_ h=>nomatch h),by show 0<=2;decide⟩
   | no =>
    have u1:1<=am D/\am D<=2:=by cases D<;>simp[am]
    have ln:(r++[b]).length=r.length+1:=by rw[Ud];rfl
    have lu:am D<=(r++[b]).length:=by
     rcases V6 (r++[b]).length (am D) with z|z
     ·rw[WH z]at ev;lia
     ·exact z
    have ld:((r++[b]).drop ((r++[b]).length-am D)).length=am D:=by rw[U5];lia
    obtain⟨⟨h1,h2,h3,h4,h5,h6⟩,h7⟩:=CP (r:=(r++[b]).drop ((r++[b]).length-am D)) c ok pg (vZ bg b0 b1) (λx hx=>by1 x (Vq hx)) (by rw[ld,WI]) (.inl (by rw[ld];lia));have by2:bj ((r++[b]).take ((r++[b]).length-am D)):=λx hx=>by1 x (U8 hx);have et:∀(p l:Nat) (k:Str) (bs:List Int) (es:List Ev),bj bs->bX D g (eN .se (.ft p l k bs::es))=(bs++(bX D g (eN .se es)).1,(bX D g (eN .se es)).2):=λp l k bs es hb=>by
     show bX D g ((bs.map λb=>61184+b)++eN .se es)=_;rw[mP,sC D g bs hb]
    refine⟨h1,h2,?_,?_,λx hx=>?_,?_⟩
    ·dsimp only;rw[et _ _ _ _ _ by2,UN,h3,VL]
    ·dsimp only;rw[et _ _ _ _ _ by2,h4]
    ·rcases Uy.mp hx with rfl|hx
     ·exact⟨by2,by rw[Ul];lia⟩
     ·exact h5 x hx
    ·dsimp only;rw[UB]
     lia
 ·rw[if_neg ev];refine⟨pg,?_,rfl,rfl,(λ_ h=>nomatch h),by show 0<=2;decide⟩;have ln:(r++[b]).length=r.length+1:=by rw[Ud];rfl
  cases D with
  | pr h =>
   have ev:¬(r++[b]).length%2=0:=ev;refine⟨by1,?_⟩;have:=bg.2;dsimp only
   lia
  | _=>exact absurd (VM _) ev
theorem qg{D:Kt}(ok:c9 D):∀(bs:List Int) (g:Int) (r:List Int) (c:Nat),bG D g->cq D g r->bj bs->bG D (run D g r c bs).1/\cq D (run D g r c bs).1 (run D g r c bs).2.1/\(bX D g (eN .se (run D g r c bs).2.2)).1++(run D g r c bs).2.1=r++bs/\(bX D g (eN .se (run D g r c bs).2.2)).2=(run D g r c bs).1/\(∀e∈(run D g r c bs).2.2,y8 D e)/\(run D g r c bs).2.2.length<=2*bs.length
 | [],g,r,c,pg,bg,_=>⟨pg,bg,by simp[run,eN,bX],rfl,(λ_ h=>nomatch h),Ue _⟩
 | b::bs,g,r,c,pg,bg,hb=>by
  have h:=hb b (Uv ..);obtain⟨h1,h2,h3,h4,h5,h6⟩:=ul (c+1) ok pg bg h.1 h.2;obtain⟨k1,k2,k3,k4,k5,k6⟩:=qg ok bs _ _ (c+1) h1 h2 λx hx=>hb x (Uw _ hx);simp only [run];refine⟨k1,k2,?_,?_,λe he=>?_,?_⟩
  ·rw[zF,mP];dsimp only;rw[h4,UN,k3,<- UN,h3,UN]
   rfl
  ·rw[zF,mP];dsimp only;rw[h4,k4]
  ·rcases Us.mp he with z|z
   ·exact h5 e z
   ·exact k5 e z
  ·rw[Ud,UB]
   lia
def vO:Option Int->V
 | none=>.non
 | some n=>.int n
def oB(_:Wy)(_:List Int):List (Option Int):=[none]
def o1(W:Wy):Ev->List (Option Int)
 | .sg n=>[some n]
 | .ft _ _ _ bs=>oB W bs
def dW(W:Wy)(es:List Ev):List (Option Int):=es.flatMap (o1 W)
theorem zD(W:Wy)(xs ys:List Ev):dW W (xs++ys)=dW W xs++dW W ys:=V5 ..
theorem Kp.free{x b:Addr}{H H':Hp}{o:HO}(k:Kp x H H')(hx:H' x=some o)(n:H' b=none):H b=none:=by
 cases e:H b with
 | none=>rfl
 | some u =>
  have:=k b u (λz=>by rw[z,hx]at n;cases n) e;rw[n]at this;cases this
abbrev d6(t:Adr)(dx o b mt y:Addr)(g:Int)(c:Nat)(e:Bool):HO:=.ins t.bD dx [("tongue",.ref o),("place",.int 0),("at_page",.int g),("begun",.ref b),("many",.int (c:Int)),("met",.ref mt),("ended",.bl e),("way",.ref y)]
def GR(t:Adr):Sp:=λvs H Q _=>∃(x dx o:Addr),vs=[.ref x,.ref o,.int 0]/\H x=some (.ins t.bD dx [])/\∀b mt H',H b=none->H mt=none->b≠mt->Kp x H H'->H' x=some (.ins t.bD dx [("tongue",.ref o),("place",.int 0),("at_page",.int 0),("begun",.ref b),("many",.int 0),("met",.ref mt),("ended",.bl false)])->H' b=some (.lst [])->H' mt=some (.lst [])->Q .non H'
theorem M4 (T:Txt w K mg t):Ea P w K mg base 1 t.yN t.qD ["self", "tongue", "place"] [] (GR t):=by
 refine⟨T.E1.kp,⟨_,T.RX,.nil⟩,T.E1.okQ HY (λvs H Q E h=>by obtain⟨x,dx,o,rfl,_⟩:=h;rfl) λ_ _ _ _ H vs Q E hr h=>?_⟩;obtain⟨x,dx,o,rfl,hx,k⟩:=h;refine⟨_,(af (de (K:=K) Z (aa 0) (aa 1))
  (af (de (K:=K) rfl (aa 0) (aa 2))
  (af (de (K:=K) rfl (aa 0) ae)
  (af (de (K:=K) rfl (aa 0) (aO ad))
  (af (de (K:=K) rfl (aa 0) ae)
  (af (de (K:=K) rfl (aa 0) (aO ad))
  (ag (de (K:=K) rfl (aa 0) gz)))))))),?_⟩
 refine cR x _ dx _ rfl hx T.aI T.cJ (Uh WE (by decide)) ?_;refine cR x _ dx _ rfl bc T.aI T.BJ (Uh (Uz 1) (by decide)) ?_;refine cR x _ dx _ rfl bc T.aI T.gf (Uh (Uz 2) (by decide)) ?_;refine⟨sz Z,λb H1 g1=>?_⟩;have nb:H b=none:=Kp.free (x:=x) (Kp.trans Kp.upd (Kp.trans Kp.upd Kp.upd)) bc g1.nw;have k1:Kp x H H1:=Kp.trans (Kp.trans Kp.upd (Kp.trans Kp.upd Kp.upd)) (Kp.of g1.sm);have nxb:b≠x:=λz=>by rw[z,hx]at nb;cases nb
 have h1:=g1.sm x _ bc;refine cR x _ dx _ rfl h1 T.aI T.cr (Uh (Uz 3) (by decide)) ?_;refine cR x _ dx _ rfl bc T.aI T.tN (Uh (Uz 4) (by decide)) ?_;refine⟨sz Z,λmt H2 g2=>?_⟩;have nm:H mt=none:=Kp.free (x:=x) (k1.trans (Kp.trans Kp.upd Kp.upd)) bc g2.nw;have k3:Kp x H H2:=Kp.trans (k1.trans (Kp.trans Kp.upd Kp.upd)) (Kp.of g2.sm);have b2:H2 b=some (.lst []):=g2.sm _ _ (by rw[az nxb,az nxb];exact g1.at_);have nbm:b≠mt:=aN (by rw[az nxb,az nxb];exact g1.at_) g2.nw;have nxm:mt≠x:=λz=>by rw[z,hx]at nm;cases nm
 have h2:=g2.sm x _ bc;refine cR x _ dx _ rfl h2 T.aI T.tM (Uh (Uz 5) (by decide)) ?_;refine cR x _ dx _ rfl bc T.aI T.nu (Uh (Uz 6) (by decide)) ?_;exact k b mt _ nb nm nbm (k3.trans (Kp.upd.trans Kp.upd)) (by rw[bc];rfl) (by rw[az nxb,az nxb];exact b2) (by rw[az nxm,az nxm];exact g2.at_)
def As(t:Adr):Sp:=λvs H Q _=>∃(x dx o y:Addr),vs=[.ref x,.ref o,.ref y,.int 0]/\H x=some (.ins t.bD dx [])/\∀b mt H',H b=none->H mt=none->b≠mt->Kp x H H'->H' x=some (d6 t dx o b mt y 0 0 false)->H' b=some (.lst [])->H' mt=some (.lst [])->Q .non H'
theorem KY (T:Txt w K mg t):bA P w K mg base bR 2 t.r6 t.nW ["self", "tongue", "way", "place"] (As t):=by
 refine T.S5.okQ Ik (λvs H Q E h=>by obtain⟨x,dx,o,y,rfl,_⟩:=h;rfl) λ_ _ _ _ H vs Q E hr h=>?_;obtain⟨x,dx,o,y,rfl,hx,k⟩:=h;refine⟨_,(af (df (Je (K:=K) Z T.QM T.Od (M4 T) hr (ab (aa 0) (ab (aa 1) (ab (aa 3) ad)))))
  (ag (de (K:=K) rfl (aa 0) (aa 2)))),?_⟩
 refine⟨x,dx,o,Z,hx,λb mt H1 nb nm nbm k1 hx1 hb1 hm1=>?_⟩;have nxb:b≠x:=λz=>by rw[z,hx]at nb;cases nb
 have nxm:mt≠x:=λz=>by rw[z,hx]at nm;cases nm
 refine cR x _ dx _ rfl hx1 T.aI T.tL (Uh (Uz 7) (by decide)) ?_;exact k b mt _ nb nm nbm (k1.trans Kp.upd) (by rw[bc];rfl) (by rw[az nxb];exact hb1) (by rw[az nxm];exact hm1)
theorem MZ (T:Txt w K mg t):mM P w K mg base "GoingReader" t.bD 2 t.r6 t.nW ["self", "tongue", "way", "place"] [.int 0] (As t):=⟨T.Og,T.LQ,⟨_,T.QN,.cons ⟨_,rfl⟩ .nil⟩,KY T⟩
def jN(t:Adr)(H:Hp)(y:Addr)(_:Wy):Prop:=∃dx,H y=some (.ins t.dZ dx [("sign",.non)])
theorem jN.mono{H H':Hp}{y:Addr}{W:Wy}(h:jN t H y W)(s:aj H H'):jN t H' y W:=let ⟨dx,z⟩:=h;⟨dx,s _ _ z⟩
def GS(t:Adr):Sp:=λvs H Q _=>∃(x dx:Addr),vs=[.ref x,.non]/\H x=some (.ins t.dZ dx [])/\Q .non (upd H x (.ins t.dZ dx [("sign",.non)]))
theorem MX (T:Txt w K mg t):mM P w K mg base "Put" t.dZ 1 t.yS t.qE ["self", "sign"] [] (GS t):=⟨T.Oe,T.LO,⟨[],T.R3,.nil⟩,by
 refine T.ST.okQ Ib (λvs H Q E h=>by obtain⟨x,dx,rfl,_⟩:=h;rfl) λ_ _ _ _ H vs Q E hr h=>?_;obtain⟨x,dx,rfl,hx,k⟩:=h;exact⟨_,(ag (de (K:=K) rfl (aa 0) (aa 1))),x,_,dx,_,rfl,hx,T.xb,T.BI,by decide,k⟩⟩
def Gm(K:PySem.W.Frag)(t:Adr):Sp:=λvs H Q _=>∃(y a:Addr) (V':Wy) (bs:List Int),vs=[.ref y,.ref a]/\jN t H y V'/\aF K H a (bs.map V.int)/\bs.length<=1000/\∀p H',bi H p (.lst ((oB V' bs).map vO)) H'->Q (.ref p) H'
theorem CH (T:Txt w K mg t):cF P w K mg base t.dZ "told" 1 t.yR t.vR ["self", "row"] (Gm K t):=by
 refine⟨T.xb,T.Lz,T.R1,T.SS.okQ Ia (λvs H Q E h=>by obtain⟨y,a,W,bs,rfl,_⟩:=h;rfl) λ_ _ _ _ H vs Q E hr h=>?_⟩;obtain⟨y,a,W,bs,rfl,wy,ha,hl,k⟩:=h;obtain⟨dx,hy⟩:=wy;exact⟨_,(ag (ap (aO (ab (aK (K:=K) Z (aa 0)) ad)))),y,_,dx,_,_,Z,hy,T.xb,T.BI,Z,sz Z,k⟩
abbrev FL:=List (Addr × Nat × Nat × Str)
def C4(x:Nat × Nat × Str):List V:=[.int (x.1:Int),.int (x.2.1:Int),.str x.2.2]
def dU(H:Hp)(mt:Addr)(L:FL):Prop:=H mt=some (.lst (L.map λx=>V.ref x.1))/\∀x∈L,H x.1=some (.tup (C4 x.2))
theorem dU.mono{H H':Hp}{mt:Addr}{L:FL}(h:dU H mt L)(s:aj H H'):dU H' mt L:=⟨s _ _ h.1,λx hx=>s _ _ (h.2 x hx)⟩
theorem dU.keep{H H':Hp}{mt x b:Addr}{L:FL}{C dx:Addr}{fs:List (Str × V)}{vs:List V}(h:dU H mt L)(k:∀c u,c≠x->c≠b->H c=some u->H' c=some u)(hx:H x=some (.ins C dx fs))(hb:H b=some (.lst vs))(n:mt≠b):dU H' mt L :=
 ⟨k _ _ (bE h.1 hx (by intro z;cases z)) n h.1,λz hz=>k _ _ (bE (h.2 z hz) hx (by intro z;cases z)) (bE (h.2 z hz) hb (by intro z;cases z)) (h.2 z hz)⟩
def GH(t:Adr):Sp:=λvs H Q _=>∃(x dx o b mt y:Addr) (g:Int) (c l:Nat) (k:Str) (r:List Int) (L:FL),vs=[.ref x,.int (l:Int),.str k]/\H x=some (d6 t dx o b mt y g c false)/\H b=some (.lst (r.map V.int))/\dU H mt L/\r.length<=c/\L.length<=10000 /\
 ∀p H',(∀a u,a≠mt->H a=some u->H' a=some u)->H p=none->dU H' mt (L++[(p,c-r.length,l,k)])->Q .non H'
theorem CM (T:Txt w K mg t):cF P w K mg base t.bD "note" 1 t.yM t.vM ["self", "length", "kind"] (GH t):=by
 refine⟨T.aI,T.mt_GoingReader_note,T.RW,T.SN.okQ HX (λvs H Q E h=>by obtain⟨x,dx,o,b,mt,y,g,c,l,k,r,L,rfl,_⟩:=h;rfl) λ_ _ _ _ H vs Q E hr h=>?_⟩;obtain⟨x,dx,o,b,mt,y,g,c,l,kd,r,L,rfl,hx,hb,ft,lr,lL,k⟩:=h;refine⟨_,(ag (df (d7 (K:=K) Z UH UZ U0 gR (aK (K:=K) Z (aa 0)) (ab (bN (ab (aw cD (aw (T2 K) (aK (K:=K) Z (aa 0)) (aK (K:=K) Z (aa 0))) (bh (T4 K) T.n_len Ui (ab (aK (K:=K) Z (aa 0)) ad))) (ab (aa 1) (ab (aa 2) ad)))) ad)))),?_⟩;refine bK x _ dx _ _ Z hx T.aI T.tM Z ?_;refine⟨.inl ⟨rfl,_,.of ft.1⟩,?_⟩;refine bK x _ dx _ _ Z hx T.aI T.BJ Z ?_;refine bK x _ dx _ _ Z hx T.aI T.tN Z ?_;refine bK x _ dx _ _ Z hx T.aI T.cr Z ?_;refine aY (.inl (.of hb)) ?_;refine⟨sz Z,λp H1 g1=>?_⟩;have ep:(0:Int)+(c:Int)-((r.map V.int).length:Int)=((c-r.length:Nat):Int):=by rw[Uc];lia
 have g1':bi H p (.tup [.int ((0:Int)+(c:Int)-((r.map V.int).length:Int)),.int (l:Int),.str kd]) H1:=g1;rw[ep]at g1';refine dq (g1.sm _ _ ft.1) (eQ (by rw[Uc];lia)) ?_;have np:p≠mt:=(aN ft.1 g1.nw).symm;refine k p _ (λa u n e=>by rw[az n];exact g1.sm _ _ e) g1.nw ⟨by rw[bc,Up];rfl,λz hz=>?_⟩;rcases Us.mp hz with q|q
 ·rw[az (bE (ft.2 z q) ft.1 (by intro z;cases z))];exact g1.sm _ _ (ft.2 z q)
 ·rw[Uq.mp q,az np];exact g1'.at_
def wo(H:Hp)(X:List Addr):Hp:=λa=>if a∈X then none else H a
theorem gx{H:Hp}{X:List Addr}{a:Addr}(h:a∈X):wo H X a=none:=if_pos h
theorem zo{H:Hp}{X:List Addr}{a:Addr}{u:HO}(h:a∉X)(e:H a=some u):wo H X a=some u:=(if_neg h).trans e
theorem oG{H:Hp}{X:List Addr}:aj (wo H X) H:=λa u e=>by
 unfold wo at e
 split at e
 ·cases e
 ·exact e
theorem aj.wo{Hb H:Hp}{X:List Addr}(s:aj Hb H)(h:∀a∈X,Hb a=none):aj Hb (wo H X):=λa u e=>zo (λz=>by rw[h a z]at e;cases e) (s a u e)
theorem mQ{H:Hp}{x y z a:Addr}{u:HO}(n1:a≠x)(n2:a≠y)(n3:a≠z)(e:H a=some u):wo H [x,y,z] a=some u:=zo (by simp only [Uy,WF,or_false,not_or];exact⟨n1,n2,n3⟩) e
theorem oF{Hb H:Hp}{x y z:Addr}(s:aj Hb H)(h1:Hb x=none)(h2:Hb y=none)(h3:Hb z=none):aj Hb (wo H [x,y,z]):=aj.wo s λa ha=>by
 simp only [Uy,WF,or_false]at ha;rcases ha with rfl|rfl|rfl<;>assumption
theorem Ny (T:Txt w K mg t):cF P w K mg base t.bD "look_at_begun" 1 t.mI t.mE ["self"] Ao :=
 ⟨T.aI,T.mt_GoingReader_look_at_begun,T.xI,T.zg.okQ m5 (λvs H Q E h=>h.elim) λcdv A outer s H vs Q E hr h=>h.elim⟩
def GM(t:Adr):Sp:=λvs H Q _=>∃(Hb:Hp) (x dx o b mt y:Addr) (W:Wy) (g:Int) (c:Nat) (r:List Int) (L:FL) (kd:Str),vs=[.ref x,.int (r.length:Int),.str kd]/\jN t Hb y W/\aj Hb H/\Hb x=none/\Hb b=none/\Hb mt=none/\b≠mt/\H x=some (d6 t dx o b mt y g c false)/\H b=some (.lst (r.map V.int))/\dU H mt L/\r.length<=c/\r.length<=100/\L.length<=10000 /\
 ∀q b' p H',aj Hb H'->H q=none->H b'=none->q≠b'->H' x=some (d6 t dx o b' mt y g c false)->H' b'=some (.lst [])->dU H' mt (L++[(p,c-r.length,r.length,kd)])->H' q=some (.lst ((oB W r).map vO))->Q (.ref q) H'
theorem Cu (T:Txt w K mg t):cF P w K mg base t.bD "meet" 2 t.r0 t.qG ["self", "length", "kind"] (GM t):=by
 have h_GoingReader_look_at_begun:=λ(T:Txt w K mg t)=>Ny (P:=P) (base:=base) T;refine⟨T.aI,T.BL,T.DT,T.E2.okQ o0 (λvs H Q E h=>by obtain⟨Hb,x,dx,o,b,mt,y,W,g,c,r,L,kd,rfl,_⟩:=h;rfl) λ_ _ _ _ H vs Q E hr h=>?_⟩;obtain⟨Hb,x,dx,o,b,mt,y,W,g,c,r,L,kd,rfl,wy,sb,fx,fb,fm,nbm,hx,hb,ft,lc,l1,lL,k⟩:=h;refine⟨_,(af (df (dO (CM T) hr (aa 0) (ab (aa 1) (ab (aa 2) ad))))
  (af (aG (i:=3) o0.nd rfl (.inl rfl) (dO (CH T) hr (aK (K:=K) rfl (aa 0)) (ab (du (T6 K) (aK (K:=K) rfl (aa 0)) eS (cA (aa 1))) ad)))
  (af (de (K:=K) rfl (aa 0) (du (T6 K) (aK (K:=K) rfl (aa 0)) (cA (aa 1)) eS))
  (ag (ap (hW (gO (K:=K) rfl (aK (K:=K) rfl (aa 0))) (aw (T2 K) (aa 3) (dz (h_GoingReader_look_at_begun T) hr (aa 0))) (aa 3))))))),?_⟩
 have nbx:b≠x:=bE hb hx (by intro z;cases z);have nmx:mt≠x:=bE ft.1 hx (by intro z;cases z);refine cG x dx _ Z hx Z ⟨x,dx,o,b,mt,y,g,c,r.length,kd,r,L,Z,hx,hb,ft,lc,lL,λp H1 k1 np ft1=>?_⟩;have hx1:=k1 _ _ nmx.symm hx;have hb1:=k1 _ _ nbm hb;have s1:aj Hb H1:=λa u e=>k1 a u (aN e fm) (sb a u e);have wy1:=wy.mono s1;dsimp only;have ec:dD (r.map V.int) none (some ((r.length:Nat):Int))=(r.take r.length).map V.int:=by rw[fz,qM]
 have ed:dD (r.map V.int) (some ((r.length:Nat):Int)) none=(r.drop r.length).map V.int:=by rw[fz];exact congrArg _ (jL r r.length)
 have lt:(r.take r.length).length<=1000:=by rw[Ul];lia
 refine ca (λσ' H'=>aj H1 H'/\∃q,H1 q=none/\H' q=some (.lst ((oB W (r.take r.length)).map vO))/\σ'=[some (.ref x),some (.int ((r.length:Nat):Int)),some (.str kd),some (.ref q)]) (λnx hn=>?_) ?_
 ·have fin:∀p2 H2 q H3,bi H1 p2 (.lst ((r.take r.length).map V.int)) H2->bi H2 q (.lst ((oB W (r.take r.length)).map vO)) H3->nx [some (.ref x),some (.int ((r.length:Nat):Int)),some (.str kd),some (.ref q)] H3:=λp2 H2 q H3 g2 g3=>hn _ _ ⟨g2.sm.trans g3.sm,q,g2.sm.free g3.nw,g3.at_,rfl⟩;obtain⟨dy,hy⟩:=id wy1;refine⟨x,_,dx,_,_,Z,hx1,T.aI,T.tL,Z,y,dy,_,Z,hy,Z,x,_,dx,_,_,Z,hx1,T.aI,T.cr,Z,_,Z,_,.of hb1,λp2 H2 g2=>?_⟩;rw[ec]at g2;exact⟨y,p2,W,_,Z,wy1.mono g2.sm,g2.lst,lt,λq H3 g3=>fin p2 H2 q H3 g2 g3⟩
 rintro σ' H3 ⟨s3,q,nq,hq,rfl⟩;have hx3:=s3 _ _ hx1;have hb3:=s3 _ _ hb1;refine bK x _ dx _ _ Z hx3 T.aI T.cr Z ?_;refine⟨_,Z,_,.of hb3,λb' H4 g4=>?_⟩;rw[ed]at g4;refine cR x _ dx _ rfl (g4.sm _ _ hx3) T.aI T.cr (Uh (Uz 8) (by decide)) ?_;have s4:=s1.trans (s3.trans g4.sm);have ft4:=ft1.mono (s3.trans g4.sm);have hx4:=g4.sm _ _ hx3;obtain⟨H5,e5⟩:∃H5,H5=upd H4 x (d6 t dx o b' mt y g c false):=⟨_,rfl⟩;have e5':upd H4 x (.ins t.bD dx (cI "begun" (.ref b') [("tongue",.ref o),("place",.int 0),("at_page",.int g),("begun",.ref b),("many",.int (c:Int)),("met",.ref mt),("ended",.bl false),("way",.ref y)]))=H5:=by rw[e5];rfl
 rw[e5'];have hx5:H5 x=some (d6 t dx o b' mt y g c false):=by rw[e5,bc]
 have cT:∀a u,a≠x->H4 a=some u->H5 a=some u:=λa u n e=>by rw[e5,az n];exact e
 have nbx':b'≠x:=(aN hx3 g4.nw).symm;have hb5:=cT _ _ nbx' g4.at_;have hq4:=g4.sm _ _ hq;have nqx:q≠x:=bE hq4 hx4 (by intro z;cases z);have hq5:=cT _ _ nqx hq4;have s5:aj Hb H5:=λa u e=>cT a u (aN e fx) (s4 a u e);have ft5:dU H5 mt (L++[(p,c-r.length,r.length,kd)]):=⟨cT _ _ nmx ft4.1,λz hz=>cT _ _ (bE (ft4.2 z hz) hx4 (by intro z;cases z)) (ft4.2 z hz)⟩;have fr0:∀a,H1 a=none->H a=none:=λa n=>by
  cases e:H a with
  | none=>rfl
  | some u =>
   by_cases z:a=mt
   ·rw[z,ft1.1]at n;cases n
   ·rw[k1 a u z e]at n;cases n
 have nqb:q≠b':=aN hq g4.nw;have nq0:=fr0 q nq;have nb0:=fr0 b' (s3.free g4.nw);refine⟨x,_,dx,_,_,Z,hx5,T.aI,T.cr,Z,_,.inl (.of hb5),?_⟩;rw[UJ]at hq5;rw[VT]at hb5 ⊢;exact k q b' p H5 s5 nq0 nb0 nqb hx5 hb5 ft5 hq5
noncomputable def d8(o:Bool)(D:Kt)(g:Int)(c:Nat)(r:List Int):Int × List Int × List Ev:=if o=true then dg D g c r else iF D g c r
structure y9 (t:Adr) (Hb H:Hp) (x dx o b mt y:Addr) (D:Kt) (W:Wy) (g:Int) (c:Nat) (r:List Int) (L:FL) (one:Bool):Prop where
 tn:TN t Hb o D
 wy:jN t Hb y W
 sb:aj Hb H
 fx:Hb x=none
 fb:Hb b=none
 fm:Hb mt=none
 nbm:b≠mt
 hx:H x=some (d6 t dx o b mt y g c false)
 hb:H b=some (.lst (r.map V.int))
 ft:dU H mt L
 pg:bG D g
 dm:Dm D g r
 dl:Dm D g (r.drop (r.length-am D))
 lc:r.length<=c
 l1:r.length<=100
 lu:am D<=r.length
 lL:L.length<=9000
 on:one=true->r.length=am D
 mo:one=false->am D<r.length
 l8:one=false->L.length<=8999
def oo(t:Adr)(Hb H:Hp)(x dx o mt y:Addr)(D:Kt)(W:Wy)(c:Nat)(L:FL)(z:Int × List Int × List Ev)(Q:VK):Prop :=
 ∀(q b':Addr) (ps:FL) H',aj Hb H'->H q=none->Hb b'=none->b'≠mt->q≠b'->H' x=some (d6 t dx o b' mt y z.1 c false)->H' b'=some (.lst (z.2.1.map V.int))->dU H' mt (L++ps)->ps.map (λx=>x.2)=ce z.2.2->H' q=some (.lst ((dW W z.2.2).map vO))->Q (.ref q) H'
def Ap(t:Adr)(one:Bool):Sp:=λvs H Q _=>∃(Hb:Hp) (x dx o b mt y:Addr) (D:Kt) (W:Wy) (g:Int) (c:Nat) (r:List Int) (L:FL),vs=[.ref x]/\y9 t Hb H x dx o b mt y D W g c r L one/\be D g r=.no/\oo t Hb H x dx o mt y D W c L (d8 one D g c r) Q
def sV(t:Adr)(one:Bool):Sp:=λvs H Q _=>∃(Hb:Hp) (x dx o b mt y:Addr) (D:Kt) (W:Wy) (g:Int) (c:Nat) (r:List Int) (L:FL),vs=[.ref x]/\y9 t Hb H x dx o b mt y D W g c r L one/\oo t Hb H x dx o mt y D W c L (d8 one D g c r) Q
theorem Nv (T:Txt w K mg t):cF P w K mg base t.bD "meet_none" 3 t.rS t.qC ["self"] (Ap t true):=by
 have jD:=λ(T:Txt w K mg t)=>Cu (P:=P) (base:=base) T;refine⟨T.aI,T.mt_GoingReader_meet_none,T.DS,T.EZ.okQ oZ (λvs H Q E h=>by obtain⟨Hb,x,dx,o,b,mt,y,D,W,g,c,r,L,rfl,_⟩:=h;rfl) λ_ _ _ _ H vs Q E hr h=>?_⟩;obtain⟨Hb,x,dx,o,b,mt,y,D,W,g,c,r,L,rfl,M,hno,k⟩:=h;have hu:=hr.units;refine⟨_,(af (aG (i:=1) oZ.nd Z (.inl Z) (aw cD (bh (T4 K) T.n_len Ui (ab (aK (K:=K) Z (aa 0)) ad)) (cb (dz (uf T) hr (aK (K:=K) Z (aa 0))) (cb (dz (uj T) hr (aK (K:=K) Z (aa 0))) (cb (dz (ui T) hr (aK (K:=K) Z (aa 0))) (cb (dz (uh T) hr (aK (K:=K) Z (aa 0))) (dz (ug T) hr (aK (K:=K) Z (aa 0)))))))))
  (af (av (au fK (aa 1) ae (ar _)) (ag (ap (dO (jD T) hr (aa 0) (ab (aa 1) (ab aU ad))))) aA)
  (ag (ap (dO (jD T) hr (aa 0) (ab (bh (T4 K) T.n_len Ui (ab (aK (K:=K) rfl (aa 0)) ad)) (ab aU ad))))))),?_⟩
 have tn:=M.tn.mono M.sb;refine ca (λσ' H'=>H'=H/\σ'=[some (.ref x),some (.int ((r.length:Int)-(am D:Int)))]) (λnx hn=>?_) ?_
 ·refine bK x _ dx _ _ Z M.hx T.aI T.cr Z ?_;refine aY (.inl (.of M.hb)) ?_;rw[Uc];cases D with
  | br =>
   obtain⟨dxo,ho⟩:=id tn;exact .inl ⟨x,_,dx,_,_,rfl,M.hx,T.aI,T.cJ,rfl,o,dxo,_,rfl,ho,rfl,_,rfl,hn _ _ ⟨rfl,rfl⟩⟩
  | ld =>
   obtain⟨dxo,ho⟩:=id tn;exact .inr (.inl ⟨x,_,dx,_,_,rfl,M.hx,T.aI,T.cJ,rfl,o,dxo,_,rfl,ho,rfl,_,rfl,hn _ _ ⟨rfl,rfl⟩⟩)
  | pr h =>
   obtain⟨dxo,ho⟩:=id tn;exact .inr (.inr (.inl ⟨x,_,dx,_,_,rfl,M.hx,T.aI,T.cJ,rfl,o,dxo,_,rfl,ho,rfl,_,rfl,hn _ _ ⟨rfl,rfl⟩⟩))
  | sh f ns ms=>exact .inr (.inr (.inr (.inl ⟨x,_,dx,_,_,rfl,M.hx,T.aI,T.cJ,rfl,o,f.dx,_,rfl,Tg.o tn,rfl,_,rfl,hn _ _ ⟨rfl,rfl⟩⟩)))
  | tb f es=>exact .inr (.inr (.inr (.inr ⟨x,_,dx,_,_,rfl,M.hx,T.aI,T.cJ,rfl,o,f.dx,_,rfl,tn.1.o,rfl,_,rfl,hn _ _ ⟨rfl,rfl⟩⟩)))
 rintro σ' H' ⟨rfl,rfl⟩;have e:=M.on rfl;refine ah (λz=>absurd (show (r.length:Int)-(am D:Int) > 0 from of_decide_eq_true z) (by lia)) (λ_=>?_);refine cG x dx _ Z M.hx Z ?_;refine⟨x,_,dx,_,_,Z,M.hx,T.aI,T.cr,Z,_,.inl (.of M.hb),?_⟩;refine⟨Hb,x,dx,o,b,mt,y,W,g,c,r,L,_,by rw[Uc];rfl,M.wy,M.sb,M.fx,M.fb,M.fm,M.nbm,M.hx,M.hb,M.ft,M.lc,M.l1,by have:=M.lL;lia,λq b' p H1 s1 nq nb nqb hx1 hb1 ft1 hq1=>?_⟩;have ez:d8 true D g c r=(g,[],[.ft (c-r.length) r.length "strange" r]):=by
  unfold d8 dg;rw[if_pos rfl,hno]
 rw[ez]at k;exact k q b' [(p,c-r.length,r.length, "strange")] H1 s1 nq (M.sb.free nb) (aN M.ft.1 nb).symm nqb hx1 hb1 ft1 rfl (by rw[show dW W [.ft (c-r.length) r.length "strange" r]=oB W r++[] from rfl,UC];exact hq1)
theorem qf (T:Txt w K mg t):cF P w K mg base t.bD "look_at_begun" 8 t.mI t.mE ["self"] (sV t true):=by
 have h_GoingReader_meet_none:=λ(T:Txt w K mg t)=>Nv (P:=P) (base:=base) T;refine⟨T.aI,T.mt_GoingReader_look_at_begun,T.xI,T.zg.okQ m5 (λvs H Q E h=>by obtain⟨Hb,x,dx,o,b,mt,y,D,W,g,c,r,L,rfl,_⟩:=h;rfl) λ_ _ _ _ H vs Q E hr h=>?_⟩;obtain⟨Hb,x,dx,o,b,mt,y,D,W,g,c,r,L,rfl,M,k⟩:=h;have hu:=hr.units;refine⟨_,(af (aG (i:=1) m5.nd Z (.inl Z) (cb (cB (CA T) hr (aK (K:=K) Z (aa 0)) (ab (aK (K:=K) Z (aa 0)) (ab (aK (K:=K) Z (aa 0)) ad))) (cb (cB (CL T) hr (aK (K:=K) Z (aa 0)) (ab (aK (K:=K) Z (aa 0)) (ab (aK (K:=K) Z (aa 0)) ad))) (cb (cB (CK T) hr (aK (K:=K) Z (aa 0)) (ab (aK (K:=K) Z (aa 0)) (ab (aK (K:=K) Z (aa 0)) ad))) (cb (cB (CG T) hr (aK (K:=K) Z (aa 0)) (ab (aK (K:=K) Z (aa 0)) (ab (aK (K:=K) Z (aa 0)) ad))) (cB (CB T) hr (aK (K:=K) Z (aa 0)) (ab (aK (K:=K) Z (aa 0)) (ab (aK (K:=K) Z (aa 0)) ad))))))))
  (af (av (au (aX (K:=K) rfl hu) (ax (T5 K) (aa 1) ae (λ_ _=>rfl)) aU (ar _)) (ag (ap (aO ad))) aA)
  (af (av (au (aX (K:=K) rfl hu) (ax (T5 K) (aa 1) ae (λ_ _=>rfl)) aU (ar _)) (ag (ap (dz (h_GoingReader_meet_none T) hr (aa 0)))) aA)
  (af (de (K:=K) rfl (aa 0) (aO ad))
  (af (de (K:=K) rfl (aa 0) (ax (T5 K) (aa 1) ae (λ_ _=>rfl)))
  (ag (ap (aO (ab (ax (T5 K) (aa 1) ae (λ_ _=>rfl)) ad))))))))),?_⟩
 have tn:=M.tn.mono M.sb;refine ca (λσ' H'=>∃pf,aj H H'/\H' pf=some (.tup (nA g (be D g r)))/\σ'=[some (.ref x),some (.ref pf)]) (λnx hnx=>?_) ?_
 ·have fin:∃(o' q':Addr) (D':Kt) (g':Int) (r':List Int),([.ref o,.ref b,.int g]:List V)=[.ref o',.ref q',.int g']/\TN t H o' D'/\bG D' g'/\H q'=some (.lst (r'.map V.int))/\Dm D' g' r'/\∀p H',aj H H'->H' p=some (.tup (nA g' (be D' g' r')))->nx [some (.ref x),some (.ref p)] H':=⟨o,b,D,g,r,rfl,tn,M.pg,M.hb,M.dm,λp H' s' hp=>hnx _ _ ⟨p,s',hp,rfl⟩⟩;cases D with
  | br =>
   obtain⟨dxo,ho⟩:=id tn;exact .inl ⟨x,_,dx,_,_,Z,M.hx,T.aI,T.cJ,Z,o,dxo,_,Z,ho,Z,x,_,dx,_,_,Z,M.hx,T.aI,T.cr,Z,x,_,dx,_,_,Z,M.hx,T.aI,T.gf,Z,fin⟩
  | ld =>
   obtain⟨dxo,ho⟩:=id tn;exact .inr (.inl ⟨x,_,dx,_,_,Z,M.hx,T.aI,T.cJ,Z,o,dxo,_,Z,ho,Z,x,_,dx,_,_,Z,M.hx,T.aI,T.cr,Z,x,_,dx,_,_,Z,M.hx,T.aI,T.gf,Z,fin⟩)
  | pr h =>
   obtain⟨dxo,ho⟩:=id tn;exact .inr (.inr (.inl ⟨x,_,dx,_,_,Z,M.hx,T.aI,T.cJ,Z,o,dxo,_,Z,ho,Z,x,_,dx,_,_,Z,M.hx,T.aI,T.cr,Z,x,_,dx,_,_,Z,M.hx,T.aI,T.gf,Z,fin⟩))
  | sh f ns ms =>
   exact .inr (.inr (.inr (.inl ⟨x,_,dx,_,_,Z,M.hx,T.aI,T.cJ,Z,o,f.dx,_,Z,Tg.o tn,Z,x,_,dx,_,_,Z,M.hx,T.aI,T.cr,Z,x,_,dx,_,_,Z,M.hx,T.aI,T.gf,Z,fin⟩)))
  | tb f es =>
   exact .inr (.inr (.inr (.inr ⟨x,_,dx,_,_,Z,M.hx,T.aI,T.cJ,Z,o,f.dx,_,Z,tn.1.o,Z,x,_,dx,_,_,Z,M.hx,T.aI,T.cr,Z,x,_,dx,_,_,Z,M.hx,T.aI,T.gf,Z,fin⟩)))
 ·rintro σ' H1 ⟨pf,s1,hp,rfl⟩;cases e:be D g r with
  | sg n g' =>
   rw[e]at hp;have ez:d8 true D g c r=(g',[],[.sg n]):=by
    simp only [d8,dg,iF,e,ite_self]
   rw[ez]at k;refine aV (.inr (.of hp)) (aB (j:=0) Z) ?_;refine xS (aE pH) (aE iZ) ?_;refine ah (λz=>absurd (show PyData.eqv (.str "sign") (.str "more")=true from z) (by decide +kernel)) (λ_=>?_);refine aV (.inr (.of hp)) (aB (j:=0) Z) ?_;refine xS (aE pH) (aE iY) ?_;refine ah (λz=>absurd (show PyData.eqv (.str "sign") (.str "none")=true from z) (by decide +kernel)) (λ_=>?_);refine⟨sz Z,λb' H2 g2=>?_⟩;have s2:=s1.trans g2.sm;have hx2:=s2 _ _ M.hx;have hp2:=g2.sm _ _ hp;have nb:H b'=none:=s1.free g2.nw;have npx:pf≠x:=bE hp2 hx2 (by intro z;cases z);have nbx:b'≠x:=(aN M.hx nb).symm;refine cR x _ dx _ rfl hx2 T.aI T.cr (Uh (Uz 8) (by decide)) ?_;refine aV (.inr (.of (by rw[az npx];exact hp2))) (aB (j:=2) Z) ?_;refine cR x _ dx _ rfl bc T.aI T.gf (Uh (Uz 8) (by decide)) ?_;refine aV (.inr (.of (by rw[az npx,az npx];exact hp2))) (aB (j:=1) Z) ?_;refine⟨sz Z,λq H3 g3=>?_⟩;have kp:Kp x H H3:=Kp.trans (Kp.trans (Kp.of s2) (Kp.trans Kp.upd Kp.upd)) (Kp.of g3.sm);have nq:H q=none:=Kp.free (x:=x) (Kp.trans (Kp.of s2) (Kp.trans Kp.upd Kp.upd)) bc g3.nw;have hb3:=g3.sm b' _ (by rw[az nbx,az nbx];exact g2.at_);refine k q b' [] H3 (λa u e=>kp _ _ (aN e M.fx) (M.sb _ _ e)) nq (M.sb.free nb) (aN M.ft.1 nb).symm (aN (by rw[az nbx,az nbx];exact g2.at_) g3.nw).symm (g3.sm x _ (by rw[bc];rfl)) hb3 ?_ rfl g3.at_;rw[UC];exact⟨kp _ _ (bE M.ft.1 M.hx (by intro z;cases z)) M.ft.1,λz hz=>kp _ _ (bE (M.ft.2 z hz) M.hx (by intro z;cases z)) (M.ft.2 z hz)⟩
  | mo =>
   rw[e]at hp;have ez:d8 true D g c r=(g,r,[]):=by
    simp only [d8,dg,iF,e,ite_self]
   rw[ez]at k;refine aV (.inr (.of hp)) (aB (j:=0) Z) ?_;refine xS (aE iZ) (aE iZ) ?_;refine ah (λ_=>?_) (λz=>absurd (show PyData.eqv (.str "more") (.str "more")=true by decide +kernel) z);refine⟨sz Z,λq H2 g2=>?_⟩;have s2:=s1.trans g2.sm;have nq:=s1.free g2.nw;exact k q b [] H2 (M.sb.trans s2) nq M.fb M.nbm (aN M.hb nq).symm (s2 _ _ M.hx) (s2 _ _ M.hb) (by rw[UC];exact M.ft.mono s2) Z g2.at_
  | no =>
   rw[e]at hp;refine aV (.inr (.of hp)) (aB (j:=0) Z) ?_;refine xS (aE iY) (aE iZ) ?_;refine ah (λz=>absurd (show PyData.eqv (.str "none") (.str "more")=true from z) (by decide +kernel)) (λ_=>?_);refine aV (.inr (.of hp)) (aB (j:=0) Z) ?_;refine xS (aE iY) (aE iY) ?_;refine ah (λ_=>?_) (λz=>absurd (show PyData.eqv (.str "none") (.str "none")=true by decide +kernel) z);refine⟨x,dx,_,rfl,s1 _ _ M.hx,rfl,Hb,x,dx,o,b,mt,y,D,W,g,c,r,L,rfl,{ M with sb:=M.sb.trans s1,hx:=s1 _ _ M.hx,hb:=s1 _ _ M.hb,ft:=M.ft.mono s1 },e,λq b' ps H' a1 a2=>k q b' ps H' a1 (s1.free a2)⟩
def GL(t:Adr):Sp:=λvs H Q _=>∃(Hb:Hp) (x dx o b mt y:Addr) (D:Kt) (W:Wy) (g:Int) (c:Nat) (r:List Int) (L:FL),vs=[.ref x,.int ((r.length-am D:Nat):Int),.str "broken"]/\y9 t Hb H x dx o b mt y D W g c r L false/\be D g r=.no/\oo t Hb H x dx o mt y D W c L (d8 false D g c r) Q
theorem Nw (T:Txt w K mg t):cF P w K mg base t.bD "meet" 9 t.r0 t.qG ["self", "length", "kind"] (GL t):=by
 have h_GoingReader_look_at_begun:=λ(T:Txt w K mg t)=>qf (P:=P) (base:=base) T;refine⟨T.aI,T.BL,T.DT,T.E2.okQ o0 (λvs H Q E h=>by obtain⟨Hb,x,dx,o,b,mt,y,D,W,g,c,r,L,rfl,_⟩:=h;rfl) λ_ _ _ _ H vs Q E hr h=>?_⟩;obtain⟨Hb,x,dx,o,b,mt,y,D,W,g,c,r,L,rfl,M,hno,k⟩:=h;obtain⟨tn,wy,sb,fx,fb,fm,nbm,hx,hb,ft,pg,dm,dl,lc,l1,lu,lL9,_,mo,l8⟩:=id M;have l8:=l8 rfl;have lL:L.length<=10000:=by lia
 have lm:=mo rfl;obtain⟨kd,ekd⟩:∃kd:Str,kd = "broken":=⟨_,rfl⟩;rw[<- ekd];refine⟨_,(af (df (dO (CM T) hr (aa 0) (ab (aa 1) (ab (aa 2) ad))))
  (af (aG (i:=3) o0.nd rfl (.inl rfl) (dO (CH T) hr (aK (K:=K) rfl (aa 0)) (ab (du (T6 K) (aK (K:=K) rfl (aa 0)) eS (cA (aa 1))) ad)))
  (af (de (K:=K) rfl (aa 0) (du (T6 K) (aK (K:=K) rfl (aa 0)) (cA (aa 1)) eS))
  (ag (ap (hW (gO (K:=K) rfl (aK (K:=K) rfl (aa 0))) (aw (T2 K) (aa 3) (dz (h_GoingReader_look_at_begun T) hr (aa 0))) (aa 3))))))),?_⟩
 have nbx:b≠x:=bE hb hx (by intro z;cases z);have nmx:mt≠x:=bE ft.1 hx (by intro z;cases z);refine cG x dx _ Z hx Z ⟨x,dx,o,b,mt,y,g,c,(r.length-am D),kd,r,L,Z,hx,hb,ft,lc,lL,λp H1 k1 np ft1=>?_⟩;have hx1:=k1 _ _ nmx.symm hx;have hb1:=k1 _ _ nbm hb;have s1:aj Hb H1:=λa u e=>k1 a u (aN e fm) (sb a u e);have wy1:=wy.mono s1;dsimp only;have ec:dD (r.map V.int) none (some (((r.length-am D):Nat):Int))=(r.take (r.length-am D)).map V.int:=by rw[fz,qM]
 have ed:dD (r.map V.int) (some (((r.length-am D):Nat):Int)) none=(r.drop (r.length-am D)).map V.int:=by rw[fz];exact congrArg _ (jL r (r.length-am D))
 have lt:(r.take (r.length-am D)).length<=1000:=by rw[Ul];lia
 refine ca (λσ' H'=>aj H1 H'/\∃q,H1 q=none/\H' q=some (.lst ((oB W (r.take (r.length-am D))).map vO))/\σ'=[some (.ref x),some (.int (((r.length-am D):Nat):Int)),some (.str kd),some (.ref q)]) (λnx hn=>?_) ?_
 ·have fin:∀p2 H2 q H3,bi H1 p2 (.lst ((r.take (r.length-am D)).map V.int)) H2->bi H2 q (.lst ((oB W (r.take (r.length-am D))).map vO)) H3->nx [some (.ref x),some (.int (((r.length-am D):Nat):Int)),some (.str kd),some (.ref q)] H3:=λp2 H2 q H3 g2 g3=>hn _ _ ⟨g2.sm.trans g3.sm,q,g2.sm.free g3.nw,g3.at_,rfl⟩;obtain⟨dy,hy⟩:=id wy1;refine⟨x,_,dx,_,_,Z,hx1,T.aI,T.tL,Z,y,dy,_,Z,hy,Z,x,_,dx,_,_,Z,hx1,T.aI,T.cr,Z,_,Z,_,.of hb1,λp2 H2 g2=>?_⟩;rw[ec]at g2;exact⟨y,p2,W,_,Z,wy1.mono g2.sm,g2.lst,lt,λq H3 g3=>fin p2 H2 q H3 g2 g3⟩
 rintro σ' H3 ⟨s3,q,nq,hq,rfl⟩;have hx3:=s3 _ _ hx1;have hb3:=s3 _ _ hb1;refine bK x _ dx _ _ Z hx3 T.aI T.cr Z ?_;refine⟨_,Z,_,.of hb3,λb' H4 g4=>?_⟩;rw[ed]at g4;refine cR x _ dx _ rfl (g4.sm _ _ hx3) T.aI T.cr (Uh (Uz 8) (by decide)) ?_;have s4:=s1.trans (s3.trans g4.sm);have ft4:=ft1.mono (s3.trans g4.sm);have hx4:=g4.sm _ _ hx3;obtain⟨H5,e5⟩:∃H5,H5=upd H4 x (d6 t dx o b' mt y g c false):=⟨_,rfl⟩;have e5':upd H4 x (.ins t.bD dx (cI "begun" (.ref b') [("tongue",.ref o),("place",.int 0),("at_page",.int g),("begun",.ref b),("many",.int (c:Int)),("met",.ref mt),("ended",.bl false),("way",.ref y)]))=H5:=by rw[e5];rfl
 rw[e5'];have hx5:H5 x=some (d6 t dx o b' mt y g c false):=by rw[e5,bc]
 have cT:∀a u,a≠x->H4 a=some u->H5 a=some u:=λa u n e=>by rw[e5,az n];exact e
 have nbx':b'≠x:=(aN hx3 g4.nw).symm;have hb5:=cT _ _ nbx' g4.at_;have hq4:=g4.sm _ _ hq;have nqx:q≠x:=bE hq4 hx4 (by intro z;cases z);have hq5:=cT _ _ nqx hq4;have s5:aj Hb H5:=λa u e=>cT a u (aN e fx) (s4 a u e);have ft5:dU H5 mt (L++[(p,c-r.length,(r.length-am D),kd)]):=⟨cT _ _ nmx ft4.1,λz hz=>cT _ _ (bE (ft4.2 z hz) hx4 (by intro z;cases z)) (ft4.2 z hz)⟩;have fr0:∀a,H1 a=none->H a=none:=λa n=>by
  cases e:H a with
  | none=>rfl
  | some u =>
   by_cases z:a=mt
   ·rw[z,ft1.1]at n;cases n
   ·rw[k1 a u z e]at n;cases n
 have nqb:q≠b':=aN hq g4.nw;have nq0:=fr0 q nq;have nb0:=fr0 b' (s3.free g4.nw);refine⟨x,_,dx,_,_,Z,hx5,T.aI,T.cr,Z,_,.inl (.of hb5),?_⟩;have u1:1<=am D/\am D<=2:=by cases D<;>simp[am]
 have ldr:(r.drop (r.length-am D)).length=am D:=by rw[U5];lia
 have cne:((r.drop (r.length-am D)).map V.int).isEmpty=false:=by
  cases e:r.drop (r.length-am D) with
  | nil=>rw[e]at ldr;simp at ldr;lia
  | cons a as=>rfl
 refine ah (λ_=>?_) (λz=>absurd (show (!((r.drop (r.length-am D)).map V.int).isEmpty)=true by rw[cne];rfl) z);have fb':Hb b'=none:=sb.free nb0;have nbm':b'≠mt:=(aN ft.1 nb0).symm;have ez:d8 false D g c r=((dg D g c (r.drop (r.length-am D))).1,(dg D g c (r.drop (r.length-am D))).2.1,.ft (c-r.length) (r.length-am D) "broken" (r.take (r.length-am D))::(dg D g c (r.drop (r.length-am D))).2.2):=by
  unfold d8 iF;rw[if_neg (by decide),hno]
 rw[ez]at k;have dd:(r.drop (r.length-am D)).drop ((r.drop (r.length-am D)).length-am D)=r.drop (r.length-am D):=by rw[ldr,V7,VS]
 have sw:aj Hb (wo H5 [x,b',mt]):=oF s5 fx fb' fm;have nqm:q≠mt:=(aN ft.1 nq0).symm;have wq:=mQ nqx nqb nqm hq5;have kp5:∀a u,a≠x->a≠mt->H a=some u->H5 a=some u:=λa u n1 n2 e=>cT _ _ n1 (g4.sm _ _ (s3 _ _ (k1 _ _ n2 e)));refine cG x dx _ rfl hx5 rfl ⟨wo H5 [x,b',mt],x,dx,o,b',mt,y,D,W,g,c,r.drop (r.length-am D),L++[(p,c-r.length,r.length-am D,kd)],rfl,⟨tn.mono sw,wy.mono sw,oG,gx (by simp),gx (by simp),gx (by simp),nbm',hx5,hb5,ft5,pg,dl,by rw[dd];exact dl,by lia,by lia,by lia,by rw[Ud];show _+1<=9000;lia,(λ_=>ldr),(λz=>nomatch z),(λz=>nomatch z)⟩,λq2 b2 ps H6 s6 nq2 fb2 nbm2 nqb2 hx6 hb6 ft6 eps hq6=>?_⟩;have ezO:d8 true D g c (r.drop (r.length-am D))=dg D g c (r.drop (r.length-am D)):=if_pos rfl;rw[ezO]at hx6 hb6 eps hq6;have hqq:=s6 _ _ wq;have bt:(dg D g c (r.drop (r.length-am D))).2.2.length<=1:=by
  unfold dg
  split<;>simp
 have tlB_len:∀bs:List Int,(oB W bs).length<=bs.length+1:=λbs=>Nat.le_add_left _ _;have tl6:(dW W (dg D g c (r.drop (r.length-am D))).2.2).length<=200:=by
  unfold dg
  split
  ·show 1<=200;decide
  ·show 0<=200;decide
  ·show (oB W (r.drop (r.length-am D))++[]).length<=200;rw[UC];have:=tlB_len (r.drop (r.length-am D))
   lia
 have tl5:=tlB_len (r.take (r.length-am D));rw[Ul]at tl5;refine fe (.of hqq) (.of hq6) (ci (by rw[Uc,Uc];lia)) (λq3 H7 g7=>?_);rw[<- Up]at g7;have nq3:H q3=none:=by
  cases e:H q3 with
  | none=>rfl
  | some u =>
   have n1:q3≠x:=(aN hx6 g7.nw).symm;have n2:q3≠mt:=(aN ft6.1 g7.nw).symm;have n3:q3≠b':=aN e nb0;have:=s6 _ _ (mQ n1 n3 n2 (kp5 _ _ n1 n2 e));rw[g7.nw]at this;cases this
 refine k q3 b2 ((p,c-r.length,r.length-am D,kd)::ps) H7 ((sw.trans s6).trans g7.sm) nq3 (sw.free fb2) nbm2 (aN hb6 g7.nw).symm (g7.sm _ _ hx6) (g7.sm _ _ hb6) ?_ ?_ g7.at_
 ·have:=ft6.mono g7.sm;rw[UN]at this;exact this
 ·rw[UM,eps,ekd]
  rfl
theorem Nu (T:Txt w K mg t):cF P w K mg base t.bD "meet_none" 10 t.rS t.qC ["self"] (Ap t false):=by
 have jD:=λ(T:Txt w K mg t)=>Nw (P:=P) (base:=base) T;refine⟨T.aI,T.mt_GoingReader_meet_none,T.DS,T.EZ.okQ oZ (λvs H Q E h=>by obtain⟨Hb,x,dx,o,b,mt,y,D,W,g,c,r,L,rfl,_⟩:=h;rfl) λ_ _ _ _ H vs Q E hr h=>?_⟩;obtain⟨Hb,x,dx,o,b,mt,y,D,W,g,c,r,L,rfl,M,hno,k⟩:=h;have hu:=hr.units;refine⟨_,(af (aG (i:=1) oZ.nd Z (.inl Z) (aw cD (bh (T4 K) T.n_len Ui (ab (aK (K:=K) Z (aa 0)) ad)) (cb (dz (uf T) hr (aK (K:=K) Z (aa 0))) (cb (dz (uj T) hr (aK (K:=K) Z (aa 0))) (cb (dz (ui T) hr (aK (K:=K) Z (aa 0))) (cb (dz (uh T) hr (aK (K:=K) Z (aa 0))) (dz (ug T) hr (aK (K:=K) Z (aa 0)))))))))
  (af (av (au fK (aa 1) ae (ar _)) (ag (ap (dO (jD T) hr (aa 0) (ab (aa 1) (ab aU ad))))) aA)
  (ag (ap (dO (jD T) hr (aa 0) (ab (bh (T4 K) T.n_len Ui (ab (aK (K:=K) rfl (aa 0)) ad)) (ab aU ad))))))),?_⟩
 have tn:=M.tn.mono M.sb;refine ca (λσ' H'=>H'=H/\σ'=[some (.ref x),some (.int ((r.length:Int)-(am D:Int)))]) (λnx hn=>?_) ?_
 ·refine bK x _ dx _ _ Z M.hx T.aI T.cr Z ?_;refine aY (.inl (.of M.hb)) ?_;rw[Uc];cases D with
  | br =>
   obtain⟨dxo,ho⟩:=id tn;exact .inl ⟨x,_,dx,_,_,rfl,M.hx,T.aI,T.cJ,rfl,o,dxo,_,rfl,ho,rfl,_,rfl,hn _ _ ⟨rfl,rfl⟩⟩
  | ld =>
   obtain⟨dxo,ho⟩:=id tn;exact .inr (.inl ⟨x,_,dx,_,_,rfl,M.hx,T.aI,T.cJ,rfl,o,dxo,_,rfl,ho,rfl,_,rfl,hn _ _ ⟨rfl,rfl⟩⟩)
  | pr h =>
   obtain⟨dxo,ho⟩:=id tn;exact .inr (.inr (.inl ⟨x,_,dx,_,_,rfl,M.hx,T.aI,T.cJ,rfl,o,dxo,_,rfl,ho,rfl,_,rfl,hn _ _ ⟨rfl,rfl⟩⟩))
  | sh f ns ms=>exact .inr (.inr (.inr (.inl ⟨x,_,dx,_,_,rfl,M.hx,T.aI,T.cJ,rfl,o,f.dx,_,rfl,Tg.o tn,rfl,_,rfl,hn _ _ ⟨rfl,rfl⟩⟩)))
  | tb f es=>exact .inr (.inr (.inr (.inr ⟨x,_,dx,_,_,rfl,M.hx,T.aI,T.cJ,rfl,o,f.dx,_,rfl,tn.1.o,rfl,_,rfl,hn _ _ ⟨rfl,rfl⟩⟩)))
 rintro σ' H' ⟨rfl,rfl⟩;have e:=M.mo rfl;refine ah (λ_=>?_) (λz=>absurd (decide_eq_true (show (r.length:Int)-(am D:Int) > 0 by lia)) z);have ec:(r.length:Int)-(am D:Int)=((r.length-am D:Nat):Int):=by lia
 rw[ec];refine⟨x,dx,_,Z,M.hx,Z,Hb,x,dx,o,b,mt,y,D,W,g,c,r,L,Z,M,hno,k⟩
theorem Nz (T:Txt w K mg t):cF P w K mg base t.bD "look_at_begun" 11 t.mI t.mE ["self"] (sV t false):=by
 have h_GoingReader_meet_none:=λ(T:Txt w K mg t)=>Nu (P:=P) (base:=base) T;refine⟨T.aI,T.mt_GoingReader_look_at_begun,T.xI,T.zg.okQ m5 (λvs H Q E h=>by obtain⟨Hb,x,dx,o,b,mt,y,D,W,g,c,r,L,rfl,_⟩:=h;rfl) λ_ _ _ _ H vs Q E hr h=>?_⟩;obtain⟨Hb,x,dx,o,b,mt,y,D,W,g,c,r,L,rfl,M,k⟩:=h;have hu:=hr.units;refine⟨_,(af (aG (i:=1) m5.nd Z (.inl Z) (cb (cB (CA T) hr (aK (K:=K) Z (aa 0)) (ab (aK (K:=K) Z (aa 0)) (ab (aK (K:=K) Z (aa 0)) ad))) (cb (cB (CL T) hr (aK (K:=K) Z (aa 0)) (ab (aK (K:=K) Z (aa 0)) (ab (aK (K:=K) Z (aa 0)) ad))) (cb (cB (CK T) hr (aK (K:=K) Z (aa 0)) (ab (aK (K:=K) Z (aa 0)) (ab (aK (K:=K) Z (aa 0)) ad))) (cb (cB (CG T) hr (aK (K:=K) Z (aa 0)) (ab (aK (K:=K) Z (aa 0)) (ab (aK (K:=K) Z (aa 0)) ad))) (cB (CB T) hr (aK (K:=K) Z (aa 0)) (ab (aK (K:=K) Z (aa 0)) (ab (aK (K:=K) Z (aa 0)) ad))))))))
  (af (av (au (aX (K:=K) rfl hu) (ax (T5 K) (aa 1) ae (λ_ _=>rfl)) aU (ar _)) (ag (ap (aO ad))) aA)
  (af (av (au (aX (K:=K) rfl hu) (ax (T5 K) (aa 1) ae (λ_ _=>rfl)) aU (ar _)) (ag (ap (dz (h_GoingReader_meet_none T) hr (aa 0)))) aA)
  (af (de (K:=K) rfl (aa 0) (aO ad))
  (af (de (K:=K) rfl (aa 0) (ax (T5 K) (aa 1) ae (λ_ _=>rfl)))
  (ag (ap (aO (ab (ax (T5 K) (aa 1) ae (λ_ _=>rfl)) ad))))))))),?_⟩
 have tn:=M.tn.mono M.sb;refine ca (λσ' H'=>∃pf,aj H H'/\H' pf=some (.tup (nA g (be D g r)))/\σ'=[some (.ref x),some (.ref pf)]) (λnx hnx=>?_) ?_
 ·have fin:∃(o' q':Addr) (D':Kt) (g':Int) (r':List Int),([.ref o,.ref b,.int g]:List V)=[.ref o',.ref q',.int g']/\TN t H o' D'/\bG D' g'/\H q'=some (.lst (r'.map V.int))/\Dm D' g' r'/\∀p H',aj H H'->H' p=some (.tup (nA g' (be D' g' r')))->nx [some (.ref x),some (.ref p)] H':=⟨o,b,D,g,r,rfl,tn,M.pg,M.hb,M.dm,λp H' s' hp=>hnx _ _ ⟨p,s',hp,rfl⟩⟩;cases D with
  | br =>
   obtain⟨dxo,ho⟩:=id tn;exact .inl ⟨x,_,dx,_,_,Z,M.hx,T.aI,T.cJ,Z,o,dxo,_,Z,ho,Z,x,_,dx,_,_,Z,M.hx,T.aI,T.cr,Z,x,_,dx,_,_,Z,M.hx,T.aI,T.gf,Z,fin⟩
  | ld =>
   obtain⟨dxo,ho⟩:=id tn;exact .inr (.inl ⟨x,_,dx,_,_,Z,M.hx,T.aI,T.cJ,Z,o,dxo,_,Z,ho,Z,x,_,dx,_,_,Z,M.hx,T.aI,T.cr,Z,x,_,dx,_,_,Z,M.hx,T.aI,T.gf,Z,fin⟩)
  | pr h =>
   obtain⟨dxo,ho⟩:=id tn;exact .inr (.inr (.inl ⟨x,_,dx,_,_,Z,M.hx,T.aI,T.cJ,Z,o,dxo,_,Z,ho,Z,x,_,dx,_,_,Z,M.hx,T.aI,T.cr,Z,x,_,dx,_,_,Z,M.hx,T.aI,T.gf,Z,fin⟩))
  | sh f ns ms =>
   exact .inr (.inr (.inr (.inl ⟨x,_,dx,_,_,Z,M.hx,T.aI,T.cJ,Z,o,f.dx,_,Z,Tg.o tn,Z,x,_,dx,_,_,Z,M.hx,T.aI,T.cr,Z,x,_,dx,_,_,Z,M.hx,T.aI,T.gf,Z,fin⟩)))
  | tb f es =>
   exact .inr (.inr (.inr (.inr ⟨x,_,dx,_,_,Z,M.hx,T.aI,T.cJ,Z,o,f.dx,_,Z,tn.1.o,Z,x,_,dx,_,_,Z,M.hx,T.aI,T.cr,Z,x,_,dx,_,_,Z,M.hx,T.aI,T.gf,Z,fin⟩)))
 ·rintro σ' H1 ⟨pf,s1,hp,rfl⟩;cases e:be D g r with
  | sg n g' =>
   rw[e]at hp;have ez:d8 false D g c r=(g',[],[.sg n]):=by
    simp only [d8,dg,iF,e,ite_self]
   rw[ez]at k;refine aV (.inr (.of hp)) (aB (j:=0) Z) ?_;refine xS (aE pH) (aE iZ) ?_;refine ah (λz=>absurd (show PyData.eqv (.str "sign") (.str "more")=true from z) (by decide +kernel)) (λ_=>?_);refine aV (.inr (.of hp)) (aB (j:=0) Z) ?_;refine xS (aE pH) (aE iY) ?_;refine ah (λz=>absurd (show PyData.eqv (.str "sign") (.str "none")=true from z) (by decide +kernel)) (λ_=>?_);refine⟨sz Z,λb' H2 g2=>?_⟩;have s2:=s1.trans g2.sm;have hx2:=s2 _ _ M.hx;have hp2:=g2.sm _ _ hp;have nb:H b'=none:=s1.free g2.nw;have npx:pf≠x:=bE hp2 hx2 (by intro z;cases z);have nbx:b'≠x:=(aN M.hx nb).symm;refine cR x _ dx _ rfl hx2 T.aI T.cr (Uh (Uz 8) (by decide)) ?_;refine aV (.inr (.of (by rw[az npx];exact hp2))) (aB (j:=2) Z) ?_;refine cR x _ dx _ rfl bc T.aI T.gf (Uh (Uz 8) (by decide)) ?_;refine aV (.inr (.of (by rw[az npx,az npx];exact hp2))) (aB (j:=1) Z) ?_;refine⟨sz Z,λq H3 g3=>?_⟩;have kp:Kp x H H3:=Kp.trans (Kp.trans (Kp.of s2) (Kp.trans Kp.upd Kp.upd)) (Kp.of g3.sm);have nq:H q=none:=Kp.free (x:=x) (Kp.trans (Kp.of s2) (Kp.trans Kp.upd Kp.upd)) bc g3.nw;have hb3:=g3.sm b' _ (by rw[az nbx,az nbx];exact g2.at_);refine k q b' [] H3 (λa u e=>kp _ _ (aN e M.fx) (M.sb _ _ e)) nq (M.sb.free nb) (aN M.ft.1 nb).symm (aN (by rw[az nbx,az nbx];exact g2.at_) g3.nw).symm (g3.sm x _ (by rw[bc];rfl)) hb3 ?_ rfl g3.at_;rw[UC];exact⟨kp _ _ (bE M.ft.1 M.hx (by intro z;cases z)) M.ft.1,λz hz=>kp _ _ (bE (M.ft.2 z hz) M.hx (by intro z;cases z)) (M.ft.2 z hz)⟩
  | mo =>
   rw[e]at hp;have ez:d8 false D g c r=(g,r,[]):=by
    simp only [d8,dg,iF,e,ite_self]
   rw[ez]at k;refine aV (.inr (.of hp)) (aB (j:=0) Z) ?_;refine xS (aE iZ) (aE iZ) ?_;refine ah (λ_=>?_) (λz=>absurd (show PyData.eqv (.str "more") (.str "more")=true by decide +kernel) z);refine⟨sz Z,λq H2 g2=>?_⟩;have s2:=s1.trans g2.sm;have nq:=s1.free g2.nw;exact k q b [] H2 (M.sb.trans s2) nq M.fb M.nbm (aN M.hb nq).symm (s2 _ _ M.hx) (s2 _ _ M.hb) (by rw[UC];exact M.ft.mono s2) Z g2.at_
  | no =>
   rw[e]at hp;refine aV (.inr (.of hp)) (aB (j:=0) Z) ?_;refine xS (aE iY) (aE iZ) ?_;refine ah (λz=>absurd (show PyData.eqv (.str "none") (.str "more")=true from z) (by decide +kernel)) (λ_=>?_);refine aV (.inr (.of hp)) (aB (j:=0) Z) ?_;refine xS (aE iY) (aE iY) ?_;refine ah (λ_=>?_) (λz=>absurd (show PyData.eqv (.str "none") (.str "none")=true by decide +kernel) z);refine⟨x,dx,_,rfl,s1 _ _ M.hx,rfl,Hb,x,dx,o,b,mt,y,D,W,g,c,r,L,rfl,{ M with sb:=M.sb.trans s1,hx:=s1 _ _ M.hx,hb:=s1 _ _ M.hb,ft:=M.ft.mono s1 },e,λq b' ps H' a1 a2=>k q b' ps H' a1 (s1.free a2)⟩
structure zb (t:Adr) (Hb H:Hp) (x dx o b mt y:Addr) (D:Kt) (W:Wy) (g:Int) (c:Nat) (r:List Int) (L:FL):Prop where
 tn:TN t Hb o D
 wy:jN t Hb y W
 sb:aj Hb H
 fx:Hb x=none
 fb:Hb b=none
 fm:Hb mt=none
 nbm:b≠mt
 hx:H x=some (d6 t dx o b mt y g c false)
 hb:H b=some (.lst (r.map V.int))
 ft:dU H mt L
 pg:bG D g
 bg:cq D g r
 lc:r.length<=c
def Go(t:Adr):Sp:=λvs H Q _=>∃(Hb:Hp) (x dx o b mt y:Addr) (D:Kt) (W:Wy) (g:Int) (c:Nat) (r:List Int) (L:FL) (v:Int),vs=[.ref x,.int v]/\zb t Hb H x dx o b mt y D W g c r L/\0<=v/\v<=255/\L.length<=8999/\oo t Hb H x dx o mt y D W (c+1) L (bM D g r (c+1) v) Q
theorem N2 (T:Txt w K mg t):cF P w K mg base t.bD "take" 12 t.yL t.vL ["self", "byte"] (Go t):=by
 refine⟨T.aI,T.mt_GoingReader_take,T.RV,T.SM.okQ HW (λvs H Q E h=>by obtain⟨Hb,x,dx,o,b,mt,y,D,W,g,c,r,L,v,rfl,_⟩:=h;rfl) λ_ _ _ _ H vs Q E hr h=>?_⟩;obtain⟨Hb,x,dx,o,b,mt,y,D,W,g,c,r,L,v,rfl,⟨tn,wy,sb,fx,fb,fm,nbm,hx,hb,ft,pg,bg,lc⟩,v0,v1,lL,k⟩:=h;have hu:=hr.units;have l6:=(bg.byts pg).2;have ln:(r++[v]).length=r.length+1:=by rw[Ud];rfl
 have nbx:b≠x:=bE hb hx (by intro z;cases z);obtain⟨one,oneT,oneF⟩:∃one:Bool,(one=true->(r++[v]).length=am D)/\(one=false->¬(r++[v]).length=am D):=⟨decide ((r++[v]).length=am D),of_decide_eq_true,of_decide_eq_false⟩;have h_GoingReader_look_at_begun:Txt w K mg t->cF P w K mg base t.bD "look_at_begun" 11 t.mI t.mE ["self"] (sV t one):=λT=>by
  cases one with
  | true=>exact⟨T.aI,(qf (P:=P) (base:=base) T).mt,(qf (P:=P) (base:=base) T).b,(qf T).ok.mono (by decide)⟩
  | false=>exact Nz T
 refine⟨_,(af (df (d7 (K:=K) Z UH UZ U0 gR (aK (K:=K) Z (aa 0)) (ab (aa 1) ad)))
  (af (Jf (K:=K) rfl (aa 0) ae)
  (af (av (au (ie (K:=K) rfl hu) (aw qj (bh (T4 K) T.n_len Ui (ab (aK (K:=K) rfl (aa 0)) ad)) (cb (dz (uf T) hr (aK (K:=K) rfl (aa 0))) (cb (dz (uj T) hr (aK (K:=K) rfl (aa 0))) (cb (dz (ui T) hr (aK (K:=K) rfl (aa 0))) (cb (dz (uh T) hr (aK (K:=K) rfl (aa 0))) (dz (ug T) hr (aK (K:=K) rfl (aa 0)))))))) ae (ar _)) (ag (ap (aO ad))) aA)
  (ag (ap (dz (h_GoingReader_look_at_begun T) hr (aa 0))))))),?_⟩
 refine bK x _ dx _ _ Z hx T.aI T.cr Z ?_;refine⟨.inl ⟨rfl,_,.of hb⟩,?_⟩;refine dq hb (eQ (by rw[Uc];lia)) ?_;obtain⟨H1,e1⟩:∃H1,H1=upd H b (.lst (r.map V.int++[.int v])):=⟨_,rfl⟩;rw[<- e1];have hb1:H1 b=some (.lst ((r++[v]).map V.int)):=by rw[e1,bc,Up];rfl
 have hx1:H1 x=some (d6 t dx o b mt y g c false):=by rw[e1,az nbx.symm];exact hx
 refine⟨x,_,dx,_,_,rfl,hx1,T.aI,T.tN,rfl,_,_,rfl,rfl,dx,_,hx1,Uh (Uz 8) (by decide),?_⟩;obtain⟨H2,e2⟩:∃H2,H2=upd H1 x (d6 t dx o b mt y g (c+1) false):=⟨_,rfl⟩;have e2':upd H1 x (.ins t.bD dx (cI "many" (.int ((c:Int)+1)) [("tongue",.ref o),("place",.int 0),("at_page",.int g),("begun",.ref b),("many",.int (c:Int)),("met",.ref mt),("ended",.bl false),("way",.ref y)]))=H2:=by rw[e2];rfl
 rw[e2'];have hx2:H2 x=some (d6 t dx o b mt y g (c+1) false):=by rw[e2];exact bc
 have hb2:H2 b=some (.lst ((r++[v]).map V.int)):=by rw[e2,az nbx];exact hb1
 have sb2:aj Hb H2:=by rw[e2,e1];exact (sb.put fb).put fx
 have k2:∀a u,a≠x->a≠b->H a=some u->H2 a=some u:=λa u na nb e=>by rw[e2,az na,e1,az nb];exact e
 have ft2:dU H2 mt L:=ft.keep k2 hx hb nbm.symm;have tn2:=tn.mono sb2;have nq2:∀q,H2 q=none->H q=none:=λq nq=>by
  cases e:H q with
  | none=>rfl
  | some u =>
   have:=k2 q u (λz=>by rw[z,hx2]at nq;cases nq) (λz=>by rw[z,hb2]at nq;cases nq) e;rw[nq]at this;cases this
 dsimp only;refine ca (λσ' H'=>H'=H2/\(r++[v]).length%am D=0/\σ'=[some (.ref x),some (.int v)]) (λnx hnx=>?_) ?_
 ·have out:¬(r++[v]).length%am D=0->∀q H3,bi H2 q (.lst []) H3->Q (.ref q) H3:=λnev q H3 g3=>by
   have ez:bM D g r (c+1) v=(g,r++[v],[]):=by unfold bM;rw[if_neg nev]
   rw[ez]at k;have nq:=nq2 q g3.nw;exact k q b [] H3 (sb2.trans g3.sm) nq fb nbm (aN hb nq).symm (g3.sm _ _ hx2) (g3.sm _ _ hb2) (by rw[UC];exact ft2.mono g3.sm) Z g3.at_
  refine bK x _ dx _ _ Z hx2 T.aI T.cr Z ?_;refine aY (.inl (.of hb2)) ?_;rw[Uc];cases D with
  | br =>
   obtain⟨dxo,ho⟩:=id tn2;refine .inl ⟨x,_,dx,_,_,Z,hx2,T.aI,T.cJ,Z,o,dxo,_,Z,ho,Z,_,Z,V8,?_⟩;exact ah (λz=>absurd z (by simp)) (λ_=>hnx _ _ ⟨rfl,VM _,rfl⟩)
  | ld =>
   obtain⟨dxo,ho⟩:=id tn2;refine .inr (.inl ⟨x,_,dx,_,_,Z,hx2,T.aI,T.cJ,Z,o,dxo,_,Z,ho,Z,_,Z,V8,?_⟩);exact ah (λz=>absurd z (by simp)) (λ_=>hnx _ _ ⟨rfl,VM _,rfl⟩)
  | pr h =>
   obtain⟨dxo,ho⟩:=id tn2;refine .inr (.inr (.inl ⟨x,_,dx,_,_,rfl,hx2,T.aI,T.cJ,rfl,o,dxo,_,rfl,ho,rfl,_,rfl,(show (0:Int)<2 by decide),?_⟩));refine ah (λz=>?_) (λz=>?_)
   ·have z:(!decide ((((r++[v]).length:Nat):Int)%2=0))=true:=z;refine⟨sz Z,out (λy=>?_)⟩;have y:(r++[v]).length%2=0:=y;rw[decide_eq_true (by lia)]at z;cases z
   ·refine hnx _ _ ⟨rfl,?_,rfl⟩;have z:¬(!decide ((((r++[v]).length:Nat):Int)%2=0))=true:=z;show (r++[v]).length%2=0;rcases Nat.mod_two_eq_zero_or_one (r++[v]).length with y|y
    ·exact y
    ·exact absurd (by rw[decide_eq_false (by lia)];rfl) z
  | sh f ns ms =>
   refine .inr (.inr (.inr (.inl ⟨x,_,dx,_,_,Z,hx2,T.aI,T.cJ,Z,o,f.dx,_,Z,Tg.o tn2,Z,_,Z,V8,?_⟩)));exact ah (λz=>absurd z (by simp)) (λ_=>hnx _ _ ⟨rfl,VM _,rfl⟩)
  | tb f es =>
   refine .inr (.inr (.inr (.inr ⟨x,_,dx,_,_,Z,hx2,T.aI,T.cJ,Z,o,f.dx,_,Z,tn2.1.o,Z,_,Z,V8,?_⟩)));exact ah (λz=>absurd z (by simp)) (λ_=>hnx _ _ ⟨rfl,VM _,rfl⟩)
 rintro σ' H' ⟨rfl,ev,rfl⟩;have lu:am D<=(r++[v]).length:=by
  rcases V6 (r++[v]).length (am D) with z|z
  ·rw[WH z]at ev;lia
  ·exact z
 have ez:bM D g r (c+1) v=d8 one D g (c+1) (r++[v]):=by
  unfold bM d8;rw[if_pos ev];cases hO:one with
  | true=>rw[if_pos (oneT hO),if_pos rfl]
  | false=>rw[if_neg (oneF hO),if_neg (by decide)]
 rw[ez]at k;exact⟨x,dx,_,rfl,hx2,rfl,Hb,x,dx,o,b,mt,y,D,W,g,c+1,r++[v],L,rfl,⟨tn,wy,sb2,fx,fb,fm,nbm,hx2,hb2,ft2,pg,qK bg v0 v1,vZ bg v0 v1,by lia,by lia,lu,by lia,oneT,(λz=>by have:=oneF z;lia),λ_=>lL⟩,λq b' ps H' a1 a2=>k q b' ps H' a1 (nq2 q a2)⟩
theorem sR{D:Kt}{g n:Int}(tn:sj D)(pg:bG D g)(hn:fP D n):1<=(bS D g n).1.length:=by
 cases D with
 | ld=>exact (AY n).1
 | pr h=>show 1<=(fI h n).length;rw[JI];split<;>lia
 | sh f ns ms =>
  obtain⟨r,g',e,_,hr⟩:=Ae pg hn;rw[Ad e];rcases hr with ⟨b,rfl,_⟩|⟨c,rfl,_⟩
  ·show 1<=1;decide
  ·show 1<=2;decide
 | tb f es =>
  obtain⟨e,he,_,ef⟩:=mD hn;have es':bS (.tb f es) g n=(e.2,g):=by
   show (Option.map _ _).getD _=_;rw[ef];rfl
  rw[es'];exact (Es.sg tn e he).2.1
 | br=>exact hn.elim
def y3(D:Kt)(x:Int):Prop:=(61184<=x/\x<=61439)\/fP D x
theorem Gw{D:Kt}{g x:Int}(ok:c9 D)(pg:bG D g)(h:y3 D x):bG D (fF D g x).2/\1<=(fF D g x).1.length/\(fF D g x).1.length<=6:=by
 unfold fF;by_cases c:61184<=x/\x<=61439
 ·rw[if_pos c];exact⟨pg,by show 1<=1;decide,by show 1<=6;decide⟩
 ·rw[if_neg c];have h:=h.resolve_left c;obtain⟨r,g',_,ef,p,l⟩:=sS ok.kok pg h;have z:=sR ok.kok pg h;rw[ef]at z ⊢;exact⟨p,z,l⟩
theorem sB{D:Kt}(ok:c9 D):∀(xs:List Int) (g:Int),bG D g->(∀x∈xs,y3 D x)->bG D (bX D g xs).2/\xs.length<=(bX D g xs).1.length
 | [],g,pg,_=>⟨pg,Ue _⟩
 | x::xs,g,pg,h=>by
  have e:bX D g (x::xs)=bX D g ([x]++xs):=rfl;obtain⟨a,b,_⟩:=Gw ok pg (h x (Uv ..));obtain⟨c,d⟩:=sB ok xs _ a λy hy=>h y (Uw _ hy);rw[e,mP,sx];exact⟨c,by rw[UB,Ud];lia⟩
theorem zE{D:Kt}{es:List Ev}(h:∀e∈es,y8 D e):∀x∈eN .se es,y3 D x:=λx hx=>by
 obtain⟨e,he,hx⟩:=List.mem_flatMap.mp hx;have o:=h e he;cases e with
 | sg n=>rw[Uq.mp hx];exact .inr o
 | ft p l k bs =>
  obtain⟨b,hb,rfl⟩:=Uu.mp hx;have:=o.1 b hb;exact .inl (by lia)
theorem sL(W:Wy):∀es:List Ev,(dW W es).length<=(eN .se es).length+es.length
 | []=>Ue _
 | e::es=>by
  have ih:=sL W es;have h1:(o1 W e).length<=(sM .se e).length+1:=by
   cases e with
   | sg n=>show 1<=1+1;decide
   | ft p l k bs=>exact Nat.le_add_left _ _
  show (o1 W e++dW W es).length<=(sM .se e++eN .se es).length+(es.length+1);rw[Ud,Ud]
  lia
theorem Iv{D:Kt}(ok:c9 D)(W:Wy){bs:List Int}{g:Int}{r:List Int}(c:Nat)(pg:bG D g)(bg:cq D g r)(hb:bj bs):(dW W (run D g r c bs).2.2).length<=r.length+3*bs.length:=by
 obtain⟨_,_,h3,_,h5,h6⟩:=qg ok bs g r c pg bg hb;have a:=sL W (run D g r c bs).2.2;have b:=(sB ok _ g pg (zE h5)).2;have e:=congrArg List.length h3;rw[Ud,Ud]at e
 lia
theorem qq:∀es:List Ev,(ce es).length<=es.length
 | []=>Ue _
 | .sg n::es=>Nat.le_succ_of_le (qq es)
 | .ft p l k bs::es=>VO (qq es)
def GV(K:PySem.W.Frag)(t:Adr):Sp:=λvs H Q _=>∃(Hb:Hp) (x dx o b mt y a:Addr) (D:Kt) (W:Wy) (g:Int) (c:Nat) (r:List Int) (L:FL) (ws:List Int),vs=[.ref x,.ref a]/\zb t Hb H x dx o b mt y D W g c r L/\aF K Hb a (ws.map V.int)/\bj ws/\ws.length<=1000/\L.length<=4000/\oo t Hb H x dx o mt y D W (c+ws.length) L (run D g r c ws) Q
theorem N3 (T:Txt w K mg t):cF P w K mg base t.bD "feed" 13 t.yO t.vN ["self", "row"] (GV K t):=by
 refine⟨T.aI,T.mt_GoingReader_feed,T.RY,T.SO.okQ tm (λvs H Q E h=>by obtain⟨Hb,x,dx,o,b,mt,y,a,D,W,g,c,r,L,ws,rfl,_⟩:=h;rfl) λ_ _ _ _ H vs Q E hr h=>?_⟩;obtain⟨Hb,x,dx,o,b0,mt,y,a,D,W,g,c,r,L,ws,rfl,⟨tn,wy,sb,fx,fb0,fm,nbm0,hx,hb0,ft,pg,bg,lc⟩,ha,hws,lw,lL,k⟩:=h;have hu:=hr.units;have ok:=tn.koS;have l6:=(bg.byts pg).2;refine⟨_,(af (aG (i:=2) tm.nd Z (.inl Z) (aO ad))
  (af (av (gO (K:=K) rfl (aK (K:=K) rfl (aa 0))) (ag (ap (aa 2))) aA)
  (af (dt PassesOwn.never rfl (dI (K:=K) rfl (aa 1)) (aT (i:=3) tm.nd rfl (.inl rfl)) (af (df (d7 (K:=K) rfl UH Xa Xb (BP (K:=K) rfl) (aa 2) (ab (dO (N2 T) hr (aa 0) (ab (aa 3) ad)) ad)))
  (ag (av (gO (K:=K) rfl (aK (K:=K) rfl (aa 0))) (ag IT) aA))))
  (ag (ap (aa 2)))))),?_⟩
 refine⟨sz Z,λq H1 g1=>?_⟩;have s1:=sb.trans g1.sm;have fq:Hb q=none:=sb.free g1.nw;have hx1:=g1.sm _ _ hx;have nqm:q≠mt:=(aN ft.1 g1.nw).symm;have nqx:q≠x:=(aN hx g1.nw).symm;refine bK x _ dx _ _ Z hx1 T.aI T.nu Z ?_;refine⟨a,Z,⟨_,s1.seq ha⟩,ii (K:=K) (a:=a) (xs:=ws.map V.int) (λi σ H'=>aj Hb H'/\∃(b:Addr) (ps:FL) (v3:Option V),Hb b=none/\q≠b/\b≠mt/\H' x=some (d6 t dx o b mt y (run D g r c (ws.take i)).1 (c+i) false)/\H' b=some (.lst ((run D g r c (ws.take i)).2.1.map V.int))/\dU H' mt (L++ps)/\ps.map (λx=>x.2)=ce (run D g r c (ws.take i)).2.2/\H' q=some (.lst ((dW W (run D g r c (ws.take i)).2.2).map vO))/\σ=[some (.ref x),some (.ref a),some (.ref q),v3])
  ⟨s1,b0,[],_,fb0,(aN hb0 g1.nw).symm,nbm0,hx1,g1.sm _ _ hb0,by rw[UC];exact ft.mono g1.sm,Z,g1.at_,Z⟩ (λi σ H' _ z=>z.1.seq ha) ?_ ?_⟩
 ·rintro i v σ H3 hv ⟨s3,b,ps,v3,fb,nqb,nbm,hx3,hb3,ft3,eps,hq3,rfl⟩;obtain⟨by',hby,rfl⟩:=fk hv;have hi:i<ws.length:=(Uk.mp hby).1;have hv01:=hws by' (Ur hby)
  have htk:bj (ws.take i):=λz hz=>hws z (U8 hz);obtain⟨pg3,bg3,acc3,_,ev3,le3⟩:=qg ok (ws.take i) g r c pg bg htk;have rl:=Iv ok W (r:=r) c pg bg htk;have lti:(ws.take i).length=i:=by rw[Ul];lia
  have nxt:run D g r c (ws.take (i+1))=((bM D (run D g r c (ws.take i)).1 (run D g r c (ws.take i)).2.1 (c+i+1) by').1,(bM D (run D g r c (ws.take i)).1 (run D g r c (ws.take i)).2.1 (c+i+1) by').2.1,(run D g r c (ws.take i)).2.2++(bM D (run D g r c (ws.take i)).1 (run D g r c (ws.take i)).2.1 (c+i+1) by').2.2):=by
   rw[f9 hby,AX,lti]
  have lc3:(run D g r c (ws.take i)).2.1.length<=c+i:=by
   have:=congrArg List.length acc3;rw[Ud,Ud,lti]at this
   lia
  have lps:ps.length<=2*i:=by
   have:=congrArg List.length eps;rw[Uc]at this;have:=qq (run D g r c (ws.take i)).2.2
   lia
  obtain⟨gd1,gd2,gd3,gd4,gd5,gd6⟩:=ul (c+i+1) ok pg3 bg3 hv01.1 hv01.2;have lst4:(dW W (bM D (run D g r c (ws.take i)).1 (run D g r c (ws.take i)).2.1 (c+i+1) by').2.2).length<=20:=by
   have a1:=sL W (bM D (run D g r c (ws.take i)).1 (run D g r c (ws.take i)).2.1 (c+i+1) by').2.2;have a2:=(sB ok _ _ pg3 (zE gd5)).2;have a3:=congrArg List.length gd3;have a4:=(bg3.byts pg3).2;rw[Ud,Ud]at a3;simp at a3
   lia
  have sw:aj Hb (wo H3 [x,b,mt]):=oF s3 fx fb fm;refine⟨.inl ⟨rfl,_,.of hq3⟩,?_⟩;refine cG x dx _ rfl hx3 rfl ⟨wo H3 [x,b,mt],x,dx,o,b,mt,y,D,W,_,c+i,_,L++ps,by',rfl,⟨tn.mono sw,wy.mono sw,oG,gx (by simp),gx (by simp),gx (by simp),nbm,hx3,hb3,ft3,pg3,bg3,lc3⟩,hv01.1,hv01.2,by rw[Ud];lia,λq2 b2 ps2 H4 s4 nq2 fb2 nbm2 nqb2 hx4 hb4 ft4 eps2 hq4=>?_⟩;have hqq:=s4 _ _ (mQ nqx nqb nqm hq3);refine fe hqq hq4 (ci (by rw[Uc,Uc];lia)) ?_;have nqx':x≠q:=nqx.symm;have nqb2':b2≠q:=λz=>by
   have:=mQ (H:=H3) nqx nqb nqm hq3;rw[z]at fb2;rw[fb2]at this;cases this
  have hx5:upd H4 q (.lst ((dW W (run D g r c (ws.take i)).2.2).map vO++(dW W (bM D (run D g r c (ws.take i)).1 (run D g r c (ws.take i)).2.1 (c+i+1) by').2.2).map vO)) x=some (d6 t dx o b2 mt y (bM D (run D g r c (ws.take i)).1 (run D g r c (ws.take i)).2.1 (c+i+1) by').1 (c+i+1) false):=by rw[az nqx'];exact hx4
  refine bK x _ dx _ _ Z hx5 T.aI T.nu Z ?_;refine⟨(sw.trans s4).put fq,b2,ps++ps2,_,sw.free fb2,nqb2'.symm,nbm2,?_,?_,?_,?_,?_,Z⟩
  ·rw[nxt];exact hx5
  ·rw[nxt,az nqb2'];exact hb4
  ·rw[<- UN];exact⟨by rw[az nqm.symm];exact ft4.1,λz hz=>by rw[az (bE (ft4.2 z hz) hqq (by intro z;cases z))];exact ft4.2 z hz⟩
  ·rw[nxt,Up,eps,eps2,jG]
  ·rw[nxt,bc,zD,Up]
 ·rintro σ H3 ⟨s3,b,ps,v3,fb,nqb,nbm,hx3,hb3,ft3,eps,hq3,rfl⟩;rw[Uc,UJ]at hx3 hb3 eps hq3;exact k q b ps H3 s3 g1.nw fb nbm nqb hx3 hb3 ft3 eps hq3
def ij(c:Nat)(r:List Int):List Ev:=if r=[] then [] else [.ft (c-r.length) r.length "short" r]
def GY(t:Adr):Sp:=λvs H Q _=>∃(Hb:Hp) (x dx o b mt y:Addr) (D:Kt) (W:Wy) (g:Int) (c:Nat) (r:List Int) (L:FL),vs=[.ref x]/\zb t Hb H x dx o b mt y D W g c r L/\L.length<=9000 /\
 ∀(q b':Addr) (ps:FL) H',aj Hb H'->H q=none->H' x=some (d6 t dx o b' mt y g c true)->dU H' mt (L++ps)->ps.map (λx=>x.2)=ce (ij c r)->H' q=some (.lst ((dW W (ij c r)).map vO))->Q (.ref q) H'
theorem N5 (T:Txt w K mg t):cF P w K mg base t.bD "end" 3 t.yQ t.vQ ["self"] (GY t):=by
 have jD:=λ(T:Txt w K mg t)=>Cu (P:=P) (base:=base) T;refine⟨T.aI,T.mt_GoingReader_end,T.R0,T.SR.okQ AQ (λvs H Q E h=>by obtain⟨Hb,x,dx,o,b,mt,y,D,W,g,c,r,L,rfl,_⟩:=h;rfl) λ_ _ _ _ H vs Q E hr h=>?_⟩;obtain⟨Hb,x,dx,o,b,mt,y,D,W,g,c,r,L,rfl,M,lL,k⟩:=h;have hu:=hr.units;have l6:=(M.bg.byts M.pg).2;refine⟨_,(af (av (gO (K:=K) Z (aK (K:=K) Z (aa 0))) (ag (ap (aO ad))) aA)
  (af (aG (i:=1) AQ.nd rfl (.inl rfl) (hW (gO (K:=K) rfl (aK (K:=K) rfl (aa 0))) (dO (jD T) hr (aa 0) (ab (bh (T4 K) T.n_len Ui (ab (aK (K:=K) rfl (aa 0)) ad)) (ab aU ad))) (aO ad)))
  (af (de (K:=K) rfl (aa 0) gz)
  (ag (ap (aa 1)))))),?_⟩
 refine bK x _ dx _ _ Z M.hx T.aI T.nu Z ?_;unfold gY;dsimp only;rw[if_neg (by decide)];refine ca (λσ' H'=>aj Hb H'/\∃(q b':Addr) (ps:FL),H q=none/\H' x=some (d6 t dx o b' mt y g c false)/\dU H' mt (L++ps)/\ps.map (λx=>x.2)=ce (ij c r)/\H' q=some (.lst ((dW W (ij c r)).map vO))/\σ'=[some (.ref x),some (.ref q)]) (λnx hn=>?_) ?_
 ·refine⟨x,_,dx,_,_,Z,M.hx,T.aI,T.cr,Z,_,.inl (.of M.hb),?_⟩;cases r with
  | nil =>
   refine⟨sz Z,λq H1 g1=>?_⟩;exact hn _ _ ⟨M.sb.trans g1.sm,q,b,[],g1.nw,g1.sm _ _ M.hx,by rw[UC];exact M.ft.mono g1.sm,Z,g1.at_,Z⟩
  | cons v r =>
   refine cG x dx _ Z M.hx Z ?_;refine⟨x,_,dx,_,_,Z,M.hx,T.aI,T.cr,Z,_,.inl (.of M.hb),?_⟩;refine⟨Hb,x,dx,o,b,mt,y,W,g,c,v::r,L,_,by rw[Uc];rfl,M.wy,M.sb,M.fx,M.fb,M.fm,M.nbm,M.hx,M.hb,M.ft,M.lc,by lia,by lia,λq b' p H1 s1 nq nb nqb hx1 hb1 ft1 hq1=>?_⟩;refine hn _ _ ⟨s1,q,b',[(p,c-(v::r).length,(v::r).length, "short")],nq,hx1,ft1,Z,?_,Z⟩;rw[show dW W (ij c (v::r))=oB W (v::r)++[] from rfl,UC];exact hq1
 ·rintro σ' H1 ⟨s1,q,b',ps,nq,hx1,ft1,eps,hq1,rfl⟩;refine cR x _ dx _ rfl hx1 T.aI T.nu (Uh (Uz 8) (by decide)) ?_;have nqx:q≠x:=(aN M.hx nq).symm;refine k q b' ps _ (s1.put M.fx) nq (by rw[bc];rfl) ⟨by rw[az (bE ft1.1 hx1 (by intro z;cases z))];exact ft1.1,λz hz=>by rw[az (bE (ft1.2 z hz) hx1 (by intro z;cases z))];exact ft1.2 z hz⟩ eps (by rw[az nqx];exact hq1)
def GT(t:Adr):Sp:=λvs H Q _=>∃(x dx o b mt y:Addr) (g:Int) (c:Nat) (e:Bool) (L:FL),vs=[.ref x]/\H x=some (d6 t dx o b mt y g c e)/\dU H mt L/\∀p H',bi H p (.lst (L.map λx=>V.ref x.1)) H'->Q (.ref p) H'
theorem N4 (T:Txt w K mg t):cF P w K mg base t.bD "faults" 1 t.yP t.vP ["self"] (GT t):=by
 refine⟨T.aI,T.mt_GoingReader_faults,T.RZ,T.SQ.okQ HZ (λvs H Q E h=>by obtain⟨x,dx,o,b,mt,y,g,c,e,L,rfl,_⟩:=h;rfl) λ_ _ _ _ H vs Q E hr h=>?_⟩;obtain⟨x,dx,o,b,mt,y,g,c,e,L,rfl,hx,ft,k⟩:=h;refine⟨_,(ag (ap (cv (T7 K) T.n_list UK (ab (aK (K:=K) Z (aa 0)) ad)))),?_⟩;refine bK x _ dx _ _ Z hx T.aI T.tM Z ?_;exact⟨_,.inl (.of ft.1),k⟩
def gC(n:Int):Int:=if n<128 then 1 else if n<2048 then 2 else if n<65536 then 3 else 4
theorem Mn{n:Int}(h:Sg n)(h1:128<=n):∃(L:Nat) (v q0:Int) (bH:List Int),gC n=(L:Int)/\L≠1/\L<=4/\fG 6 L n=q0::bH/\[0,0,192,224,240][L]? = some v/\row n=(v+q0)::bH.map (λx=>128+x)/\n<2 ^ (6*L):=by
 obtain⟨h0,h2,_,_⟩:=h;have c1:¬n<128:=by lia
 by_cases c2:n<2048
 ·have e1:row n=[192+n/64,128+n%64]:=by unfold row;rw[if_neg c1,if_pos c2]
  have e2:gC n=2:=by unfold gC;rw[if_neg c1,if_pos c2]
  rw[e1,e2];refine⟨2,192,n/64%64,[n%64],rfl,by decide,by decide,by simp[fG,Vc],rfl,?_,by simp;lia⟩;have:n/64%64=n/64:=by lia
  rw[this];rfl
 by_cases c3:n<65536
 ·have e1:row n=[224+n/4096,128+n/64%64,128+n%64]:=by unfold row;rw[if_neg c1,if_neg c2,if_pos c3]
  have e2:gC n=3:=by unfold gC;rw[if_neg c1,if_neg c2,if_pos c3]
  rw[e1,e2];refine⟨3,224,n/4096%64,[n/64%64,n%64],rfl,by decide,by decide,by simp[fG,Vc],rfl,?_,by simp;lia⟩;have:n/4096%64=n/4096:=by lia
  rw[this];rfl
 have e1:row n=[240+n/262144,128+n/4096%64,128+n/64%64,128+n%64]:=by unfold row;rw[if_neg c1,if_neg c2,if_neg c3]
 have e2:gC n=4:=by unfold gC;rw[if_neg c1,if_neg c2,if_neg c3]
 rw[e1,e2];refine⟨4,240,n/262144%64,[n/4096%64,n/64%64,n%64],rfl,by decide,by decide,by simp[fG,Vc],rfl,?_,by simp;lia⟩;have:n/262144%64=n/262144:=by lia
 rw[this];rfl
def GG:Sp:=λvs H Q _=>∃(n:Int) (b m:Nat),vs=[.int n,.int (b:Int),.int (m:Int)]/\0<=n/\n<2 ^ (b*m)/\b<=1000/\m<=1000/\∀p H',bi H p (.lst ((fG b m n).map V.int)) H'->Q (.ref p) H'
theorem uc (T:Txt w K mg t):bp P w K mg base "parted" 2 t.yh t.vh ["number", "bits", "many"] GG:=by
 refine⟨T.OM,T.EE.kp,T.Rl,T.EE.okQ mZ (λvs H Q E h=>by obtain⟨n,b,m,rfl,_⟩:=h;rfl) λ_ _ _ _ H vs Q E hr h=>?_⟩;obtain⟨n,b,m,rfl,h0,h1,hb,hm,k⟩:=h;refine⟨_,(af (df (aP (Cy T) hr (ab (aa 0) (ab (aw fu (aa 1) (aa 2)) ad))))
  (af (aG (i:=3) mZ.nd rfl (.inl rfl) (aO ad))
  (af (dt PassesOwn.never rfl (mi rfl T.n_range (ab (aa 2) ad)) (aT (i:=4) mZ.nd rfl (.inl rfl)) (af (aG (i:=5) mZ.nd rfl (.inl rfl) (aw OJ (aa 0) (aa 1)))
  (af (df (d7 (K:=K) rfl UH UZ U0 gR (aa 3) (ab (aw cD (aa 0) (aw CV (aa 5) (aa 1))) ad)))
  (ag (aG (i:=0) mZ.nd rfl (.inl rfl) (aa 5))))))
  (ag (ap (Jd (K:=K) rfl rfl T.n_list T.n_reversed (ab (aa 3) ad))))))),?_⟩
 have two64:(2:Int) ^ 64=18446744073709551616:=by decide
 refine⟨Or.inl ⟨by lia,by lia⟩,?_⟩;refine⟨n,b*m,by rw[Int.natCast_mul];rfl,h0,h1,?_⟩;refine⟨sz Z,λp1 H1 g1=>?_⟩;refine sv (m:Int) rfl (by lia) (by lia) ?_;refine qr (lo:=0) (n:=((m:Nat):Int).toNat) (λi σ H'=>aj H H'/\H' p1=some (.lst (((List.range i).map λi=>n/2 ^ (b*i)%2 ^ b).map V.int))/\∃v4 v5,σ=[some (.int (n/2 ^ (b*i))),some (.int b),some (.int m),some (.ref p1),v4,v5])
  ⟨g1.sm,g1.at_,_,_,by simp;rfl⟩ ?_ ?_
 ·rintro i σ H2 hi ⟨s2,h2,v4,v5,rfl⟩;have hi':i<m:=by simpa using hi
  refine⟨by lia,?_⟩;refine⟨.inl ⟨rfl,_,.of h2⟩,?_⟩;have hq:0<=n/2 ^ (b*i)/2 ^ b/\n/2 ^ (b*i)/2 ^ b<=n:=by
   have z1:0<=n/2 ^ (b*i):=VW h0 (VB (oH _));exact⟨VW z1 (VB (oH _)),Int.le_trans (VX _ z1) (VX _ h0)⟩
  have hbits:Builtin.Int.intBits (n/2 ^ (b*i)/2 ^ b)<=b*m:=intBits_le_iff.mpr (by
   have:((n/2 ^ (b*i)/2 ^ b).natAbs:Int)<((2 ^ (b*m):Nat):Int):=by rw[WB hq.1,WC];exact Int.lt_of_le_of_lt hq.2 h1
   exact WD.mp this)
  have hbm:b*m<=1000000:=Nat.mul_le_mul hb hm;refine⟨⟨by lia,show ((Builtin.Int.intBits (n/2 ^ (b*i)/2 ^ b):Nat):Int)+(b:Int)<=2 ^ 27 by lia⟩,?_⟩;refine dq h2 (eQ (by simp;lia)) ?_;refine⟨s2.put g1.nw,?_,?_⟩
  ·rw[bc,Vc,Up,Up];have:=LK (n/2 ^ (b*i)) b;exact congrArg (λz=>some (HO.lst (_++[V.int z]))) this
  ·rw[<- PN n b i];exact⟨_,_,Z⟩
 ·rintro σ H2 ⟨s2,h2,v4,v5,rfl⟩;refine aW p1 _ Z (.of h2) (λp3 H3 g3=>?_);have e:((List.map V.int ((List.range ((m:Nat):Int).toNat).map λi=>n/2 ^ (b*i)%2 ^ b))).reverse=(fG b m n).map V.int:=by
   rw[<- List.map_reverse,Vy,JG]
  rw[e]at g3;exact k _ _ (g3.after s2)
def Gg:Sp:=λvs H Q _=>∃n,vs=[.int n]/\Sg n/\∀p H',bi H p (.lst ((cz n).map V.int)) H'->Q (.ref p) H'
theorem Nr (T:Txt w K mg t):bp P w K mg base "units_of" 3 t.yc t.va ["sign"] Gg:=by
 refine⟨T.OE,T.Ez.kp,T.Rg,T.Ez.okQ AI (λvs H Q E h=>by obtain⟨n,rfl,_⟩:=h;rfl) λ_ _ _ _ H vs Q E hr h=>?_⟩;obtain⟨n,rfl,hs,k⟩:=h;have hu:=hr.units;refine⟨_,(af (av (au cV (aa 0) (cm T.xC) (ar _)) (ag (ap (aO (ab (aa 0) ad)))) aA)
  (af (aG (i:=1) AI.nd rfl (.inl rfl) (aP (uc T) hr (ab (aw cD (aa 0) (cm T.xC)) (ab (cm T.DG) (ab ae ad)))))
  (ag (ap (aO (ab (aw (T2 K) (cm T.xD) (ax (T5 K) (aa 1) ae (λ_ _=>rfl))) (ab (aw (T2 K) (cm T.rF) (ax (T5 K) (aa 1) ae (λ_ _=>rfl))) ad))))))),?_⟩
 obtain⟨h0,h1,_,_⟩:=hs;refine ah (λe=>?_) (λe=>?_)
 ·have e2:cz n=[n]:=by unfold cz;rw[if_pos (of_decide_eq_true e)]
  rw[e2]at k;exact⟨sz Z,λp H' g=>k p H' g⟩
 have c:¬n<65536:=λz=>e (decide_eq_true z);have e2:cz n=[55296+(n-65536)/1024,56320+(n-65536)%1024]:=by unfold cz;rw[if_neg c]
 have two20:(2:Int) ^ (10*2)=1048576:=by decide
 refine⟨n-65536,10,2,rfl,by lia,by lia,by decide,by decide,λp1 H1 g1=>?_⟩;have ep:fG 10 2 (n-65536)=[(n-65536)/1024,(n-65536)%1024]:=by
  have:(n-65536)/1024%1024=(n-65536)/1024:=by lia
  simp[fG,Vc,this]
 rw[ep]at g1;refine aW _ (.int ((n-65536)/1024)) (.inl g1.lst) (aB (j:=0) Z) ?_;refine aW _ (.int ((n-65536)%1024)) (.inl g1.lst) (aB (j:=1) Z) ?_;rw[e2]at k;exact⟨sz Z,λp2 H2 g2=>k _ _ (g2.after g1.sm)⟩
def Gy(K:PySem.W.Frag)(t:Adr):Sp:=λvs H Q _=>∃(o a:Addr) (h:Bool) (us:List Int),vs=[.ref o,.ref a]/\Po t H o h/\aF K H a (us.map V.int)/\us.length<=10/\(∀u∈us,0<=u/\u<65536)/\∀p H',bi H p (.lst ((us.flatMap (ub h)).map V.int)) H'->Q (.ref p) H'
theorem NX (T:Txt w K mg t):cF P w K mg base t.cN "row_of" 3 t.yW t.vV ["self", "units"] (Gy K t):=by
 refine⟨T.gT,T.LF,T.R9,T.SZ.okQ tq (λvs H Q E h=>by obtain⟨o,a,h,us,rfl,_⟩:=h;rfl) λ_ _ _ _ H vs Q E hr h=>?_⟩;obtain⟨o,a,h,us,rfl,po,ha,hl,hb,k⟩:=h;have hu:=hr.units;refine⟨_,(af (aG (i:=2) tq.nd Z (.inl Z) (aO ad))
  (af (dt PassesOwn.never rfl (dI (K:=K) rfl (aa 1)) (aT (i:=3) tq.nd rfl (.inl rfl)) (ag (df (d7 (K:=K) rfl UH Xa Xb (BP (K:=K) rfl) (aa 2) (ab (dO (CJ T) hr (aa 0) (ab (aP (uc T) hr (ab (aa 3) (ab (cm T.DI) (ab ae ad)))) ad)) ad)))))
  (ag (ap (aa 2))))),?_⟩
 refine⟨sz Z,λp1 H1 g1=>?_⟩;refine cy a Z ⟨_,g1.sm.seq ha⟩ (ii (K:=K) (a:=a) (xs:=us.map V.int) (λi σ H'=>aj H H'/\H' p1=some (.lst (((us.take i).flatMap (ub h)).map V.int))/\∃v3,σ=[some (.ref o),some (.ref a),some (.ref p1),v3]) ⟨g1.sm,g1.at_,_,Z⟩ (λi σ H' _ z=>z.1.seq ha) ?_ ?_)
 ·rintro i x σ H2 hx ⟨s2,h2,v3,rfl⟩;obtain⟨u,hux,rfl⟩:=fk hx;have hub:=hb u (Ur hux);have hi:i<us.length:=(Uk.mp hux).1;obtain⟨dx,ho⟩:=po;have two16:(2:Int) ^ (8*2)=65536:=by decide
  refine⟨.inl ⟨rfl,_,.of h2⟩,?_⟩;refine cG o dx _ Z (s2 _ _ ho) Z ?_;refine⟨u,8,2,rfl,hub.1,by lia,by decide,by decide,λp2 H3 g3=>?_⟩;have ep:fG 8 2 u=[u/256,u%256]:=by
   have:u/256%256=u/256:=by lia
   simp[fG,Vc,this]
  rw[ep]at g3;refine⟨o,p2,h,u/256,u%256,Z,⟨dx,g3.sm _ _ (s2 _ _ ho)⟩,g3.at_,λp3 H4 s4 h4=>?_⟩;have h24:=s4 _ _ (g3.sm _ _ h2);have el:((us.take i).flatMap (ub h)).length=2*(us.take i).length:=nI h _;have el2:(us.take i).length<=10:=by rw[Ul];lia
  refine fe h24 h4 (ci (by rw[Uc,Uc,el];cases h<;>simp<;>lia)) ?_;refine⟨(s2.trans (g3.sm.trans s4)).put g1.nw,?_,_,Z⟩;rw[bc];have e:us.take (i+1)=us.take i++[u]:=by rw[VV,hux];rfl
  rw[e,V5,Up];simp[ub]
 ·rintro σ H2 ⟨s2,h2,v3,rfl⟩;rw[Uc,UJ]at h2;exact k _ _ ⟨g1.nw,s2,h2⟩
def Aj(t:Adr):Sp:=λvs H Q _=>∃(o:Addr) (h:Bool) (n:Int),vs=[.ref o,.int n,.int 0]/\Po t H o h/\Sg n/\∀p q H',H q=none->aj H H'->H' q=some (.lst ((fI h n).map V.int))->H' p=some (.tup [.ref q,.int 0])->Q (.ref p) H'
theorem KQ (T:Txt w K mg t):bA P w K mg base bR 4 t.rU t.nQ ["self", "sign", "page"] (Aj t):=by
 refine T.SY.okQ Ig (λvs H Q E h=>by obtain⟨o,h,n,rfl,_⟩:=h;rfl) λ_ _ _ _ H vs Q E hr h=>?_;obtain⟨o,h,n,rfl,po,hs,k⟩:=h;have hu:=hr.units;refine⟨_,(af (av (dN (dw (aP (jC T) hr (ab (aa 1) ad)))) (ag gN) aA)
  (ag (ap (bN (ab (dO (NX T) hr (aa 0) (ab (aP (Nr T) hr (ab (aa 1) ad)) ad)) (ab (aa 2) ad)))))),?_⟩
 refine cy (.int n) Z (.int n) ?_;refine ah (λe=>absurd ((hG n).mpr hs) (by simpa using e)) (λ_=>?_);obtain⟨dx,ho⟩:=id po;refine cG o dx _ Z ho Z ?_;refine cy n Z hs (λp1 H1 g1=>?_);refine⟨o,p1,h,cz n,rfl,po.mono g1.sm,g1.lst,by have:=sG n;lia,λu hu=>zx hs hu,λp2 H2 g2=>?_⟩;exact⟨sz Z,λp3 H3 g3=>k p3 p2 H3 (g2.after g1.sm).nw (g1.sm.trans (g2.sm.trans g3.sm)) (g3.sm _ _ g2.at_) g3.at_⟩
theorem NW (T:Txt w K mg t):dL P w K mg base t.cN "spell" 4 t.rU t.nQ ["self", "sign", "page"] [] (Aj t) :=
 ⟨T.gT,T.LE,⟨_,T.R8,.nil⟩,KQ T⟩
theorem NA (T:Txt w K mg t):bp P w K mg base "length_of" 1 t.yj t.vj ["sign"] (λvs H Q _=>∃n,vs=[.int n]/\Q (.int (gC n)) H):=by
 refine⟨T.OR,T.EG.kp,T.Rn,T.EG.okQ Hs (λvs H Q E h=>by obtain⟨n,rfl,_⟩:=h;rfl) λ_ _ _ _ H vs Q E hr h=>?_⟩;obtain⟨n,rfl,k⟩:=h;refine⟨_,(af (av (au cV (aa 0) ae (ar _)) (ag (ap ae)) aA)
  (af (av (au cV (aa 0) ae (ar _)) (ag (ap ae)) aA)
  (af (av (au cV (aa 0) ae (ar _)) (ag (ap ae)) aA)
  (ag (ap ae))))),?_⟩
 unfold gC at k;refine ah (λe=>?_) (λe=>?_)
 ·rw[if_pos (of_decide_eq_true e)]at k;exact k
 rw[if_neg (λz=>e (decide_eq_true z))]at k;refine ah (λe=>?_) (λe=>?_)
 ·rw[if_pos (of_decide_eq_true e)]at k;exact k
 rw[if_neg (λz=>e (decide_eq_true z))]at k;refine ah (λe=>?_) (λe=>?_)
 ·rw[if_pos (of_decide_eq_true e)]at k;exact k
 rw[if_neg (λz=>e (decide_eq_true z))]at k;exact k
def Gz:Sp:=λvs H Q _=>∃n,vs=[.int n]/\Sg n/\∀p H',bi H p (.lst ((row n).map V.int)) H'->Q (.ref p) H'
theorem NC (T:Txt w K mg t):bp P w K mg base "lead_row" 3 t.yl t.vm ["sign"] Gz:=by
 refine⟨T.OT,T.EI.kp,T.Rp,T.EI.okQ sX (λvs H Q E h=>by obtain⟨n,rfl,_⟩:=h;rfl) λ_ _ _ _ H vs Q E hr h=>?_⟩;obtain⟨n,rfl,hs,k⟩:=h;have hu:=hr.units;refine⟨_,(af (aG (i:=1) sX.nd Z (.inl Z) (aP (NA T) hr (ab (aa 0) ad)))
  (af (av (au (aX (K:=K) rfl hu) (aa 1) ae (ar _)) (ag (ap (aO (ab (aa 0) ad)))) aA)
  (af (aG (i:=2) sX.nd rfl (.inl rfl) (aP (uc T) hr (ab (aa 0) (ab (cm T.DJ) (ab (aa 1) ad)))))
  (ag (ap (aw (T2 K) (aO (ab (aw (T2 K) (ax (T5 K) (iB (v:=.ref t.oh) rfl T.DE rfl) (aa 1) (λ_ _=>rfl)) (ax (T5 K) (aa 2) ae (λ_ _=>rfl))) ad)) (fT rfl (cZ.of (fns:=(ak js).names) (N:=["sign", "length", "parts"]) (Nc:=["part"]) (nv:=1) (caps:=[]) rfl rfl (by decide +kernel)) (dI (K:=K) rfl (du (T6 K) (aa 2) (cA ae) eS)) (λ_ _ _ _=>(aT (i:=0) (show List.Nodup (["part"]:List Str) by decide +kernel) rfl (Or.inl rfl) (Or.inr rfl))) (λ_ _ _ _=>fg) (λ_ _ _ _=>(aw (T2 K) (cm T.rG) (aa 0)))))))))),?_⟩
 refine gw n Z ?_;by_cases c:n<128
 ·have e1:gC n=1:=by unfold gC;rw[if_pos c]
  have e2:row n=[n]:=by unfold row;rw[if_pos c]
  refine ah (λ_=>?_) (λe=>absurd (decide_eq_true e1) e);rw[e2]at k;exact⟨sz Z,λp H' g=>k p H' g⟩
 obtain⟨L,v,q0,bH,eL,n1,l4,ep,hv,er,hn⟩:=Mn hs (by lia);refine ah (λe=>absurd (of_decide_eq_true e) (by rw[eL];lia)) (λ_=>?_);refine⟨n,6,L,by rw[eL];rfl,hs.1,hn,by decide,by lia,λp1 H1 g1=>?_⟩;rw[ep]at g1;have hat:cW (([0,0,192,224,240]:List Int).map V.int) (gC n)=some (.int v):=by
  rw[eL];exact aB (by rw[Ug,hv];rfl)
 refine aW _ (.int v) (.inr (T.Bi _)) hat ?_;refine aW _ (.int q0) (.inl g1.lst) (aB (j:=0) Z) ?_;refine⟨sz Z,λp2 H2 g2=>?_⟩;refine⟨_,Z,_,g2.sm.seq g1.lst,λp3 H3 g3=>?_⟩;rw[Dx]at g3;have hrl:bH.length<=1000:=by
  have:=JH 6 L n;rw[ep]at this;simp at this
  lia
 refine dq Z ⟨_,g3.lst⟩ ?_;refine jM ((bH.map λb=>128+b).map V.int) (by simp) g3.lst (ci (by simp;lia)) (λi y v H4 N hy hv s4 hN=>?_) λp4 H4 g4=>?_
 ·rw[Ug]at hy;obtain⟨y,hy',rfl⟩:=Va.mp hy;rw[Ug,Ug,hy']at hv;cases hv;exact hN _ (aj.refl _)
 refine fe ((g3.sm.trans g4.sm).seq g2.lst) g4.lst (ci (by simp;lia)) (λp5 H5 g5=>?_);rw[er]at k;exact k _ _ (g5.after (((g1.sm.trans g2.sm).trans g3.sm).trans g4.sm))
def Ak:Sp:=λvs H Q _=>∃(o:Addr) (n:Int),vs=[.ref o,.int n,.int 0]/\Sg n/\∀p q H',H q=none->aj H H'->H' q=some (.lst ((row n).map V.int))->H' p=some (.tup [.ref q,.int 0])->Q (.ref p) H'
theorem KR (T:Txt w K mg t):bA P w K mg base bR 4 t.rY t.nU ["self", "sign", "page"] Ak:=by
 refine T.S3.okQ Ij (λvs H Q E h=>by obtain⟨o,n,rfl,_⟩:=h;rfl) λ_ _ _ _ H vs Q E hr h=>?_;obtain⟨o,n,rfl,hs,k⟩:=h;have hu:=hr.units;refine⟨_,(af (av (dN (dw (aP (jC T) hr (ab (aa 1) ad)))) (ag gN) aA)
  (ag (ap (bN (ab (aP (NC T) hr (ab (aa 1) ad)) (ab (aa 2) ad)))))),?_⟩
 refine cy (.int n) Z (.int n) ?_;refine ah (λe=>absurd ((hG n).mpr hs) (by simpa using e)) (λ_=>?_);refine cy n Z hs (λp1 H1 g1=>?_);exact⟨sz Z,λp2 H2 g2=>k p2 p1 H2 g1.nw (g1.sm.trans g2.sm) (g2.sm _ _ g1.at_) g2.at_⟩
theorem N0 (T:Txt w K mg t):dL P w K mg base t.eY "spell" 4 t.rY t.nU ["self", "sign", "page"] [] Ak :=
 ⟨T.nZ,T.LI,⟨_,T.Se,.nil⟩,KR T⟩
def Al(t:Adr):Sp:=λvs H Q _=>∃(a:Addr) (f:Fp) (ns ms:List Int) (x:V) (g:Int) (r:List Int) (g':Int),vs=[.ref a,x,.int g]/\cP g/\Tg t H a f ns ms/\dX (ao g ns ms) (ao g ms ns) g x=some (r,g') /\
 ∀p q H',aj H H'->H q=none->H' q=some (.lst (r.map V.int))->H' p=some (.tup [.ref q,.int g'])->Q (.ref p) H'
theorem KS (T:Txt w K mg t):bA P w K mg base bR 4 t.rP t.nN ["self", "sign", "page"] (Al t):=by
 refine T.SG.okQ HQ (λvs H Q E h=>by obtain⟨o,f,ns,ms,x,g,r,g',rfl,_⟩:=h;rfl) λ_ _ _ _ H vs Q E hr h=>?_;obtain⟨a,f,ns,ms,x,g,r,g',rfl,two,tg,hsp,k⟩:=h;have hu:=hr.units;refine⟨_,(af (av (dw (aP (jC T) hr (ab (aa 1) ad))) (af (av (au (qk hu) (aa 1) (ax (T5 K) (aK (K:=K) rfl (aa 0)) (aa 2) (λ_ _=>rfl)) (by with_unfolding_all rfl)) (ag (ap (bN (ab (aO (ab (tD hu (ax (T5 K) (aK (K:=K) rfl (aa 0)) (aa 2) (λ_ _=>rfl)) (aa 1)) ad)) (ab (aa 2) ad))))) aA)
  (ag (av (au (qk hu) (aa 1) (ax (T5 K) (aK (K:=K) rfl (aa 0)) (aw cD ae (aa 2)) (λ_ _=>rfl)) (by with_unfolding_all rfl)) (ag (ap (bN (ab (aO (ab (ax (T5 K) (iB (v:=.ref t.mH) rfl T.xB rfl) (aw cD ae (aa 2)) (λ_ _=>rfl)) (ab (tD hu (ax (T5 K) (aK (K:=K) rfl (aa 0)) (aw cD ae (aa 2)) (λ_ _=>rfl)) (aa 1)) ad))) (ab (aw cD ae (aa 2)) ad))))) aA))) aA)
  (ag gN)),?_⟩
 have okP:cX (ao g ns ms):=j1 tg.k0 tg.k1;have okO:cX (ao g ms ns):=j1 tg.k1 tg.k0;have yes:dh x=true:=by
  cases e:dh x with
  | true=>rfl
  | false=>rw[Gc okP okO e]at hsp;cases hsp
 obtain⟨n,rfl,_⟩:=He yes;refine dq Z (.int n) ?_;refine ah (λ_=>?_) (λz=>absurd yes z);have ed:∀g,cP g->cW [V.ref f.d0,V.ref f.d1] g=some (.ref (ao g f.d0 f.d1)):=λg two=>by rw[mG two];exact congrArg some (j2 V.ref _ _ _)
 obtain⟨kv,hkv,vkv⟩:=tg.dk two;obtain⟨kw,hkw,vkw⟩:=tg.dk two.flip;rw[AD two]at vkw;refine bK a _ f.dx _ _ Z tg.o T.dE T.jz Z ?_;refine aV (.inl (.of tg.p)) (ed g two) ?_;refine aV Z (da.k (k:=.inl n) hkv) ?_;unfold dX at hsp;dsimp only at hsp;cases e1:cM (ao g ns ms) n with
 | some i =>
  rw[e1]at hsp;cases hsp;have v1:bv kv (.inl n)=some (.int (i:Int)):=by rw[vkv,e1];rfl
  refine ah (λ_=>?_) (λz=>absurd (show (bv kv (.inl n)).isSome=true by rw[v1];rfl) z);refine bK a _ f.dx _ _ Z tg.o T.dE T.jz Z ?_;refine aV (.inl (.of tg.p)) (ed g two) ?_;refine aV rfl (by have:=da.k (k:=.inl n) hkv;rw[v1]at this;exact this) ?_;refine⟨sz Z,λp1 H1 g1=>?_⟩;refine⟨sz Z,λp2 H2 g2=>?_⟩;exact k p2 p1 H2 (g1.sm.trans g2.sm) g1.nw (g2.sm _ _ g1.at_) g2.at_
 | none =>
  rw[e1]at hsp;dsimp only at hsp;have v1:bv kv (.inl n)=none:=by rw[vkv,e1];rfl
  refine ah (λz=>absurd (show (bv kv (.inl n)).isSome=true from z) (by rw[v1];decide)) (λ_=>?_);refine bK a _ f.dx _ _ Z tg.o T.dE T.jz Z ?_;refine aV (.inl (.of tg.p)) (ed (1-g) two.flip) ?_;refine aV Z (da.k (k:=.inl n) hkw) ?_;cases e2:cM (ao g ms ns) n with
  | none=>rw[e2]at hsp;cases hsp
  | some i =>
   rw[e2]at hsp;cases hsp;have v2:bv kw (.inl n)=some (.int (i:Int)):=by rw[vkw,e2];rfl
   refine ah (λ_=>?_) (λz=>absurd (show (bv kw (.inl n)).isSome=true by rw[v2];rfl) z);have sh:cW (([254,255]:List Int).map V.int) (1-g)=some (.int (254+(1-g))):=by
    rcases two with rfl|rfl<;>rfl
   refine aV (.inr (T.tE _)) sh ?_;refine bK a _ f.dx _ _ Z tg.o T.dE T.jz Z ?_;refine aV (.inl (.of tg.p)) (ed (1-g) two.flip) ?_;refine aV rfl (by have:=da.k (k:=.inl n) hkw;rw[v2]at this;exact this) ?_;refine⟨sz Z,λp1 H1 g1=>?_⟩;refine⟨sz Z,λp2 H2 g2=>?_⟩;exact k p2 p1 H2 (g1.sm.trans g2.sm) g1.nw (g2.sm _ _ g1.at_) g2.at_
theorem NT (T:Txt w K mg t):dL P w K mg base t.bU "spell" 4 t.rP t.nN ["self", "sign", "page"] [] (Al t) :=
 ⟨T.dE,T.Lv,⟨_,T.RP,.nil⟩,KS T⟩
def Am(t:Adr):Sp:=λvs H Q _=>∃(a:Addr) (f:Ft) (es:List (Int × List Int)) (e:Int × List Int) (g:Int),vs=[.ref a,.int e.1,.int g]/\Tt t H a f es 1000/\Es es/\e∈es /\
 ∀p q H',aj H H'->H q=none->H' q=some (.lst (e.2.map V.int))->H' p=some (.tup [.ref q,.int g])->Q (.ref p) H'
theorem KP (T:Txt w K mg t):bA P w K mg base bR 4 t.rL t.nK ["self", "sign", "page"] (Am t):=by
 refine T.SB.okQ HP (λvs H Q E h=>by obtain⟨o,f,es,e,g,rfl,_⟩:=h;rfl) λ_ _ _ _ H vs Q E hr h=>?_;obtain⟨a,f,es,e,g,rfl,tt,ok,he,k⟩:=h;have hu:=hr.units;refine⟨_,(af (av (bO (cU (dN (dw (aP (jC T) hr (ab (aa 1) ad)))) (db (au (CW hu) (aa 1) (aK (K:=K) rfl (aa 0)) (by with_unfolding_all rfl))))) (ag gN) aA)
  (ag (ap (bN (ab (cv (T7 K) T.n_list UK (ab (tD hu (aK (K:=K) rfl (aa 0)) (aa 1)) ad)) (ab (aa 2) ad)))))),?_⟩
 obtain⟨o,⟨k1,k2,k3,a1,a2,a3,_,_,_,kv⟩,ne⟩:=id tt;obtain⟨q,vq,hq⟩:=kv.a e he;have yes:dh (.int e.1)=true:=(hG _).mpr (ok.sg e he).1;refine dq Z (.int _) ?_;refine ah (λz=>absurd (show (!dh (.int e.1))=true from z) (by rw[yes];decide)) (λ_=>?_);refine bK a _ f.dx _ _ Z o T.fA T.pJ Z ?_;refine aW f.d1 _ Z (da.k (k:=.inl e.1) a1) ?_;refine ah (λz=>absurd (show (!(bv k1 (.inl e.1)).isSome)=true from z) (by rw[vq];simp)) (λ_=>?_);refine bK a _ f.dx _ _ Z o T.fA T.pJ Z ?_;refine aW f.d1 _ rfl (by have:=da.k (k:=.inl e.1) a1;rw[vq]at this;exact this) ?_;refine aY (.inr (.of hq)) (λp1 H1 g1=>?_);refine⟨sz Z,λp2 H2 g2=>?_⟩;exact k p2 p1 H2 (g1.sm.trans g2.sm) g1.nw (g2.sm _ _ g1.at_) g2.at_
theorem NQ (T:Txt w K mg t):dL P w K mg base t.cn "spell" 4 t.rL t.nK ["self", "sign", "page"] [] (Am t) :=
 ⟨T.fA,T.Lq,⟨_,T.RK,.nil⟩,KP T⟩
theorem NN (T:Txt w K mg t):dL P w K mg base t.fB "spell" 2 t.yG t.qy ["self", "sign", "page"] [] Ao :=
 ⟨T.nY,T.Lm,⟨_,T.RH,.nil⟩,T.Sx.okQ HM (λvs H Q E h=>h.elim) λcdv A outer s H vs Q E hr h=>h.elim⟩
theorem ix{H:Hp}{x dx C:Addr}(hx:H x=none)(hdx:H dx=none):aj H (upd (upd H dx (.own x)) x (.ins C dx [])):=λb ob q=>by rw[az (aN q hx),az (aN q hdx)];exact q
theorem nh(D:Kt):bG D 0:=by
 cases D with
 | sh f ns ms=>exact .inl rfl
 | _=>exact rfl
def GZ(K:PySem.W.Frag):Sp:=λvs H Q _=>∃(a:Addr) (ns:List Int) (k:Nat),vs=[.ref a,.int (k:Int)]/\aF K H a (ns.map V.int)/\∀c H',aj H H'->Q (.int c) H'
theorem Np (T:Txt w K mg t):bp P w K mg base "_law_drawn" 1 t.x9 t.uX ["_law_script", "_law_at"] (GZ K):=by
 refine⟨T.OB,T.Ew.kp,T.Rc,T.Ew.okQ Hq (λvs H Q E h=>by obtain⟨a,ns,i,rfl,_⟩:=h;rfl) λ_ _ _ _ H vs Q E hr h=>?_⟩;obtain⟨a,ns,i,rfl,h1,k⟩:=h;refine⟨_,(ag (ap (bh (Qn (K:=K) Z Z) T.n_sum PyProof.Rows.boot_sum (ab (du (T6 K) (aa 0) (cA (aa 1)) (cA (aw (T2 K) (aa 1) ae))) ad)))),?_⟩;refine⟨_,Z,_,Z,_,h1,λp1 H1 g1=>?_⟩;rw[fz]at g1;exact⟨_,g1.lst,k _ _ g1.sm⟩
theorem Cq (T:Txt w K mg t):bp P w K mg base "_law_is_number" 1 t.x6 t.uV ["_law_found"] (λvs H Q _=>∃i,vs=[.int i]/\Q (.bl true) H):=by
 refine⟨T.Oz,T.Et.kp,T.Ra,T.Et.okQ Ho (λvs H Q E h=>by obtain⟨i,rfl,_⟩:=h;rfl) λ_ _ _ _ H vs Q E hr h=>?_⟩;obtain⟨i,rfl,k⟩:=h;refine⟨_,(ag (ap (gc (tz (bh (T3 K) T.n_isinstance UY (ab (aa 0) (ab (gP Z T.n_bool W6) ad)))) (fS (bh (T3 K) T.n_isinstance UY (ab (aa 0) (ab (gP Z T.n_int UV) ad))))))),?_⟩;obtain⟨ty,hty,e0⟩:=(fZ.int (K:=K) (H:=H) i).isBl;refine aW ty _ hty e0 ?_;refine i6 ?_;obtain⟨ty,hty,e0⟩:=(fZ.int (K:=K) (H:=H) i).isInt;exact⟨ty,_,hty,e0,k⟩
def GI:Sp:=λvs H Q _=>∃(n k:Int),vs=[.int n,.int k]/\0<=k/\k<=1000000/\∀m,0<=m->m<2147483629->Q (.int m) H
theorem Cp (T:Txt w K mg t):bp P w K mg base "_law_mixed" 1 t.xV t.uQ ["_law_number", "_law_k"] GI:=by
 refine⟨T.Ou,T.Em.kp,T.Q5,T.Em.okQ AG (λvs H Q E h=>by obtain⟨n,k,rfl,_⟩:=h;rfl) λ_ _ _ _ H vs Q E hr h=>?_⟩;obtain⟨n,k,rfl,k0,k1,kq⟩:=h;have two64:(2:Int) ^ 64=18446744073709551616:=by decide
 refine⟨_,(af (aG (i:=0) AG.nd Z (.inl Z) (bB (aw (T2 K) (aw (T2 K) (aa 0) (aw fu (aw fu ae (aa 1)) (aa 1))) ae)))
  (ag (ap (bB (aw (T2 K) (aw (T2 K) (aw fu (aa 0) (aa 0)) (aw fu ae (aa 0))) (aa 1)))))),?_⟩
 refine⟨Or.inl ⟨by decide,by decide⟩,?_⟩;refine⟨Or.inr ⟨by lia,by lia⟩,?_⟩;refine⟨Or.inl ⟨by lia,by lia⟩,?_⟩;refine⟨Or.inl ⟨by decide,by decide⟩,?_⟩;exact kq _ (by lia) (by lia)
def gh(n:Int):Int:=if (if n%1111808>=55296 then n%1111808+2048 else n%1111808)>=61184 then (if n%1111808>=55296 then n%1111808+2048 else n%1111808)+256 else (if n%1111808>=55296 then n%1111808+2048 else n%1111808)
theorem qi(n:Int):Sg (gh n):=by
 unfold gh Sg
 (repeat' split)<;>lia
theorem um{a b:Int}(h:gh a=gh b):a%1111808=b%1111808:=by
 unfold gh at h;revert h
 (repeat' split)<;>lia
theorem Ps{k d:Int}(h0 : -251<d)(h1:d<251)(hk:14997*d=1111808*k):d=0:=by
 lia
theorem Pr{k d:Int}(h0 : -251<d)(h1:d<251)(hk:24995*d=1111808*k):d=0:=by
 lia
theorem Mj(B x y:Int):4999*(B+3*(0+x))-4999*(B+3*(0+y))=14997*(x-y):=by
 lia
theorem Mi(B x y:Int):4999*(B+5*(0+x))-4999*(B+5*(0+y))=24995*(x-y):=by
 lia
theorem tO{x y:Int}(h:x%1111808=y%1111808):∃k:Int,x-y=1111808*k:=⟨x/1111808-y/1111808,by lia⟩
theorem MN{B:Int}{i j n:Nat}(hi:i<n)(hj:j<n)(hn:n<=250)(h:4999*(B+3*(0+(i:Int)))%1111808=4999*(B+3*(0+(j:Int)))%1111808):i=j:=by
 obtain⟨k,hk⟩:=tO h;rw[Mj]at hk;have:=Ps (by clear h hk;lia) (by clear h hk;lia) hk;clear h hk
 lia
theorem MM{B:Int}{i j n:Nat}(hi:i<n)(hj:j<n)(hn:n<=250)(h:4999*(B+5*(0+(i:Int)))%1111808=4999*(B+5*(0+(j:Int)))%1111808):i=j:=by
 obtain⟨k,hk⟩:=tO h;rw[Mi]at hk;have:=Pr (by clear h hk;lia) (by clear h hk;lia) hk;clear h hk
 lia
theorem Pt{k d:Int}(h0 : -251<d)(h1:d<251)(hk:4999*d=1111808*k):d=0:=by
 lia
theorem Ml(B x y:Int):4999*(B+(0+x))-4999*(B+(0+y))=4999*(x-y):=by
 lia
theorem MO{B:Int}{i j n:Nat}(hi:i<n)(hj:j<n)(hn:n<=250)(h:4999*(B+(0+(i:Int)))%1111808=4999*(B+(0+(j:Int)))%1111808):i=j:=by
 obtain⟨k,hk⟩:=tO h;rw[Ml]at hk;have:=Pt (by clear h hk;lia) (by clear h hk;lia) hk;clear h hk
 lia
theorem qe (T:Txt w K mg t):bp P w K mg base "_law_gapped" 1 t.x8 t.uW ["_law_number"] (λvs H Q _=>∃n,vs=[.int n]/\Q (.int (gh n)) H):=by
 refine⟨T.OA,T.Eu.kp,T.Rb,T.Eu.okQ oW (λvs H Q E h=>by obtain⟨n,rfl,_⟩:=h;rfl) λ_ _ _ _ H vs Q E hr h=>?_⟩;obtain⟨n,rfl,k⟩:=h;refine⟨_,(af (aG (i:=1) oW.nd Z (.inl Z) (bB (aa 0)))
  (af (av (au CZ (aa 1) ae (ar _)) (ag (aG (i:=1) oW.nd rfl (.inl rfl) (aw (T2 K) (aa 1) ae))) aA)
  (af (av (au CZ (aa 1) ae (ar _)) (ag (aG (i:=1) oW.nd rfl (.inl rfl) (aw (T2 K) (aa 1) ae))) aA)
  (ag (ap (aa 1)))))),?_⟩
 unfold gh at k;refine ah (λz=>?_) (λz=>?_)
 ·have z:n%1111808>=55296:=of_decide_eq_true z;rw[if_pos z]at k;refine ah (λy=>?_) (λy=>?_)
  ·rw[if_pos (of_decide_eq_true y)]at k;exact k
  ·rw[if_neg (λx=>y (decide_eq_true x))]at k;exact k
 ·have z:¬n%1111808>=55296:=λy=>z (decide_eq_true y);rw[if_neg z]at k;refine ah (λy=>?_) (λy=>?_)
  ·rw[if_pos (of_decide_eq_true y)]at k;exact k
  ·rw[if_neg (λx=>y (decide_eq_true x))]at k;exact k
def Gu:Sp:=λvs H Q _=>∃c,vs=[.int c]/\∀n H',aj H H'->Sg n->Q (.int n) H'
theorem Hh:∀n∈([0,10,127,128,2047,2048,55295,57344,61183,61440,65279,65535,65536,1048575,1114111]:List Int),Sg n:=by unfold Sg;decide
theorem Nq (T:Txt w K mg t):bp P w K mg base "_law_as_sign" 2 t.yb t.uZ ["_law_number"] Gu:=by
 refine⟨T.OD,T.Ey.kp,T.Rf,T.Ey.okQ AH (λvs H Q E h=>by obtain⟨c,rfl,_⟩:=h;rfl) λ_ _ _ _ H vs Q E hr h=>?_⟩;obtain⟨c,rfl,k⟩:=h;have hu:=hr.units;refine⟨_,(af (aG (i:=1) AH.nd Z (.inl Z) (aO (iX Z)))
  (af (av (au (aX (K:=K) rfl hu) (bB (aa 0)) ae (ar _)) (ag (ap (ax (T5 K) (aa 1) (bB (ck (aa 0))) (λ_ _=>rfl)))) aA)
  (af (av (au (aX (K:=K) rfl hu) (bB (aa 0)) ae (ar _)) (ag (ap (bB (ck (aa 0))))) aA)
  (ag (ap (aP (qe T) hr (ab (ck (aa 0)) ad))))))),?_⟩
 refine⟨sz Z,λp1 H1 g1=>?_⟩;refine ah (λ_=>?_) (λ_=>?_)
 ·obtain⟨v,hv,e1,_⟩:=rJ (xs:=(([0,10,127,128,2047,2048,55295,57344,61183,61440,65279,65535,65536,1048575,1114111]:List Int).map V.int)) (i:=c/4%15) (by lia) (by simp;lia);obtain⟨n,hn,rfl⟩:=Uu.mp hv;exact⟨_,_,.inl g1.lst,e1,k _ _ g1.sm (Hh n hn)⟩
 refine ah (λ_=>?_) (λ_=>?_)
 ·exact k _ _ g1.sm (by unfold Sg;lia)
 ·exact⟨_,Z,k _ _ g1.sm (qi _)⟩
theorem AZ{f:Nat->Int}{n:Nat}(hn:n<=250)(hs:∀k,k<n->Sg (f k))(inj:∀i j,i<n->j<n->f i=f j->i=j):cX ((List.range n).map f):=by
 refine⟨λm hm=>?_,?_,by rw[Uc,UP];exact hn⟩
 ·obtain⟨k,hk,rfl⟩:=Uu.mp hm;exact hs k (U3.mp hk)
 ·refine List.pairwise_map.mpr ?_;exact List.nodup_range.imp_of_mem λ{i j} hi hj ne e=>ne (inj i j (U3.mp hi) (U3.mp hj) e)
theorem cX.rev{ns:List Int}(h:cX ns):cX ns.reverse:=⟨λn hn=>h.1 n (List.mem_reverse.mp hn),List.pairwise_reverse.mpr (h.2.1.imp λh=>Ne.symm h),by rw[VQ];exact h.2.2⟩
def GN:Sp:=λvs H Q _=>∃(c:Int),vs=[.int c]/\∀(p q r:Addr) (ns ms:List Int) H',aj H H'->H' p=some (.tup [.ref q,.ref r])->H' q=some (.lst (ns.map V.int))->H' r=some (.lst (ms.map V.int))->cX ns->cX ms->Q (.ref p) H'
theorem Nl (T:Txt w K mg t):bp P w K mg base "_law_lists" 2 t.xW t.uR ["_law_number"] GN:=by
 refine⟨T.Ov,T.En.kp,T.Q6,T.En.okQ j5 (λvs H Q E h=>by obtain⟨c,rfl,_⟩:=h;rfl) λ_ _ _ _ H vs Q E hr h=>?_⟩;obtain⟨c,rfl,k⟩:=h;have hu:=hr.units;have two64:(2:Int) ^ 64=18446744073709551616:=by decide
 refine⟨_,(af (aG (i:=1) j5.nd Z (.inl Z) (aO (ab (bB (ck (aa 0))) (ab (bB (ck (aa 0))) ad))))
  (af (av (au (aX (K:=K) rfl hu) (bB (aa 0)) ae (ar _)) (ag (aG (i:=1) j5.nd rfl (.inl rfl) (aO (ab (aw (T2 K) ae (bB (ck (aa 0)))) (ab (bB (ck (aa 0))) ad))))) aA)
  (af (aG (i:=2) j5.nd rfl (.inr rfl) (bB (ck (aa 0))))
  (af (tu (i:=3) j5.nd rfl (.inl rfl) rfl (cZ.of (fns:=(ak iW).names) (N:=["_law_number", "_law_sizes", "_law_base", "_law_first", "_law_second"]) (Nc:=["_law_k", "_law_base"]) (nv:=1) (caps:=[2]) rfl rfl (by decide +kernel)) (mi rfl T.n_range (ab (ax (T5 K) (aa 1) ae (λ_ _=>rfl)) ad)) (λ_ _ _ _=>(aT (i:=0) (show List.Nodup (["_law_k", "_law_base"]:List Str) by decide +kernel) rfl (Or.inl rfl) (Or.inr rfl))) (λ_ _ _ _=>fg) (λ_ _ _ _=>(aP (qe T) hr (ab (aw fu ae (aw (T2 K) (aa 1) (aw fu ae (aa 0)))) ad))))
  (af (tu (i:=4) j5.nd rfl (.inl rfl) rfl (cZ.of (fns:=(ak iW).names) (N:=["_law_number", "_law_sizes", "_law_base", "_law_first", "_law_second"]) (Nc:=["_law_k", "_law_base"]) (nv:=1) (caps:=[2]) rfl rfl (by decide +kernel)) (mi rfl T.n_range (ab (ax (T5 K) (aa 1) ae (λ_ _=>rfl)) ad)) (λ_ _ _ _=>(aT (i:=0) (show List.Nodup (["_law_k", "_law_base"]:List Str) by decide +kernel) rfl (Or.inl rfl) (Or.inr rfl))) (λ_ _ _ _=>fg) (λ_ _ _ _=>(aP (qe T) hr (ab (aw fu ae (aw (T2 K) (aa 1) (aw fu ae (aa 0)))) ad))))
  (af (av (au fK (bB (aa 0)) ae (ar _)) (ag (df (ph (K:=K) rfl UH PySem.F.slot_list_reverse PySem.F.type_list_reverse Ld (aa 4)))) aA)
  (ag (ap (bN (ab (aa 3) (ab (aa 4) ad))))))))))),?_⟩
 refine⟨sz Z,λp1 H1 g1=>?_⟩;dsimp only [bT];refine ca (λσ' H'=>aj H H'/\∃(ps:Addr) (x y:Int),H' ps=some (.lst [.int x,.int y])/\0<=x/\x<=250/\0<=y/\y<=250/\σ'=[some (.int c),some (.ref ps),none,none,none]) (λnx hn=>?_) ?_
 ·refine ah (λ_=>?_) (λ_=>?_)
  ·refine⟨sz Z,λp2 H2 g2=>?_⟩;exact hn _ _ ⟨g1.sm.trans g2.sm,p2,_,_,g2.at_,by lia,by lia,by lia,by lia,rfl⟩
  ·exact hn _ _ ⟨g1.sm,p1,_,_,g1.at_,by lia,by lia,by lia,by lia,rfl⟩
 rintro σ' H2 ⟨s2,ps,x,y,hps,x0,x1,y0,y1,rfl⟩;obtain⟨b,eb⟩:∃b,b=c/1000%1111:=⟨_,rfl⟩;refine aW _ (.int x) (.inl (.of hps)) (aB (j:=0) Z) ?_;refine sv x rfl (by lia) (by lia) ?_;refine re (lo:=0) (n:=x.toNat) (((List.range x.toNat).map λk:Nat=>gh (4999*(c/1000%1111+3*(0+(k:Int))))).map V.int) (by rw[Uc,Uc,UP]) (ci (by lia)) (λj v H5 N hj hv s5 hN=>?_) λq0 H3 g3=>?_
 ·rw[Ug,Ug,VI hj]at hv;cases hv;refine⟨Or.inl ⟨by decide,by decide⟩,?_⟩;refine⟨Or.inl ⟨by decide,by decide⟩,?_⟩;exact⟨_,Z,hN _ (aj.refl _)⟩
 have ok0:cX ((List.range x.toNat).map λk:Nat=>gh (4999*(c/1000%1111+3*(0+(k:Int))))):=AZ (by lia) (λk _=>qi _) λi j hi hj e=>MN hi hj (by lia) (um e);refine aW _ (.int y) (.inl (.of (g3.sm _ _ hps))) (aB (j:=1) Z) ?_;refine sv y rfl (by lia) (by lia) ?_;refine re (lo:=0) (n:=y.toNat) (((List.range y.toNat).map λk:Nat=>gh (4999*(c/1000%1111+5*(0+(k:Int))))).map V.int) (by rw[Uc,Uc,UP]) (ci (by lia)) (λj v H5 N hj hv s5 hN=>?_) λq1 H4 g4=>?_
 ·rw[Ug,Ug,VI hj]at hv;cases hv;refine⟨Or.inl ⟨by decide,by decide⟩,?_⟩;refine⟨Or.inl ⟨by decide,by decide⟩,?_⟩;exact⟨_,Z,hN _ (aj.refl _)⟩
 have ok1:cX ((List.range y.toNat).map λk:Nat=>gh (4999*(c/1000%1111+5*(0+(k:Int))))):=AZ (by lia) (λk _=>qi _) λi j hi hj e=>MM hi hj (by lia) (um e);have s24:=g3.sm.trans g4.sm;have n10:q1≠q0:=(aN g3.at_ g4.nw).symm;have f1:H q1=none:=s2.free (g3.sm.free g4.nw);dsimp only [bT];refine ca (λσ' H'=>aj H H'/\H' q0=some (.lst (((List.range x.toNat).map λk:Nat=>gh (4999*(c/1000%1111+3*(0+(k:Int))))).map V.int))/\(∃ms,H' q1=some (.lst (ms.map V.int))/\cX ms)/\σ'=[some (.int c),some (.ref ps),some (.int (c/1000%1111)),some (.ref q0),some (.ref q1)]) (λnx hn=>?_) ?_
 ·refine ah (λ_=>?_) (λ_=>?_)
  ·refine⟨.inl ⟨rfl,_,.of g4.at_⟩,?_⟩;refine su q1 _ Z Z g4.at_ ?_;exact hn _ _ ⟨(s2.trans s24).put f1,by rw[az n10.symm];exact g4.sm _ _ g3.at_,⟨_,by rw[bc,List.map_reverse],ok1.rev⟩,rfl⟩
  ·exact hn _ _ ⟨s2.trans s24,g4.sm _ _ g3.at_,⟨_,g4.at_,ok1⟩,Z⟩
 ·rintro σ' H5 ⟨s5,h0,⟨ms,hm,okm⟩,rfl⟩;exact⟨sz Z,λp6 H6 g6=>k p6 q0 q1 _ _ H6 (s5.trans g6.sm) g6.at_ (g6.sm _ _ h0) (g6.sm _ _ hm) ok0 okm⟩
theorem DR{h h' a b:List Int}(l:h.length=h'.length)(n:h≠h'):dj (h++a) (h'++b)=false:=by
 unfold dj;rw[decide_eq_false];intro z
 apply n
 have:=congrArg (List.take h.length) z;rw[Wp,UT (by rw[Ud];lia),Vs (by lia),Vs (by lia),UJ,l,UJ]at this;exact this.symm
def fo(n:Int)(k:Nat):List Int:=if n/11%3 > 0 then [(n/13+7*((0+(k:Int))/3))%256,(n/4000+5*((0+(k:Int))%3))%256] else [(n/13+7*(0+(k:Int)))%256]
theorem Cm(n:Int)(i j:Nat):(fo n i).length=(fo n j).length:=by
 unfold fo;split<;>rfl
theorem Cn(n:Int)(i:Nat):1<=(fo n i).length/\(fo n i).length<=2:=by
 unfold fo;split<;>simp
theorem Cl{n:Int}{i j:Nat}(hi:i<13)(hj:j<13)(h:i≠j):fo n i≠fo n j:=by
 unfold fo
 split
 ·intro z;simp at z
  lia
 ·intro z;simp at z
  lia
theorem M7(n:Int)(i:Nat):∀b∈fo n i,0<=b/\b<=255:=by
 intro b hb;unfold fo at hb
 split at hb
 ·simp at hb;lia
 ·simp at hb;lia
def mX(n:Int)(k:Nat):Int:=gh (4999*(n/13%999+(0+(k:Int))))
theorem Hi{n:Int}{i j:Nat}(hi:i<13)(hj:j<13)(h:i≠j):mX n i≠mX n j:=λz=>by
 exact h (MO hi hj (by decide) (um z))
def E3(n:Int)(es:List (Int × List Int)):Prop:=∀(j:Nat) e,es[j]? = some e->e.1=mX n j/\∃tl,e.2=fo n j++tl/\tl.length<=4/\∀b∈tl,0<=b/\b<=255
theorem PD{n:Int}{es:List (Int × List Int)}(h:E3 n es)(l:es.length<=13):Es es:=by
 refine⟨λe he=>?_,Vr.mpr λi j hi hj hij=>?_,by lia⟩
 ·obtain⟨j,hj,rfl⟩:=V2.mp he;obtain⟨e1,tl,e2,l4,hb⟩:=h j _ (UL hj);have:=Cn n j;refine⟨by rw[e1];exact qi _,by rw[e2,Ud];lia,by rw[e2,Ud];lia,λb hb'=>?_⟩;rw[e2]at hb';rcases Us.mp hb' with z|z
  ·exact M7 n j b z
  ·exact hb b z
 ·obtain⟨a1,t1,a2,_⟩:=h i _ (UL hi);obtain⟨b1,t2,b2,_⟩:=h j _ (UL hj);unfold gj;rw[a1,a2,b1,b2,DR (Cm n i j) (Cl (by lia) (by lia) (by lia)),DR (Cm n j i) (Cl (by lia) (by lia) (by lia)),decide_eq_false (Hi (by lia) (by lia) (by lia))]
  rfl
def jO(H:Hp)(qs:List Addr)(es:List (Int × List Int)):Prop:=cQ (λq e=>H q=some (.lst (e.2.map V.int))) qs es
theorem jO.mono{H H':Hp}{qs:List Addr}{es:List (Int × List Int)}(h:jO H qs es)(s:aj H H'):jO H' qs es:=h.imp λq e z=>s _ _ z
def Gp:Sp:=λvs H Q _=>∃(c:Int),vs=[.int c]/\0<=c/\∀(p a b:Addr) (qs:List Addr) (es:List (Int × List Int)) H',aj H H'->H' p=some (.tup [.ref a,.ref b])->H' a=some (.lst ((es.map λe=>e.1).map V.int))->H' b=some (.lst (qs.map V.ref))->jO H' qs es->Es es->Q (.ref p) H'
theorem Nf (T:Txt w K mg t):bp P w K mg base "_law_table" 2 t.xN t.uJ ["_law_number"] Gp:=by
 refine⟨T.Om,T.Ef.kp,T.QV,T.Ef.okQ iT (λvs H Q E h=>by obtain⟨c,rfl,_⟩:=h;rfl) λ_ _ _ _ H vs Q E hr h=>?_⟩;obtain⟨c,rfl,c0,k⟩:=h;have hu:=hr.units;have two64:(2:Int) ^ 64=18446744073709551616:=by decide
 refine⟨_,(af (aG (i:=1) iT.nd Z (.inl Z) (aO ad))
  (af (aG (i:=2) iT.nd rfl (.inl rfl) (aO ad))
  (af (dt PassesOwn.never rfl (mi rfl T.n_range (ab (bB (aa 0)) ad)) (aT (i:=3) iT.nd rfl (.inl rfl)) (af (aG (i:=4) iT.nd rfl (.inr rfl) (aP (Cp T) hr (ab (aa 0) (ab (aw (T2 K) (aa 3) ae) ad))))
  (af (aG (i:=5) iT.nd rfl (.inl rfl) (aO (ab (bB (aw (T2 K) (ck (aa 0)) (aw fu ae (aa 3)))) ad)))
  (af (av (au fK (bB (ck (aa 0))) ae (ar _)) (ag (aG (i:=5) iT.nd rfl (.inl rfl) (aO (ab (bB (aw (T2 K) (ck (aa 0)) (aw fu ae (ck (aa 3))))) (ab (bB (aw (T2 K) (ck (aa 0)) (aw fu ae (bB (aa 3))))) ad))))) aA)
  (af (aG (i:=5) iT.nd rfl (.inl rfl) (aw (T2 K) (aa 5) (fT rfl (cZ.of (fns:=(ak jp).names) (N:=["_law_number", "_law_signs", "_law_rows", "_law_k", "_law_far", "_law_row_here"]) (Nc:=["_law_j", "_law_far"]) (nv:=1) (caps:=[4]) rfl rfl (by decide +kernel)) (mi rfl T.n_range (ab (bB (aa 4)) ad)) (λ_ _ _ _=>(aT (i:=0) (show List.Nodup (["_law_j", "_law_far"]:List Str) by decide +kernel) rfl (Or.inl rfl) (Or.inr rfl))) (λ_ _ _ _=>fg) (λ_ _ _ _=>(bB (aw (T2 K) (ck (aa 1)) (aw fu ae (aa 0))))))))
  (af (df (d7 (K:=K) rfl UH UZ U0 gR (aa 1) (ab (aP (qe T) hr (ab (aw fu ae (aw (T2 K) (bB (ck (aa 0))) (aa 3))) ad)) ad)))
  (ag (df (d7 (K:=K) rfl UH UZ U0 gR (aa 2) (ab (aa 5) ad))))))))))
  (ag (ap (bN (ab (aa 1) (ab (aa 2) ad)))))))),?_⟩
 refine⟨sz Z,λpa H1 g1=>?_⟩;refine⟨sz Z,λpb H2 g2=>?_⟩;have nab:pb≠pa:=(aN g1.at_ g2.nw).symm;have fa:H pa=none:=g1.nw;have fb:H pb=none:=g1.sm.free g2.nw;refine⟨c%13,rfl,by lia,by lia,?_⟩;refine qr (lo:=0) (n:=(c%13).toNat) (λi σ H'=>aj H H'/\(∃qs es,es.length=i/\E3 c es/\H' pa=some (.lst ((es.map λe=>e.1).map V.int))/\H' pb=some (.lst (qs.map V.ref))/\jO H' qs es/\∀q∈qs,q≠pa/\q≠pb)/\∃v3 v4 v5,σ=[some (.int c),some (.ref pa),some (.ref pb),v3,v4,v5])
  ⟨g1.sm.trans g2.sm,⟨[],[],rfl,(λj e h=>by simp at h),g2.sm _ _ g1.at_,g2.at_,cQ.nil,(λq h=>nomatch h)⟩,_,_,_,rfl⟩ ?_ ?_
 ·rintro i σ H3 hi ⟨s3,⟨qs,es,le,dr,ha,hb,rw3,nq⟩,v3,v4,v5,rfl⟩;have hi13:i<13:=by lia
  refine fe rfl (by lia) (by lia) (λfar f0 f1=>?_);refine⟨Or.inl ⟨by decide,by decide⟩,?_⟩;refine⟨sz Z,λp4 H4 g4=>?_⟩;dsimp only [bT];refine ca (λσ' H'=>aj H3 H'/\∃p5,H' p5=some (.lst ((fo c i).map V.int))/\σ'=[some (.int c),some (.ref pa),some (.ref pb),some (.int (0+(i:Int))),some (.int far),some (.ref p5)]) (λnx hn=>?_) ?_
  ·refine ah (λz=>?_) (λz=>?_)
   ·have z:c/11%3 > 0:=of_decide_eq_true z;refine⟨Or.inl ⟨by decide,by decide⟩,?_⟩;refine⟨Or.inl ⟨by decide,by decide⟩,?_⟩;refine⟨sz Z,λp5 H5 g5=>?_⟩;exact hn _ _ ⟨g4.sm.trans g5.sm,p5,by unfold fo;rw[if_pos z];exact g5.at_,Z⟩
   ·have z:¬c/11%3 > 0:=λy=>z (decide_eq_true y);exact hn _ _ ⟨g4.sm,p4,by unfold fo;rw[if_neg z];exact g4.at_,Z⟩
  rintro σ' H5 ⟨s5,p5,h5,rfl⟩;refine⟨far%5,rfl,by lia,by lia,?_⟩;refine re (lo:=0) (n:=(far%5).toNat) (((List.range (far%5).toNat).map λj:Nat=>(far/16+3*(0+(j:Int)))%256).map V.int) (by rw[Uc,Uc,UP]) (ci (by lia)) (λj v H6 N hj hv s6 hN=>?_) λp6 H6 g6=>?_
  ·rw[Ug,Ug,VI hj]at hv;cases hv;refine⟨Or.inl ⟨by decide,by decide⟩,?_⟩;exact hN _ (aj.refl _)
  have hl:=Cn c i;refine fe (.of (g6.sm _ _ h5)) g6.lst (ci (by rw[Uc,Uc,Uc,UP];lia)) (λp7 H7 g7=>?_);rw[<- Up]at g7;have s37:=s5.trans (g6.sm.trans g7.sm);have ha7:=s37 _ _ ha;have hb7:=s37 _ _ hb;have np7a:p7≠pa:=(aN (g6.sm _ _ (s5 _ _ ha)) g7.nw).symm;have np7b:p7≠pb:=(aN (g6.sm _ _ (s5 _ _ hb)) g7.nw).symm;refine⟨.inl ⟨rfl,_,.of ha7⟩,?_⟩;refine⟨Or.inl ⟨by decide,by decide⟩,?_⟩;refine aY Z ?_;refine dq ha7 (eQ (by rw[Uc,Uc];lia)) ?_;have hb8:upd H7 pa (.lst ((es.map λe=>e.1).map V.int++[.int (mX c i)])) pb=some (.lst (qs.map V.ref)):=by rw[az nab];exact hb7
  refine⟨.inl ⟨rfl,_,.of hb8⟩,?_⟩;have lq:qs.length=i:=by rw[<- le];exact rw3.1
  refine dq hb8 (eQ (by rw[Uc];lia)) ?_;refine⟨((s3.trans s37).put fa).put fb,⟨qs++[p7],es++[(mX c i,fo c i++(List.range (far%5).toNat).map λj:Nat=>(far/16+3*(0+(j:Int)))%256)],by rw[Ud,le];rfl,λj e he=>?_,?_,?_,cQ.app ⟨rw3.1,λj q e hq he=>?_⟩ (cQ.cons ?_ cQ.nil),λq hq=>?_⟩,_,_,_,rfl⟩
  ·by_cases cj:j<es.length
   ·rw[Vw cj]at he;exact dr j e he
   ·have ej:j=es.length:=by
     have:=(Uk.mp he).1;rw[Ud]at this;simp at this
     lia
    rw[ej,Vi (Ue _),V7]at he;cases he;refine⟨by rw[ej,le],_,by rw[ej,le],by rw[Uc,UP];lia,λb hb=>?_⟩;obtain⟨x,_,rfl⟩:=Uu.mp hb
    lia
  ·rw[az nab.symm,bc,Up,Up];rfl
  ·rw[bc,Up];rfl
  ·obtain⟨n1,n2⟩:=nq q (Ur hq);rw[az n2,az n1];exact s37 _ _ (rw3.2 j q e hq he)
  ·rw[az np7b,az np7a];exact g7.at_
  ·rcases Us.mp hq with z|z
   ·exact nq q z
   ·rw[Uq.mp z];exact⟨np7a,np7b⟩
 ·rintro σ H3 ⟨s3,⟨qs,es,le,dr,ha,hb,rw3,nq⟩,v3,v4,v5,rfl⟩;exact⟨sz rfl,λp4 H4 g4=>k p4 pa pb qs es H4 (s3.trans g4.sm) g4.at_ (g4.sm _ _ ha) (g4.sm _ _ hb) (rw3.mono g4.sm) (PD dr (by lia))⟩
theorem fV:PyData.strOk "lead" = true:=by decide +kernel
theorem eU:PyData.strOk "high" = true:=by decide +kernel
theorem fJ:PyData.strOk "low" = true:=by decide +kernel
theorem eT:PyData.strOk "shift" = true:=by decide +kernel
theorem fU:PyData.strOk "table" = true:=by decide +kernel
theorem mm:PyData.strOk "bare" = true:=by decide +kernel
theorem Bz{p q:Prop}[Decidable p][Decidable q]{A B:Prop}(h1:p\/q->A)(h2:¬p->¬q->B):if decide p=true then (if true=true then A else B) else (if decide q=true then A else B):=by
 by_cases c:p
 ·rw[if_pos (decide_eq_true c),if_pos rfl];exact h1 (.inl c)
 ·rw[if_neg (λz=>c (of_decide_eq_true z))];by_cases c':q
  ·rw[if_pos (decide_eq_true c')];exact h1 (.inr c')
  ·rw[if_neg (λz=>c' (of_decide_eq_true z))];exact h2 c c'
inductive Md where
 | ld
 | pr (h:Bool)
 | sh (ns ms:List Int)
 | tb (es:List (Int × List Int))
 | br
def cS:Md->Str
 | .ld => "lead"
 | .pr h=>gQ h
 | .sh _ _ => "shift"
 | .tb _ => "table"
 | .br => "bare"
def so(H:Hp)(a b:Addr):Md->Prop
 | .sh ns ms=>H a=some (.lst (ns.map V.int))/\H b=some (.lst (ms.map V.int))/\cX ns/\cX ms
 | .tb es=>H a=some (.lst ((es.map λe=>e.1).map V.int))/\(∃qs,H b=some (.lst (qs.map V.ref))/\jO H qs es)/\Es es
 | _=>H a=some (.lst [])/\H b=some (.lst [])
theorem so.mono{H H':Hp}{a b:Addr}{M:Md}(h:so H a b M)(s:aj H H'):so H' a b M:=by
 cases M with
 | sh ns ms=>exact⟨s _ _ h.1,s _ _ h.2.1,h.2.2⟩
 | tb es =>
  obtain⟨h1,⟨qs,h2,h3⟩,h4⟩:=h;exact⟨s _ _ h1,⟨qs,s _ _ h2,h3.mono s⟩,h4⟩
 | ld=>exact⟨s _ _ h.1,s _ _ h.2⟩
 | pr b=>exact⟨s _ _ h.1,s _ _ h.2⟩
 | br=>exact⟨s _ _ h.1,s _ _ h.2⟩
def Mod(H:Hp)(p:Addr)(M:Md):Prop:=∃a b,H p=some (.tup [.str (cS M),.ref a,.ref b])/\so H a b M
theorem Mod.mono{H H':Hp}{p:Addr}{M:Md}(h:Mod H p M)(s:aj H H'):Mod H' p M:=by
 obtain⟨a,b,h1,h2⟩:=h;exact⟨a,b,s _ _ h1,h2.mono s⟩
def GK:Sp:=λvs H Q _=>∃c:Int,vs=[.int c]/\∀p M H',aj H H'->Mod H' p M->Q (.ref p) H'
theorem Nk (T:Txt w K mg t):bp P w K mg base "_law_model" 3 t.xU t.uP ["_law_cell"] GK:=by
 refine⟨T.Ot,T.El.kp,T.Q4,T.El.okQ j4 (λvs H Q E h=>by obtain⟨c,rfl,_⟩:=h;rfl) λ_ _ _ _ H vs Q E hr h=>?_⟩;obtain⟨c,rfl,k⟩:=h;have hu:=hr.units;refine⟨_,(af (aG (i:=1) j4.nd Z (.inl Z) (aP (Cp T) hr (ab (ck (aa 0)) (ab ae ad))))
  (af (av (bO (cU (au (aX (K:=K) rfl hu) (bB (aa 0)) ae (ar _)) (db (au (aX (K:=K) rfl hu) (bB (aa 0)) ae (ar _))))) (af (jy (aP (Nl T) hr (ab (aa 1) ad)) (fi (K:=K) rfl rfl (bI (aT (i:=2) j4.nd rfl (.inl rfl)) (bI (aT (i:=3) j4.nd rfl (.inl rfl)) fh))))
  (ag (ap (bN (ab aU (ab (aa 2) (ab (aa 3) ad))))))) aA)
  (af (av (bO (cU (au (aX (K:=K) rfl hu) (bB (aa 0)) ae (ar _)) (db (au (aX (K:=K) rfl hu) (bB (aa 0)) ae (ar _))))) (af (jy (aP (Nf T) hr (ab (aa 1) ad)) (fi (K:=K) rfl rfl (bI (aT (i:=4) j4.nd rfl (.inl rfl)) (bI (aT (i:=5) j4.nd rfl (.inl rfl)) fh))))
  (ag (ap (bN (ab aU (ab (aa 4) (ab (aa 5) ad))))))) aA)
  (af (av (bO (fR (au (aX (K:=K) rfl hu) (bB (aa 0)) ae (ar _)) (gb (au (aX (K:=K) rfl hu) (bB (aa 1)) ae (ar _))))) (ag (ap (bN (ab aU (ab (aO ad) (ab (aO ad) ad)))))) aA)
  (ag (ap (bN (ab (ax (T5 K) (aO (iX rfl)) (bB (bB (aa 0))) (λ_ _=>rfl)) (ab (aO ad) (ab (aO ad) ad)))))))))),?_⟩
 refine fe rfl (by decide) (by decide) (λn n0 n1=>?_);refine Bz (p:=c%8=3) (q:=c%8=4) (λ_=>?_) (λ_ _=>?_)
 ·refine gw n Z (λp q r ns ms H1 s1 hp hq hr_ okn okm=>?_);refine⟨p,_,Z,.of hp,Z,_,_,Z,_,_,Z,Z,?_⟩;exact⟨sz Z,λp2 H2 g2=>k p2 (.sh ns ms) H2 (s1.trans g2.sm) ⟨q,r,g2.at_,g2.sm _ _ hq,g2.sm _ _ hr_,okn,okm⟩⟩
 refine Bz (p:=c%8=5) (q:=c%8=6) (λ_=>?_) (λ_ _=>?_)
 ·refine cy n Z n0 (λp q r qs es H1 s1 hp hq hr_ rw1 ok=>?_);refine⟨p,_,Z,.of hp,Z,_,_,Z,_,_,Z,Z,?_⟩;exact⟨sz Z,λp2 H2 g2=>k p2 (.tb es) H2 (s1.trans g2.sm) ⟨q,r,g2.at_,g2.sm _ _ hq,⟨qs,g2.sm _ _ hr_,rw1.mono g2.sm⟩,ok⟩⟩
 have last:∀H0,aj H H0->∀M:Md,(M=.ld\/(∃h,M=.pr h)\/M=.br)->∀pa H1 pb H2 p3 H3,bi H0 pa (.lst []) H1->bi H1 pb (.lst []) H2->bi H2 p3 (.tup [.str (cS M),.ref pa,.ref pb]) H3->Q (.ref p3) H3:=by
  intro H0 s0 M hM pa H1 pb H2 p3 H3 g1 g2 g3;refine k p3 M H3 (s0.trans (g1.sm.trans (g2.sm.trans g3.sm))) ⟨pa,pb,g3.at_,?_⟩;rcases hM with rfl|⟨h,rfl⟩|rfl<;>exact⟨g3.sm _ _ (g2.sm _ _ g1.at_),g3.sm _ _ g2.at_⟩
 have bH:∀i:Int,0<=i->i<3->∃M:Md,(M=.ld\/(∃h,M=.pr h)\/M=.br)/\cW [V.str "lead",.str "high",.str "low"] i=some (.str (cS M)):=by
  intro i i0 i3;rcases (show i=0\/i=1\/i=2 by lia) with rfl|rfl|rfl
  ·exact⟨.ld,.inl Z,Z⟩
  ·exact⟨.pr true,.inr (.inl ⟨_,Z⟩),Z⟩
  ·exact⟨.pr false,.inr (.inl ⟨_,Z⟩),Z⟩
 have fin:∀ {R:VK},(∀p H',(∃M:Md,(M=.ld\/(∃h,M=.pr h)\/M=.br)/\∃pa H1 pb H2 H0,aj H H0/\bi H0 pa (.lst []) H1/\bi H1 pb (.lst []) H2/\bi H2 p (.tup [.str (cS M),.ref pa,.ref pb]) H')->Q (.ref p) H'):=λ{R} p H' h=>by
  obtain⟨M,hM,pa,H1,pb,H2,H0,s0,g1,g2,g3⟩:=h;exact last H0 s0 M hM pa H1 pb H2 p H' g1 g2 g3
 have tail:∀(hx:True),tQ (jU (fE (fM K) (ny (sO [V.str "lead",V.str "high",V.str "low"])) (pP 3 (pP 8 (mV 0)))) (jU (ny jm) (jU (ny jm) jm))) [some (.int c),some (.int n),none,none,none,none] H Q:=by
  intro _;refine⟨sz Z,λp0 H0 g0=>?_⟩;obtain⟨M,hM,eM⟩:=bH (c%8%3) (by lia) (by lia);refine aV (.inl g0.lst) eM ?_;refine⟨sz Z,λpa H1 g1=>?_⟩;refine⟨sz Z,λpb H2 g2=>?_⟩;exact⟨sz Z,λp3 H3 g3=>last H0 g0.sm M hM pa H1 pb H2 p3 H3 g1 g2 g3⟩
 refine ah (λ_=>?_) (λ_=>?_)
 ·refine ah (λ_=>?_) (λ_=>?_)
  ·refine⟨sz Z,λpa H1 g1=>?_⟩;refine⟨sz Z,λpb H2 g2=>?_⟩;exact⟨sz Z,λp3 H3 g3=>last H (aj.refl _) .br (.inr (.inr Z)) pa H1 pb H2 p3 H3 g1 g2 g3⟩
  ·exact tail trivial
 ·exact tail trivial
def Mt:Md->Kt->Prop
 | .ld,D=>D=.ld
 | .pr h,D=>D=.pr h
 | .sh ns ms,D=>∃f,D=.sh f ns ms
 | .tb es,D=>∃f,D=.tb f es
 | .br,D=>D=.br
def Gn(t:Adr):Sp:=λvs H Q _=>∃(p:Addr) (M:Md),vs=[.ref p]/\Mod H p M/\∀o D H',aj H H'->Mt M D->TN t H' o D->Q (.ref o) H'
theorem Nb (T:Txt w K mg t):bp P w K mg base "_law_tongue" 8 t.xL t.uH ["_law_model_here"] (Gn t):=by
 refine⟨T.Oj,T.Ed.kp,T.QR,T.Ed.okQ oR (λvs H Q E h=>by obtain⟨p,M,rfl,_⟩:=h;rfl) λ_ _ _ _ H vs Q E hr h=>?_⟩;obtain⟨p,M,rfl,⟨a,b,hp,ct⟩,k⟩:=h;have hu:=hr.units;refine⟨_,(af (jy (aa 0) (fi (K:=K) Z Z (bI (aT (i:=1) oR.nd Z (.inl Z)) (bI (aT (i:=2) oR.nd Z (.inl Z)) (bI (aT (i:=3) oR.nd Z (.inl Z)) fh)))))
  (af (av (au (aX (K:=K) rfl hu) (aa 1) aU (ar _)) (ag (ap (tw T.BN T.CT))) aA)
  (af (av (bO (cU (au (aX (K:=K) rfl hu) (aa 1) aU (ar _)) (db (au (aX (K:=K) rfl hu) (aa 1) aU (ar _))))) (ag (ap (m8 (MY T) hr (ab (aa 1) ad)))) aA)
  (af (av (au (aX (K:=K) rfl hu) (aa 1) aU (ar _)) (ag (ap (m8 (MW T) hr (ab (cv (T7 K) T.n_list UK (ab (aa 2) ad)) (ab (cv (T7 K) T.n_list UK (ab (aa 3) ad)) ad))))) aA)
  (af (av (au (aX (K:=K) rfl hu) (aa 1) aU (ar _)) (ag (ap (m8 (MV T) hr (ab (fT rfl (cZ.of (fns:=(ak jo).names) (N:=["_law_model_here", "_law_word", "_law_first", "_law_second"]) (Nc:=["_law_sign", "_law_row_here"]) (nv:=2) (caps:=[]) rfl rfl (by decide +kernel)) (IU (K:=K) rfl rfl T.n_zip (ab (aa 2) (ab (aa 3) ad))) (λ_ _ _ _=>(fi (K:=K) rfl (n:=2) rfl (bI (aT (i:=0) (show List.Nodup (["_law_sign", "_law_row_here"]:List Str) by decide +kernel) rfl (Or.inl rfl) (Or.inr rfl)) (bI (aT (i:=1) (show List.Nodup (["_law_sign", "_law_row_here"]:List Str) by decide +kernel) rfl (Or.inl rfl) (Or.inr rfl)) fh)))) (λ_ _ _ _=>fg) (λ_ _ _ _=>(bN (ab (aa 0) (ab (cv (T7 K) T.n_list UK (ab (aa 1) ad)) ad))))) ad)))) aA)
  (ag (ap (tw T.LR T.Oa)))))))),?_⟩
 refine⟨p,_,Z,.of hp,Z,_,_,Z,_,_,Z,_,_,Z,Z,?_⟩;cases M with
 | ld =>
  refine xS (aE fV) (aE fV) ?_;refine ah (λ_=>?_) (λz=>absurd (show PyData.eqv (.str "lead") (.str "lead")=true by decide +kernel) z);refine λx dx hx hdx hne=>?_;exact k x .ld _ (ix hx hdx) Z ⟨dx,bc⟩
 | pr h =>
  cases h with
  | true =>
   refine xS (aE eU) (aE fV) ?_;refine ah (λz=>absurd (show PyData.eqv (.str "high") (.str "lead")=true from z) (by decide +kernel)) (λ_=>?_);refine xS (aE eU) (aE eU) ?_;refine ah (λ_=>?_) (λz=>absurd (show PyData.eqv (.str "high") (.str "high")=true by decide +kernel) z);refine i6 ?_;refine λx dx hx hdx hne=>?_;refine cG x dx true Z bc Z ?_;refine k x (.pr true) _ (λc u e=>?_) Z ⟨dx,bc⟩;rw[az (aN e hx)];exact ix hx hdx c u e
  | false =>
   refine xS (aE fJ) (aE fV) ?_;refine ah (λz=>absurd (show PyData.eqv (.str "low") (.str "lead")=true from z) (by decide +kernel)) (λ_=>?_);refine xS (aE fJ) (aE eU) ?_;refine ah (λz=>absurd (show PyData.eqv (.str "low") (.str "high")=true from z) (by decide +kernel)) (λ_=>?_);refine xS (aE fJ) (aE fJ) ?_;refine ah (λ_=>?_) (λz=>absurd (show PyData.eqv (.str "low") (.str "low")=true by decide +kernel) z);refine λx dx hx hdx hne=>?_;refine cG x dx false Z bc Z ?_;refine k x (.pr false) _ (λc u e=>?_) Z ⟨dx,bc⟩;rw[az (aN e hx)];exact ix hx hdx c u e
 | sh ns ms =>
  obtain⟨ha,hb,okn,okm⟩:=ct;refine xS (aE eT) (aE fV) ?_;refine ah (λz=>absurd (show PyData.eqv (.str "shift") (.str "lead")=true from z) (by decide +kernel)) (λ_=>?_);refine xS (aE eT) (aE eU) ?_;refine ah (λz=>absurd (show PyData.eqv (.str "shift") (.str "high")=true from z) (by decide +kernel)) (λ_=>?_);refine xS (aE eT) (aE fJ) ?_;refine ah (λz=>absurd (show PyData.eqv (.str "shift") (.str "low")=true from z) (by decide +kernel)) (λ_=>?_);refine xS (aE eT) (aE eT) ?_;refine ah (λ_=>?_) (λz=>absurd (show PyData.eqv (.str "shift") (.str "shift")=true by decide +kernel) z);refine aY (.inl (.of ha)) (λq H1 g1=>?_);refine aY (.inl (.of (g1.sm _ _ hb))) (λr H2 g2=>?_);refine λx dx hx hdx hne=>?_;have s:=ix (C:=t.bU) hx hdx;have q2:=g2.sm _ _ g1.at_;refine⟨x,dx,q,r,ns,ms,rfl,bc,.of (s _ _ q2),.of (s _ _ g2.at_),okn,okm,aN q2 hx,aN g2.at_ hx,λfp H8 k8 tg8 fr=>⟨rfl,?_⟩⟩;refine k x (.sh fp ns ms) H8 (λc u e=>k8 _ _ (aN (g2.sm _ _ (g1.sm _ _ e)) hx) (s _ _ (g2.sm _ _ (g1.sm _ _ e)))) ⟨fp,Z⟩ tg8
 | tb es =>
  obtain⟨ha,⟨qs,hb,rw1⟩,ok⟩:=ct;refine xS (aE fU) (aE fV) ?_;refine ah (λz=>absurd (show PyData.eqv (.str "table") (.str "lead")=true from z) (by decide +kernel)) (λ_=>?_);refine xS (aE fU) (aE eU) ?_;refine ah (λz=>absurd (show PyData.eqv (.str "table") (.str "high")=true from z) (by decide +kernel)) (λ_=>?_);refine xS (aE fU) (aE fJ) ?_;refine ah (λz=>absurd (show PyData.eqv (.str "table") (.str "low")=true from z) (by decide +kernel)) (λ_=>?_);refine xS (aE fU) (aE eT) ?_;refine ah (λz=>absurd (show PyData.eqv (.str "table") (.str "shift")=true from z) (by decide +kernel)) (λ_=>?_);refine xS (aE fU) (aE fU) ?_;refine ah (λ_=>?_) (λz=>absurd (show PyData.eqv (.str "table") (.str "table")=true by decide +kernel) z);have l64:=ok.l;have lq:=rw1.1;refine⟨a,b,_,_,Z,.of ha,.of hb,?_⟩;refine P4 (K:=K) (a:=a) (b:=b) (xs:=(es.map λe=>e.1).map V.int) (zs:=qs.map V.ref) (cs:=[]) (by simp[lq]) (λi ys H'=>aj H H'/\∃ps:List Addr,ys=ps.map V.ref/\ps.length=i/\mN H' ps (es.take i)) ⟨aj.refl _,[],rfl,rfl,cQ.nil⟩ (λi ys H' hi z=>⟨z.1.seq (.of ha),z.1.seq (.of hb),by obtain⟨_,ps,rfl,hl,_⟩:=z;rw[Uc];lia⟩) (ci (by rw[Uc,Uc];lia)) (λi x z ys H2 H3 N hx hz pv s3 hN=>?_) λys H2 pf H3 pv g3=>?_
  ·obtain⟨n,hn,rfl⟩:=fk hx;obtain⟨q,hq,rfl⟩:=o9 hz;obtain⟨s2,ps,rfl,hl,en⟩:=pv;obtain⟨e,he,hrow⟩:=rw1.right hq;rw[Ug,he]at hn;cases hn;simp only [gy,if_true];have s02:=s2.trans s3;refine aY (.inl (.of (s02 _ _ hrow))) (λq2 H4 g4=>?_);refine⟨sz Z,λp5 H5 g5=>?_⟩;refine hN _ _ ⟨s02.trans (g4.sm.trans g5.sm),ps++[p5],by rw[Up];rfl,by rw[Ud,hl];rfl,?_⟩;rw[f9 he];refine cQ.app (en.mono (s3.trans (g4.sm.trans g5.sm))) (cQ.cons ⟨⟨q2,g5.at_,g5.sm _ _ g4.at_⟩,?_⟩ cQ.nil);have:=ok.sg e (Ur he);exact⟨this.2.1,this.2.2.1⟩
  obtain⟨s2,ps,rfl,hl,en⟩:=pv;rw[Uc,Uc,UJ]at en;refine λx dx hx hdx hne=>?_;have s:=ix (C:=t.cn) hx hdx;refine bK x dx pf ps es rfl bc (s _ _ g3.at_) (en.mono (g3.sm.trans s)) ok (λf H8 k8 tt8=>⟨rfl,?_⟩);exact k x (.tb f es) H8 (λc u e=>k8 _ _ (aN (g3.sm _ _ (s2 _ _ e)) hx) (s _ _ (g3.sm _ _ (s2 _ _ e)))) ⟨f,Z⟩ ⟨tt8,ok⟩
 | br =>
  refine xS (aE mm) (aE fV) ?_;refine ah (λz=>absurd (show PyData.eqv (.str "bare") (.str "lead")=true from z) (by decide +kernel)) (λ_=>?_);refine xS (aE mm) (aE eU) ?_;refine ah (λz=>absurd (show PyData.eqv (.str "bare") (.str "high")=true from z) (by decide +kernel)) (λ_=>?_);refine xS (aE mm) (aE fJ) ?_;refine ah (λz=>absurd (show PyData.eqv (.str "bare") (.str "low")=true from z) (by decide +kernel)) (λ_=>?_);refine xS (aE mm) (aE eT) ?_;refine ah (λz=>absurd (show PyData.eqv (.str "bare") (.str "shift")=true from z) (by decide +kernel)) (λ_=>?_);refine xS (aE mm) (aE fU) ?_;refine ah (λz=>absurd (show PyData.eqv (.str "bare") (.str "table")=true from z) (by decide +kernel)) (λ_=>?_);refine λx dx hx hdx hne=>?_;exact k x .br _ (ix hx hdx) Z ⟨dx,bc⟩
def GO:Sp:=λvs H Q _=>∃n,vs=[.int n]/\∀p H',bi H p (.lst ((row n).map V.int)) H'->Q (.ref p) H'
theorem Nm (T:Txt w K mg t):bp P w K mg base "_law_lead_row" 1 t.xX t.uS ["_law_sign"] GO:=by
 refine⟨T.Ow,T.Eo.kp,T.Q7,T.Eo.okQ Hn (λvs H Q E h=>by obtain⟨n,rfl,_⟩:=h;rfl) λ_ _ _ _ H vs Q E hr h=>?_⟩;obtain⟨n,rfl,k⟩:=h;refine⟨_,(af (av (au cV (aa 0) ae (ar _)) (ag (ap (aO (ab (aa 0) ad)))) aA)
  (af (av (au cV (aa 0) ae (ar _)) (ag (ap (aO (ab (aw (T2 K) ae (ck (aa 0))) (ab (aw (T2 K) ae (bB (aa 0))) ad))))) aA)
  (af (av (au cV (aa 0) ae (ar _)) (ag (ap (aO (ab (aw (T2 K) ae (ck (aa 0))) (ab (aw (T2 K) ae (bB (ck (aa 0)))) (ab (aw (T2 K) ae (bB (aa 0))) ad)))))) aA)
  (ag (ap (aO (ab (aw (T2 K) ae (ck (aa 0))) (ab (aw (T2 K) ae (bB (ck (aa 0)))) (ab (aw (T2 K) ae (bB (ck (aa 0)))) (ab (aw (T2 K) ae (bB (aa 0))) ad)))))))))),?_⟩
 unfold row at k;refine ah (λc1=>?_) (λc1=>?_)
 ·rw[if_pos (of_decide_eq_true c1)]at k;exact⟨sz Z,k⟩
 rw[if_neg (λz=>c1 (decide_eq_true z))]at k;refine ah (λc2=>?_) (λc2=>?_)
 ·rw[if_pos (of_decide_eq_true c2)]at k;exact⟨sz Z,k⟩
 rw[if_neg (λz=>c2 (decide_eq_true z))]at k;refine ah (λc3=>?_) (λc3=>?_)
 ·rw[if_pos (of_decide_eq_true c3)]at k;exact⟨sz Z,k⟩
 rw[if_neg (λz=>c3 (decide_eq_true z))]at k;exact⟨sz Z,k⟩
def GC:Sp:=λvs H Q _=>∃(n:Int) (h:Bool),vs=[.int n,.str (gQ h)]/\∀p H',aj H H'->H p=none->H' p=some (.lst ((fI h n).map V.int))->Q (.ref p) H'
theorem Nh (T:Txt w K mg t):bp P w K mg base "_law_pair_row" 1 t.xQ t.uM ["_law_sign", "_law_word"] GC:=by
 refine⟨T.Op,T.Ei.kp,T.QZ,T.Ei.okQ jn (λvs H Q E h=>by obtain⟨n,h,rfl,_⟩:=h;rfl) λ_ _ _ _ H vs Q E hr h=>?_⟩;obtain⟨n,h,rfl,k⟩:=h;have hu:=hr.units;refine⟨_,(af (aG (i:=2) jn.nd Z (.inl Z) (aO (ab (aa 0) ad)))
  (af (av (au fK (aa 0) ae (ar _)) (ag (aG (i:=2) jn.nd rfl (.inl rfl) (aO (ab (aw (T2 K) ae (ck (aw cD (aa 0) ae))) (ab (aw (T2 K) ae (bB (aa 0))) ad))))) aA)
  (af (aG (i:=3) jn.nd rfl (.inl rfl) (aO ad))
  (af (dt PassesOwn.never rfl (dI (K:=K) rfl (aa 2)) (aT (i:=4) jn.nd rfl (.inl rfl)) (ag (av (au (aX (K:=K) rfl hu) (aa 1) aU (ar _)) (ag (aG (i:=3) jn.nd rfl (.inl rfl) (aw (T2 K) (aa 3) (aO (ab (ck (aa 4)) (ab (bB (aa 4)) ad)))))) (ag (aG (i:=3) jn.nd rfl (.inl rfl) (aw (T2 K) (aa 3) (aO (ab (bB (aa 4)) (ab (ck (aa 4)) ad)))))))))
  (ag (ap (aa 3))))))),?_⟩
 refine⟨sz Z,λp1 H1 g1=>?_⟩;dsimp only [bT];refine ca (λσ' H'=>aj H H'/\∃pu,H' pu=some (.lst ((cz n).map V.int))/\σ'=[some (.int n),some (.str (gQ h)),some (.ref pu),none,none]) (λnx hn=>?_) ?_
 ·refine ah (λc=>?_) (λc=>?_)
  ·have c:n > 65535:=of_decide_eq_true c;refine⟨sz Z,λp2 H2 g2=>?_⟩;refine hn _ _ ⟨g1.sm.trans g2.sm,p2,?_,Z⟩;have e:cz n=[55296+(n-65536)/1024,56320+n%1024]:=by
    unfold cz;rw[if_neg (by lia)]
    congr 2
    lia
   rw[e];exact g2.at_
  ·have c:¬n > 65535:=λz=>c (decide_eq_true z);refine hn _ _ ⟨g1.sm,p1,?_,Z⟩;have e:cz n=[n]:=by unfold cz;rw[if_pos (by lia)]
   rw[e];exact g1.at_
 rintro σ' H2 ⟨s2,pu,hu2,rfl⟩;have lu:=sG n;refine⟨sz Z,λp3 H3 g3=>?_⟩;refine cy pu Z ⟨_,.of (g3.sm _ _ hu2)⟩ (ii (K:=K) (a:=pu) (xs:=(cz n).map V.int) (λi σ H'=>aj H3 H'/\∃(pr:Addr) (v4:Option V),H pr=none/\H' pr=some (.lst ((((cz n).take i).flatMap (ub h)).map V.int))/\σ=[some (.int n),some (.str (gQ h)),some (.ref pu),some (.ref pr),v4]) ⟨aj.refl _,p3,_,s2.free g3.nw,g3.at_,Z⟩ (λi σ H' _ z=>z.1.seq (.of (g3.sm _ _ hu2))) ?_ ?_)
 ·rintro i x σ H4 hx ⟨s4,pr,v4,_,h4,rfl⟩;obtain⟨m,hm,rfl⟩:=fk hx;have s04:=s2.trans (g3.sm.trans s4);have hi:i<(cz n).length:=(Uk.mp hm).1;have fl:=nI h ((cz n).take i);have lt:((cz n).take i).length<=2:=by rw[Ul];lia
  have e:((cz n).take (i+1)).flatMap (ub h)=((cz n).take i).flatMap (ub h)++ub h m:=by rw[f9 hm,V5];simp
  cases h with
  | true =>
   refine xS (aE eU) (aE eU) ?_;refine ah (λ_=>?_) (λz=>absurd (show PyData.eqv (.str "high") (.str "high")=true by decide +kernel) z);refine⟨sz Z,λp5 H5 g5=>?_⟩;refine fe (.of (g5.sm _ _ h4)) g5.lst (ci (by rw[Uc];show _+2<=_;lia)) (λp6 H6 g6=>?_);refine⟨s4.trans (g5.sm.trans g6.sm),p6,_,(s04.trans g5.sm).free g6.nw,?_,Z⟩;rw[e,Up];exact g6.at_
  | false =>
   refine xS (aE fJ) (aE eU) ?_;refine ah (λz=>absurd (show PyData.eqv (.str "low") (.str "high")=true from z) (by decide +kernel)) (λ_=>?_);refine⟨sz Z,λp5 H5 g5=>?_⟩;refine fe (.of (g5.sm _ _ h4)) g5.lst (ci (by rw[Uc];show _+2<=_;lia)) (λp6 H6 g6=>?_);refine⟨s4.trans (g5.sm.trans g6.sm),p6,_,(s04.trans g5.sm).free g6.nw,?_,Z⟩;rw[e,Up];exact g6.at_
 ·rintro σ H4 ⟨s4,pr,v4,n4,h4,rfl⟩;rw[Uc,UJ]at h4;exact k pr H4 (s2.trans (g3.sm.trans s4)) n4 h4
theorem h8(n:Int)(ns:List Int):bC (.int n) (ns.map V.int)=decide (n∈ns):=MT n ns
theorem i8(ns:List Int):(ns.map V.int).all fX=true:=by
 rw[Vz];intro x hx;obtain⟨n,_,rfl⟩:=Uu.mp hx
 rfl
def Gq(t:Adr):Sp:=λvs H Q _=>∃(p:Addr) (M:Md) (D:Kt) (n g:Int),vs=[.ref p,.int n,.int g]/\Mod H p M/\Mt M D/\fP D n/\bG D g/\∀pr q H',aj H H'->H q=none->H' q=some (.lst ((bS D g n).1.map V.int))->H' pr=some (.tup [.ref q,.int (bS D g n).2])->Q (.ref pr) H'
theorem Co (T:Txt w K mg t):bp P w K mg base "_law_spell" 2 t.xO t.uK ["_law_model_here", "_law_sign", "_law_page_here"] (Gq t):=by
 refine⟨T.On,T.Eg.kp,T.QX,T.Eg.okQ oS (λvs H Q E h=>by obtain⟨p,M,D,n,g,rfl,_⟩:=h;rfl) λ_ _ _ _ H vs Q E hr h=>?_⟩;obtain⟨p,M,D,n,g,rfl,⟨a,b,hp,ct⟩,mt,hin,pg,k⟩:=h;have hu:=hr.units;refine⟨_,(af (jy (aa 0) (fi (K:=K) Z Z (bI (aT (i:=3) oS.nd Z (.inl Z)) (bI (aT (i:=4) oS.nd Z (.inl Z)) (bI (aT (i:=5) oS.nd Z (.inl Z)) fh)))))
  (af (av (au (aX (K:=K) rfl hu) (aa 3) aU (ar _)) (ag (ap (bN (ab (aP (Nm T) hr (ab (aa 1) ad)) (ab ae ad))))) aA)
  (af (av (bO (cU (au (aX (K:=K) rfl hu) (aa 3) aU (ar _)) (db (au (aX (K:=K) rfl hu) (aa 3) aU (ar _))))) (ag (ap (bN (ab (aP (Nh T) hr (ab (aa 1) (ab (aa 3) ad))) (ab ae ad))))) aA)
  (af (av (bO (fR (au (aX (K:=K) rfl hu) (aa 3) aU (ar _)) (gb (au (jE (K:=K) rfl) (aa 1) (aa 4) (by with_unfolding_all rfl))))) (ag (ap (bN (ab (cv (T7 K) T.n_list UK (ab (ax (T5 K) (aa 5) (d7 (K:=K) rfl UH VC V9 (pN (K:=K) rfl) (aa 4) (ab (aa 1) ad)) (λ_ _=>rfl)) ad)) (ab ae ad))))) aA)
  (af (av (bO (fR (au (aX (K:=K) rfl hu) (aa 3) aU (ar _)) (gb (au (jE (K:=K) rfl) (aa 1) (ax (T5 K) (aa 0) (aw (T2 K) ae (aa 2)) (λ_ _=>rfl)) (by with_unfolding_all rfl))))) (ag (ap (bN (ab (aO (ab (d7 (K:=K) rfl UH VC V9 (pN (K:=K) rfl) (ax (T5 K) (aa 0) (aw (T2 K) ae (aa 2)) (λ_ _=>rfl)) (ab (aa 1) ad)) ad)) (ab (aa 2) ad))))) aA)
  (af (av (bO (fR (au (aX (K:=K) rfl hu) (aa 3) aU (ar _)) (gb (au (jE (K:=K) rfl) (aa 1) (ax (T5 K) (aa 0) (aw cD ae (aa 2)) (λ_ _=>rfl)) (by with_unfolding_all rfl))))) (ag (ap (bN (ab (aO (ab (aw cD ae (aa 2)) (ab (d7 (K:=K) rfl UH VC V9 (pN (K:=K) rfl) (ax (T5 K) (aa 0) (aw cD ae (aa 2)) (λ_ _=>rfl)) (ab (aa 1) ad)) ad))) (ab (aw cD ae (aa 2)) ad))))) aA)
  (ag (ap bL)))))))),?_⟩
 refine⟨p,_,Z,.of hp,Z,_,_,Z,_,_,Z,_,_,Z,Z,?_⟩;cases M with
 | ld =>
  obtain rfl:D=.ld:=mt;obtain rfl:g=0:=pg;refine xS (aE fV) (aE fV) ?_;refine ah (λ_=>?_) (λz=>absurd (show PyData.eqv (.str "lead") (.str "lead")=true by decide +kernel) z);refine gw n Z (λq H1 g1=>?_);exact⟨sz Z,λp2 H2 g2=>k p2 q H2 (g1.sm.trans g2.sm) g1.nw (g2.sm _ _ g1.at_) g2.at_⟩
 | pr h =>
  obtain rfl:D=.pr h:=mt;obtain rfl:g=0:=pg;cases h with
  | true =>
   refine xS (aE eU) (aE fV) ?_;refine ah (λz=>absurd (show PyData.eqv (.str "high") (.str "lead")=true from z) (by decide +kernel)) (λ_=>?_);refine xS (aE eU) (aE eU) ?_;refine ah (λ_=>?_) (λz=>absurd (show PyData.eqv (.str "high") (.str "high")=true by decide +kernel) z);refine i6 ?_;refine⟨n,true,Z,λq H1 s1 nq hq=>?_⟩;exact⟨sz Z,λp2 H2 g2=>k p2 q H2 (s1.trans g2.sm) nq (g2.sm _ _ hq) g2.at_⟩
  | false =>
   refine xS (aE fJ) (aE fV) ?_;refine ah (λz=>absurd (show PyData.eqv (.str "low") (.str "lead")=true from z) (by decide +kernel)) (λ_=>?_);refine xS (aE fJ) (aE eU) ?_;refine ah (λz=>absurd (show PyData.eqv (.str "low") (.str "high")=true from z) (by decide +kernel)) (λ_=>?_);refine xS (aE fJ) (aE fJ) ?_;refine ah (λ_=>?_) (λz=>absurd (show PyData.eqv (.str "low") (.str "low")=true by decide +kernel) z);refine⟨n,false,Z,λq H1 s1 nq hq=>?_⟩;exact⟨sz Z,λp2 H2 g2=>k p2 q H2 (s1.trans g2.sm) nq (g2.sm _ _ hq) g2.at_⟩
 | br =>
  obtain rfl:D=.br:=mt;exact hin.elim
 | tb es =>
  obtain⟨f,rfl⟩:=mt;obtain rfl:g=0:=pg;obtain⟨ha,⟨qs,hb,rw1⟩,ok⟩:=ct;refine xS (aE fU) (aE fV) ?_;refine ah (λz=>absurd (show PyData.eqv (.str "table") (.str "lead")=true from z) (by decide +kernel)) (λ_=>?_);refine xS (aE fU) (aE eU) ?_;refine ah (λz=>absurd (show PyData.eqv (.str "table") (.str "high")=true from z) (by decide +kernel)) (λ_=>?_);refine xS (aE fU) (aE fJ) ?_;refine ah (λz=>absurd (show PyData.eqv (.str "table") (.str "low")=true from z) (by decide +kernel)) (λ_=>?_);refine xS (aE fU) (aE fU) ?_;refine ah (λ_=>?_) (λz=>absurd (show PyData.eqv (.str "table") (.str "table")=true by decide +kernel) z);obtain⟨e0,he0,en0,ef0⟩:=mD hin;have hm:n∈es.map λe=>e.1:=Uu.mpr ⟨e0,he0,en0⟩;refine gK (.inl (.of ha)) Z (i8 _) ?_;refine ah (λ_=>?_) (λz=>?_)
  ·obtain⟨j,hj,_⟩:=jB hm;obtain⟨e1,e2⟩:=i7 hj;rw[Ug]at e1;obtain⟨ej,hej,enj⟩:=Va.mp e1;obtain⟨q,hq,hrow⟩:=rw1.left hej;have ee:ej=e0:=by
    rcases ok.two (Ur hej) he0 with z|z
    ·exact z
    ·unfold gj at z;rw[decide_eq_true (enj.trans en0.symm)]at z;cases z
   refine⟨.inl ⟨rfl,_,.of ha⟩,?_⟩;refine⟨_,_,_,j,rfl,rfl,ha,rfl,i8 _,⟨.int n,by rw[Ug,Ug,hej,<- enj];rfl,by simp[dC]⟩,λj' z hj' hz=>?_,?_⟩
   ·obtain⟨m,hm,rfl⟩:=fk hz;have:¬m=n:=λy=>e2 j' hj' (by rw[<- y];exact hm);simp[dC,this]
   refine⟨_,.ref q,.inl (.of hb),aB (by rw[Ug,hq];rfl),?_⟩;refine aY (.inl (.of hrow)) (λq2 H1 g1=>?_);have es':bS (.tb f es) 0 n=(e0.2,0):=by
    show (Option.map _ _).getD _=_;rw[ef0];rfl
   rw[ee]at g1;exact⟨sz rfl,λp2 H2 g2=>k p2 q2 H2 (g1.sm.trans g2.sm) g1.nw (by rw[es'];exact g2.sm _ _ g1.at_) (by rw[es'];exact g2.at_)⟩
  ·have z:¬bC (.int n) ((es.map λe=>e.1).map V.int)=true:=z;rw[h8]at z;exact absurd (decide_eq_true hm) z
 | sh ns ms =>
  obtain⟨f,rfl⟩:=mt;obtain⟨ha,hb,okn,okm⟩:=ct;have two:cP g:=pg;refine xS (aE eT) (aE fV) ?_;refine ah (λz=>absurd (show PyData.eqv (.str "shift") (.str "lead")=true from z) (by decide +kernel)) (λ_=>?_);refine xS (aE eT) (aE eU) ?_;refine ah (λz=>absurd (show PyData.eqv (.str "shift") (.str "high")=true from z) (by decide +kernel)) (λ_=>?_);refine xS (aE eT) (aE fJ) ?_;refine ah (λz=>absurd (show PyData.eqv (.str "shift") (.str "low")=true from z) (by decide +kernel)) (λ_=>?_);refine xS (aE eT) (aE fU) ?_;refine ah (λz=>absurd (show PyData.eqv (.str "shift") (.str "table")=true from z) (by decide +kernel)) (λ_=>?_);refine xS (aE eT) (aE eT) ?_;refine ah (λ_=>?_) (λz=>absurd (show PyData.eqv (.str "shift") (.str "shift")=true by decide +kernel) z);have hP:H (ao g a b)=some (.lst ((ao g ns ms).map V.int)):=by
   rcases two with rfl|rfl
   ·exact ha
   ·exact hb
  have hO:H (ao g b a)=some (.lst ((ao g ms ns).map V.int)):=by
   rcases two with rfl|rfl
   ·exact hb
   ·exact ha
  have eP:cW [V.str (cS (.sh ns ms)),.ref a,.ref b] (1+g)=some (.ref (ao g a b)):=by rcases two with rfl|rfl<;>rfl
  have eO:cW [V.str (cS (.sh ns ms)),.ref a,.ref b] (2-g)=some (.ref (ao g b a)):=by rcases two with rfl|rfl<;>rfl
  have mem:n∈ao g ns ms\/n∈ao g ms ns:=by
   rcases two with rfl|rfl
   ·exact hin
   ·exact hin.symm
  refine aV (.inr (.of hp)) eP ?_;refine gK (.inl (.of hP)) Z (i8 _) ?_;refine ah (λz=>?_) (λz=>?_)
  ·have z:bC (.int n) ((ao g ns ms).map V.int)=true:=z;rw[h8]at z;obtain⟨j,hj,_⟩:=jB (of_decide_eq_true z);obtain⟨e1,e2⟩:=i7 hj;refine aV (.inr (.of hp)) eP ?_;refine⟨.inl ⟨rfl,_,.of hP⟩,?_⟩;refine⟨_,_,_,j,rfl,rfl,hP,rfl,i8 _,⟨.int n,by rw[Ug,e1];rfl,by simp[dC]⟩,λj' z hj' hz=>?_,?_⟩
   ·obtain⟨m,hm,rfl⟩:=fk hz;have:¬m=n:=λy=>e2 j' hj' (by rw[<- y];exact hm);simp[dC,this]
   have es':bS (.sh f ns ms) g n=([(j:Int)],g):=by
    show (dX (ao g ns ms) (ao g ms ns) g (.int n)).getD _=_;unfold dX;dsimp only;rw[hj];rfl
   refine⟨sz Z,λq H1 g1=>?_⟩;exact⟨sz rfl,λp2 H2 g2=>k p2 q H2 (g1.sm.trans g2.sm) g1.nw (by rw[es'];exact g2.sm _ _ g1.at_) (by rw[es'];exact g2.at_)⟩
  ·have z:¬bC (.int n) ((ao g ns ms).map V.int)=true:=z;rw[h8]at z;have z:n∉ao g ns ms:=λy=>z (decide_eq_true y);have hmO:=mem.resolve_left z;refine xS (aE eT) (aE eT) ?_;refine ah (λ_=>?_) (λz=>absurd (show PyData.eqv (.str "shift") (.str "shift")=true by decide +kernel) z);refine aV (.inr (.of hp)) eO ?_;refine gK (.inl (.of hO)) Z (i8 _) ?_;refine ah (λ_=>?_) (λy=>?_)
   ·obtain⟨j,hj,_⟩:=jB hmO;obtain⟨e1,e2⟩:=i7 hj;refine aV (.inr (.of hp)) eO ?_;refine⟨.inl ⟨rfl,_,.of hO⟩,?_⟩;refine⟨_,_,_,j,rfl,rfl,hO,rfl,i8 _,⟨.int n,by rw[Ug,e1];rfl,by simp[dC]⟩,λj' z hj' hz=>?_,?_⟩
    ·obtain⟨m,hm,rfl⟩:=fk hz;have:¬m=n:=λy=>e2 j' hj' (by rw[<- y];exact hm);simp[dC,this]
    have es':bS (.sh f ns ms) g n=([254+(1-g),(j:Int)],1-g):=by
     show (dX (ao g ns ms) (ao g ms ns) g (.int n)).getD _=_;unfold dX;dsimp only;rw[gD.mpr z];dsimp only;rw[hj];rfl
    have e255:(255:Int)-g=254+(1-g):=by lia
    refine⟨sz Z,λq H1 g1=>?_⟩;dsimp only at g1;rw[e255]at g1;exact⟨sz rfl,λp2 H2 g2=>k p2 q H2 (g1.sm.trans g2.sm) g1.nw (by rw[es'];exact g2.sm _ _ g1.at_) (by rw[es'];exact g2.at_)⟩
   ·have y:¬bC (.int n) ((ao g ms ns).map V.int)=true:=y;rw[h8]at y;exact absurd (decide_eq_true hmO) y
theorem BE(M:Md):PyData.strOk (cS M)=true:=by
 cases M with
 | ld=>exact fV
 | pr h=>cases h with
  | true=>exact eU
  | false=>exact fJ
 | sh ns ms=>exact eT
 | tb es=>exact fU
 | br=>exact mm
theorem K9 {M:Md} (h:∀ns ms,M ≠ .sh ns ms):PyData.eqv (.str (cS M)) (.str "shift")=false:=by
 cases M with
 | ld=>exact show PyData.eqv (.str "lead") (.str "shift")=false by decide +kernel
 | pr b=>cases b with
  | true=>exact show PyData.eqv (.str "high") (.str "shift")=false by decide +kernel
  | false=>exact show PyData.eqv (.str "low") (.str "shift")=false by decide +kernel
 | sh ns ms=>exact absurd rfl (h ns ms)
 | tb es=>exact show PyData.eqv (.str "table") (.str "shift")=false by decide +kernel
 | br=>exact show PyData.eqv (.str "bare") (.str "shift")=false by decide +kernel
def za:Md->Bool
 | .ld=>true
 | .pr _=>true
 | _=>false
theorem Cc (M:Md):bC (.str (cS M)) [.str "lead",.str "high",.str "low"]=za M:=by
 cases M with
 | ld=>exact show bC (.str "lead") [.str "lead",.str "high",.str "low"]=true by decide +kernel
 | pr h=>cases h with
  | true=>exact show bC (.str "high") [.str "lead",.str "high",.str "low"]=true by decide +kernel
  | false=>exact show bC (.str "low") [.str "lead",.str "high",.str "low"]=true by decide +kernel
 | sh ns ms=>exact show bC (.str "shift") [.str "lead",.str "high",.str "low"]=false by decide +kernel
 | tb es=>exact show bC (.str "table") [.str "lead",.str "high",.str "low"]=false by decide +kernel
 | br=>exact show bC (.str "bare") [.str "lead",.str "high",.str "low"]=false by decide +kernel
theorem Mp{M:Md}(h:za M=true){D:Kt}(m:Mt M D){n:Int}(s:Sg n):fP D n:=by
 cases M with
 | ld=>obtain rfl:D=.ld:=m;exact s
 | pr b=>obtain rfl:D=.pr b:=m;exact s
 | _=>cases h
def Sr:Md->Int->Prop
 | .sh ns ms,n=>n∉ns/\n∉ms
 | .tb es,n=>∀e∈es,e.1≠n
 | _,_=>True
theorem MS(n:Int)(qs:List Addr):bC (.int n) (qs.map V.ref)=false:=by
 unfold bC;rw[List.any_eq_false];intro x hx;obtain⟨q,_,rfl⟩:=Uu.mp hx;simp[dC]
theorem Mod.two{H:Hp}{p:Addr}{M:Md}(h:Mod H p M):∃a b xs ys zs,H p=some (.tup [.str (cS M),.ref a,.ref b])/\H a=some (.lst (xs.map V.int))/\H b=some (.lst ys)/\(∀y∈ys,Su H y)/\(∀n:Int,bC (.int n) ys=decide (n∈zs))/\xs.length<=250/\zs.length<=250/\(∀n:Int,n∉xs->n∉zs->Sr M n)/\(za M=false->∀D,Mt M D->∀n∈xs,fP D n)/\(∀ns ms,M=.sh ns ms->xs=ns/\zs=ms/\ys=ms.map V.int):=by
 obtain⟨a,b,hp,ct⟩:=h;cases M with
 | ld=>exact⟨a,b,[],[],[],hp,ct.1,ct.2,(λ_ h=>nomatch h),λ_=>rfl,by decide,by decide,λ_ _ _=>trivial,(λh=>nomatch h),(λ_ _ h=>nomatch h)⟩
 | pr h=>exact⟨a,b,[],[],[],hp,ct.1,ct.2,(λ_ h=>nomatch h),λ_=>rfl,by decide,by decide,λ_ _ _=>trivial,(λh=>nomatch h),(λ_ _ h=>nomatch h)⟩
 | br=>exact⟨a,b,[],[],[],hp,ct.1,ct.2,(λ_ h=>nomatch h),λ_=>rfl,by decide,by decide,λ_ _ _=>trivial,(λ_ _ _ _ h=>nomatch h),(λ_ _ h=>nomatch h)⟩
 | sh ns ms =>
  obtain⟨ha,hb,okn,okm⟩:=ct;refine⟨a,b,ns,_,ms,hp,ha,hb,λy hy=>?_,λn=>h8 n ms,okn.2.2,okm.2.2,λn h1 h2=>⟨h1,h2⟩,λ_ D mt n hn=>?_,λns' ms' e=>?_⟩
  ·obtain⟨m,_,rfl⟩:=Uu.mp hy;exact .inl Z
  ·obtain⟨f,rfl⟩:=mt;exact .inl hn
  ·cases e;exact⟨rfl,rfl,rfl⟩
 | tb es =>
  obtain⟨ha,⟨qs,hb,rw1⟩,ok⟩:=ct;refine⟨a,b,es.map λe=>e.1,_,[],hp,ha,hb,λy hy=>?_,λn=>MS n qs,by rw[Uc];have:=ok.l;lia,by decide,λn h1 _ e he z=>h1 (Uu.mpr ⟨e,he,z⟩),λ_ D mt n hn=>?_,(λ_ _ h=>nomatch h)⟩
  ·obtain⟨q,hq,rfl⟩:=Uu.mp hy;obtain⟨j,hj⟩:=Xc.mp hq;obtain⟨e,_,he⟩:=rw1.right hj;exact .inr ⟨q,_,Z,he⟩
  ·obtain⟨f,rfl⟩:=mt;obtain⟨e,he,en⟩:=Uu.mp hn;exact⟨e,he,en⟩
def Gi(K:PySem.W.Frag):Sp:=λvs H Q _=>∃(p c:Addr) (M:Md) (cs:List Int),vs=[.ref p,.ref c]/\Mod H p M/\aF K H c (cs.map V.int)/\cs.length<=100/\∀q (ts:List Int) H',aj H H'->H' q=some (.lst (ts.map V.int))->ts.length<=100->(ts=[]\/ts.length=cs.length)->(∀D,Mt M D->∀n∈ts,fP D n)->Q (.ref q) H'
theorem Nd (T:Txt w K mg t):bp P w K mg base "_law_text" 3 t.xM t.uI ["_law_model_here", "_law_cells"] (Gi K):=by
 refine⟨T.Ol,T.Ee.kp,T.QU,T.Ee.okQ j3 (λvs H Q E h=>by obtain⟨p,c,M,cs,rfl,_⟩:=h;rfl) λ_ _ _ _ H vs Q E hr h=>?_⟩;obtain⟨p,c,M,cs,rfl,mod,hc,lc,k⟩:=h;have hu:=hr.units;obtain⟨a,b,xs,ys,zs,hp,ha,hb,fl,iy,lx,lz,lk,ld,sh⟩:=mod.two;refine⟨_,(af (jy (aa 0) (fi (K:=K) Z Z (bI (aT (i:=2) j3.nd Z (.inl Z)) (bI (aT (i:=3) j3.nd Z (.inr Z)) (bI (aT (i:=4) j3.nd Z (.inl Z)) fh)))))
  (af (av (au (jE (K:=K) rfl) (aa 2) (bN (iX rfl)) (by with_unfolding_all rfl)) (ag (ap (fT rfl (cZ.of (fns:=(ak iz).names) (N:=["_law_model_here", "_law_cells", "_law_word", "_law_first", "_law_second", "_law_some"]) (Nc:=["_law_cell"]) (nv:=1) (caps:=[]) rfl rfl (by decide +kernel)) (dI (K:=K) rfl (aa 1)) (λ_ _ _ _=>(aT (i:=0) (show List.Nodup (["_law_cell"]:List Str) by decide +kernel) rfl (Or.inl rfl) (Or.inr rfl))) (λ_ _ _ _=>fg) (λ_ _ _ _=>(aP (Nq T) hr (ab (aa 0) ad)))))) aA)
  (af (aG (i:=5) j3.nd rfl (.inr rfl) (cv (T7 K) T.n_list UK (ab (aa 3) ad)))
  (af (av (au (aX (K:=K) rfl hu) (aa 2) aU (ar _)) (ag (aG (i:=5) j3.nd rfl (.inr rfl) (aw (T2 K) (aa 3) (fT rfl (cZ.of (fns:=(ak iz).names) (N:=["_law_model_here", "_law_cells", "_law_word", "_law_first", "_law_second", "_law_some"]) (Nc:=["_law_sign", "_law_first"]) (nv:=1) (caps:=[3]) rfl rfl (by decide +kernel)) (dI (K:=K) rfl (aa 4)) (λ_ _ _ _=>(aT (i:=0) (show List.Nodup (["_law_sign", "_law_first"]:List Str) by decide +kernel) rfl (Or.inl rfl) (Or.inr rfl))) (λ_ _ _ _=>(IS (au (uo (K:=K) rfl) (aa 0) (aa 1) (by with_unfolding_all rfl)))) (λ_ _ _ _=>(aa 0)))))) aA)
  (af (av (au (aX (K:=K) rfl hu) (aa 5) (aO ad) (ar _)) (ag (ap (aO ad))) aA)
  (ag (ap (fT rfl (cZ.of (fns:=(ak iz).names) (N:=["_law_model_here", "_law_cells", "_law_word", "_law_first", "_law_second", "_law_some"]) (Nc:=["_law_cell", "_law_some"]) (nv:=1) (caps:=[5]) rfl rfl (by decide +kernel)) (dI (K:=K) rfl (aa 1)) (λ_ _ _ _=>(aT (i:=0) (show List.Nodup (["_law_cell", "_law_some"]:List Str) by decide +kernel) rfl (Or.inl rfl) (Or.inr rfl))) (λ_ _ _ _=>fg) (λ_ _ _ _=>(ax (T5 K) (aa 1) (aw qj (aa 0) (bh (T4 K) T.n_len Ui (ab (aa 1) ad))) (λ_ _=>rfl))))))))))),?_⟩
 refine⟨p,_,Z,.of hp,Z,_,_,Z,_,_,Z,_,_,Z,Z,?_⟩;refine⟨sz Z,λp1 H1 g1=>?_⟩;refine gK (.inr g1.tup) Z Z ?_;have hc1:=g1.sm.seq hc;refine ah (λz=>?_) (λz=>?_)
 ·have z:bC (.str (cS M)) [.str "lead",.str "high",.str "low"]=true:=z;rw[Cc]at z;refine cy c rfl ⟨_,hc1⟩ (rf (K:=K) (a:=c) (xs:=cs.map V.int) (λi ys H'=>aj H1 H'/\∃ts:List Int,ys=ts.map V.int/\ts.length=i/\∀n∈ts,Sg n) ⟨aj.refl _,[],rfl,rfl,(λn h=>nomatch h)⟩ (λi ys H' _ z=>⟨z.1.seq hc1,by obtain⟨_,ts,rfl,l,_⟩:=z;rw[Uc];lia⟩) (ci (by rw[Uc];lia)) (λi x ys H' N hx y hN=>?_) λys H' q H'' y g=>?_)
  ·obtain⟨s',ts,rfl,l,hs⟩:=y;obtain⟨m,hm,rfl⟩:=fk hx;simp only [gy,if_true];refine gw m rfl (λn H2 s2 hn=>hN _ _ ⟨s'.trans s2,ts++[n],by rw[Up];rfl,by rw[Ud,l];rfl,λn' hn'=>?_⟩);rcases Us.mp hn' with y|y
   ·exact hs n' y
   ·rw[Uq.mp y];exact hn
  ·obtain⟨s',ts,rfl,l,hs⟩:=y;rw[Uc]at l;exact k q ts H'' (g1.sm.trans (s'.trans g.sm)) g.at_ (by lia) (.inr l) λD m n hn=>Mp z m (hs n hn)
 have z:¬bC (.str (cS M)) [.str "lead",.str "high",.str "low"]=true:=z;rw[Cc,V1]at z;refine aY (.inl (.of (g1.sm _ _ ha))) (λp2 H2 g2=>?_);have s2:=g1.sm.trans g2.sm;dsimp only [bT];refine ca (λσ' H'=>aj H H'/\∃(ps:Addr) (ss:List Int),H' ps=some (.lst (ss.map V.int))/\ss.length<=500/\(∀D,Mt M D->∀n∈ss,fP D n)/\σ'=[some (.ref p),some (.ref c),some (.str (cS M)),some (.ref a),some (.ref b),some (.ref ps)]) (λnx hn=>?_) ?_
 ·refine xS (aE (BE M)) (aE eT) ?_;refine ah (λy=>?_) (λy=>?_)
  ·have y:PyData.eqv (.str (cS M)) (.str "shift")=true:=y;obtain⟨ns,ms,eM⟩:∃ns ms,M=.sh ns ms:=by
    cases M with
    | sh ns ms=>exact⟨ns,ms,rfl⟩
    | _=>rw[K9 (λ_ _ h=>by cases h)]at y;cases y
   obtain⟨rfl,rfl,rfl⟩:=sh ns ms eM;have hb2:aF K H2 b (zs.map V.int):=.of (s2 _ _ hb);refine cy b rfl ⟨_,hb2⟩ (rf (K:=K) (a:=b) (xs:=zs.map V.int) (λi ys H'=>aj H2 H'/\∃ts:List Int,ys=ts.map V.int/\ts.length<=i/\∀n∈ts,n∈zs) ⟨aj.refl _,[],rfl,Ue _,(λn h=>nomatch h)⟩ (λi ys H' _ z=>⟨z.1.seq hb2,by obtain⟨_,ts,rfl,l,_⟩:=z;rw[Uc];lia⟩) (ci (by rw[Uc];lia)) (λi x ys H' N hx y hN=>?_) λys H' q H'' y g=>?_)
   ·obtain⟨s',ts,rfl,l,hs⟩:=y;obtain⟨m,hm,rfl⟩:=fk hx;refine gK (.inl (.of (s' _ _ (s2 _ _ ha)))) Z (i8 _) ?_;refine ah (λ_=>?_) (λ_=>?_)
    ·refine hN _ _ ⟨s',ts++[m],by rw[Up];rfl,by rw[Ud];show _+1<=_;lia,λn' hn'=>?_⟩;rcases Us.mp hn' with y|y
     ·exact hs n' y
     ·rw[Uq.mp y];exact Ur hm
    ·exact hN _ _ ⟨s',ts,rfl,by lia,hs⟩
   ·obtain⟨s',ts,rfl,l,hs⟩:=y;rw[Uc]at l;have s3:=s2.trans (s'.trans g.sm);refine fe (.of (s3 _ _ ha)) g.lst (ci (by rw[Uc,Uc];lia)) (λp4 H4 g4=>?_);refine hn _ _ ⟨s3.trans g4.sm,p4,xs++ts,by rw[Up];exact g4.at_,by rw[Ud];lia,λD mt n hn=>?_,rfl⟩;rw[eM]at mt;obtain⟨f,rfl⟩:=mt;rcases Us.mp hn with y|y
    ·exact .inl y
    ·exact .inr (hs n y)
  ·exact hn _ _ ⟨s2,p2,xs,g2.at_,by lia,ld z,rfl⟩
 ·rintro σ' H3 ⟨s3,ps,ss,hps,lss,hss,rfl⟩;refine⟨sz Z,λp4 H4 g4=>?_⟩;have hps4:=g4.sm _ _ hps;refine gS (ns:=ss) (ms:=[]) (.of hps4) g4.lst ?_;refine ah (λy=>?_) (λy=>?_)
  ·exact⟨sz rfl,λp5 H5 g5=>k p5 [] H5 (s3.trans (g4.sm.trans g5.sm)) g5.at_ (by decide) (.inl rfl) (λ_ _ _ h=>nomatch h)⟩
  ·have y:¬ss=[]:=λe=>y (decide_eq_true e);have pos:0<ss.length:=by cases ss with|nil=>exact absurd rfl y|cons _ _=>exact Wz _
   have hc4:=(s3.trans g4.sm).seq hc;refine cy c rfl ⟨_,hc4⟩ (rf (K:=K) (a:=c) (xs:=cs.map V.int) (λi ys H'=>aj H4 H'/\∃ts:List Int,ys=ts.map V.int/\ts.length=i/\∀n∈ts,n∈ss) ⟨aj.refl _,[],rfl,rfl,(λn h=>nomatch h)⟩ (λi ys H' _ z=>⟨z.1.seq hc4,by obtain⟨_,ts,rfl,l,_⟩:=z;rw[Uc];lia⟩) (ci (by rw[Uc];lia)) (λi x ys H' N hx y hN=>?_) λys H' q H'' y g=>?_)
   ·obtain⟨s',ts,rfl,l,hs⟩:=y;obtain⟨m,hm,rfl⟩:=fk hx;simp only [gy,if_true];refine aY (.inl (.of (s' _ _ hps4))) ?_;rw[Uc];refine⟨by lia,?_⟩;obtain⟨v,hv,e1,_⟩:=rJ (xs:=ss.map V.int) (i:=m%(ss.length:Int)) (Int.emod_nonneg _ (by lia)) (by rw[Uc];exact Int.emod_lt_of_pos _ (by lia));obtain⟨n,hn,rfl⟩:=Uu.mp hv;refine aV (.inl (.of (s' _ _ hps4))) e1 ?_;refine hN _ _ ⟨s',ts++[n],by rw[Up];rfl,by rw[Ud,l];rfl,λn' hn'=>?_⟩;rcases Us.mp hn' with y|y
    ·exact hs n' y
    ·rw[Uq.mp y];exact hn
   ·obtain⟨s',ts,rfl,l,hs⟩:=y;rw[Uc]at l;exact k q ts H'' (s3.trans (g4.sm.trans (s'.trans g.sm))) g.at_ (by lia) (.inr l) λD m n hn=>hss D m n (hs n hn)
def Gx(K:PySem.W.Frag)(t:Adr):Sp:=λvs H Q _=>∃(p c:Addr) (M:Md) (cs:List Int),vs=[.ref p,.ref c]/\Mod H p M/\aF K H c (cs.map V.int)/\cs.length<=62/\(∃D,Mt M D/\c9 D)/\∀q (r:List Int) H',aj H H'->H' q=some (.lst (r.map V.int))->bj r->r.length<=400->Q (.ref q) H'
theorem Di:∀b∈([0,65,127,128,143,144,159,160,187,188,191,192,193,194,216,219,220,223,224,237,238,239,240,244,245,253,254,255]:List Int),0<=b/\b<=255:=by decide
theorem QH{xs ys:List Int}(h:bj xs)(g:bj ys):bj (xs++ys):=λx hx=>(Us.mp hx).elim (h x) (g x)
theorem Gb{D:Kt}{g n:Int}(ok:c9 D)(pg:bG D g)(hn:fP D n):bj (bS D g n).1:=by
 cases D with
 | ld =>
  obtain⟨h0,h1,h2,h3⟩:=id hn;intro b hb;have hb:b∈row n:=hb;unfold row at hb
  split at hb
  ·simp at hb;lia
  ·split at hb
   ·simp at hb;lia
   ·split at hb<;>simp at hb<;>lia
 | pr h=>exact JK h hn
 | sh f ns ms =>
  obtain⟨r,g',e,_,hr⟩:=Ae pg hn;rw[Ad e];have two:cP g:=pg;have l1:∀c:Int,0<=c->∀xs:List Int,xs.length<=250->xs[c.toNat]? = some n->0<=c/\c<=255:=λc c0 xs lx e=>by
   have:=(Uk.mp e).1
   lia
  have a1:=ok.1.2.2;have a2:=ok.2.2.2;have s1:(ao g ns ms).length<=250/\(ao g ms ns).length<=250:=by rcases two with rfl|rfl<;>exact⟨by assumption,by assumption⟩
  rcases hr with ⟨b,rfl,b0,eb,_⟩|⟨c,rfl,c0,ec,_⟩
  ·intro x hx;rw[Uq.mp hx];exact l1 b b0 _ s1.1 eb
  ·have:=l1 c c0 _ s1.2 ec;intro x hx;rcases Uy.mp hx with rfl|hx
   ·rcases two with rfl|rfl<;>decide
   ·rw[Uq.mp hx];exact this
 | tb f es =>
  obtain⟨e,he,_,ef⟩:=mD hn;have es':bS (.tb f es) g n=(e.2,g):=by
   show (Option.map _ _).getD _=_;rw[ef];rfl
  rw[es'];exact (Es.sg ok e he).2.2.2
 | br=>exact hn.elim
theorem Ng (T:Txt w K mg t):bp P w K mg base "_law_row" 4 t.xP t.uL ["_law_model_here", "_law_cells"] (Gx K t):=by
 refine⟨T.Oo,T.Eh.kp,T.QY,T.Eh.okQ fQ (λvs H Q E h=>by obtain⟨p,c,M,cs,rfl,_⟩:=h;rfl) λ_ _ _ _ H vs Q E hr h=>?_⟩;obtain⟨p,c,M,cs,rfl,mod,hc,lc,⟨D,mt,ok⟩,k⟩:=h;have hu:=hr.units;refine⟨_,(af (aG (i:=2) fQ.nd Z (.inl Z) (aO (iX Z)))
  (af (aG (i:=2) fQ.nd rfl (.inl rfl) (aw (T2 K) (aa 2) (aO (iX rfl))))
  (af (aG (i:=3) fQ.nd rfl (.inl rfl) (aP (Nd T) hr (ab (aa 0) (ab (aa 1) ad))))
  (af (aG (i:=4) fQ.nd rfl (.inl rfl) (aO ad))
  (af (aG (i:=5) fQ.nd rfl (.inl rfl) ae)
  (af (dt PassesOwn.never rfl (m6 (K:=K) rfl rfl T.n_enumerate (ab (aa 1) ad)) (fi (K:=K) rfl rfl (bI (aT (i:=6) fQ.nd rfl (.inl rfl)) (bI (aT (i:=7) fQ.nd rfl (.inl rfl)) fh))) (af (aG (i:=8) fQ.nd rfl (.inl rfl) (bB (ck (aa 7))))
  (ag (av (bO (fR (au (ie (K:=K) rfl hu) (aa 3) (aO ad) (ar _)) (gb (au cV (aa 8) ae (ar _))))) (af (jy (aP (Co T) hr (ab (aa 0) (ab (ax (T5 K) (aa 3) (aa 6) (λ_ _=>rfl)) (ab (aa 5) ad)))) (fi (K:=K) rfl rfl (bI (aT (i:=9) fQ.nd rfl (.inl rfl)) (bI (aT (i:=10) fQ.nd rfl (.inl rfl)) fh))))
  (af (av (au (aX (K:=K) rfl hu) (aa 8) ae (ar _)) (ag (aG (i:=9) fQ.nd rfl (.inl rfl) (du (T6 K) (aa 9) eS (cA (aw qj (ck (aa 7)) (bh (T4 K) T.n_len Ui (ab (aa 9) ad))))))) (ag (aG (i:=5) fQ.nd rfl (.inl rfl) (aa 10))))
  (ag (aG (i:=4) fQ.nd rfl (.inl rfl) (aw (T2 K) (aa 4) (aa 9)))))) (ag (av (au (aX (K:=K) rfl hu) (aa 8) ae (ar _)) (ag (df (d7 (K:=K) rfl UH UZ U0 gR (aa 4) (ab (bB (ck (aa 7))) ad)))) (ag (df (d7 (K:=K) rfl UH UZ U0 gR (aa 4) (ab (ax (T5 K) (aa 2) (bB (ck (aa 7))) (λ_ _=>rfl)) ad))))))))))
  (ag (ap (aa 4))))))))),?_⟩
 refine⟨sz Z,λp1 H1 g1=>?_⟩;refine⟨sz Z,λp2 H2 g2=>?_⟩;refine fe (.of (g2.sm _ _ g1.at_)) g2.lst (sz Z) (λpe H3 g3=>?_);have s3:=g1.sm.trans (g2.sm.trans g3.sm);refine⟨p,c,M,cs,rfl,mod.mono s3,s3.seq hc,by lia,λq ts H4 s4 hq lt le ht=>?_⟩;refine⟨sz Z,λp5 H5 g5=>?_⟩;have s5:=s3.trans (s4.trans g5.sm);have he:=(s4.trans g5.sm) _ _ g3.at_;have hq5:=g5.sm _ _ hq;refine aW c _ rfl (s5.seq hc) (nH (K:=K) (a:=c) (xs:=cs.map V.int) (λi σ H'=>aj H4 H'/\∃(r:Addr) (xs:List Int) (g:Int) (v6 v7 v8 v9 v10:Option V),H4 r=none/\H' r=some (.lst (xs.map V.int))/\bj xs/\xs.length<=6*i/\bG D g/\σ=[some (.ref p),some (.ref c),some (.ref pe),some (.ref q),some (.ref r),some (.int g),v6,v7,v8,v9,v10]) ⟨g5.sm,p5,[],0,_,_,_,_,_,g5.nw,g5.at_,(λx h=>nomatch h),Ue _,nh D,rfl⟩ (λi σ H' _ z=>((s3.trans s4).trans z.1).seq hc) ?_ ?_)
 ·rintro i x p6 σ H6 H7 hx ⟨s6,r,xs,g,v6,v7,v8,v9,v10,nr,hr6,bx,lx,pg,rfl⟩ g7;obtain⟨n,hn,rfl⟩:=fk hx;have hi:i<cs.length:=(Uk.mp hn).1;refine⟨p6,_,Z,g7.tup,Z,_,_,Z,_,_,Z,Z,?_⟩;have s7:=s6.trans g7.sm;have s07:=(s3.trans s4).trans s7;have hr7:=g7.sm _ _ hr6;have hq7:=s7 _ _ hq;refine⟨sz Z,λp8 H8 g8=>?_⟩;refine gS (ns:=ts) (ms:=[]) (.of (g8.sm _ _ hq7)) g8.lst ?_;refine ah (λz=>?_) (λz=>?_)
  ·refine ah (λy=>?_) (λy=>?_)
   ·have z:¬ts=[]:=λe=>by have z:(!decide (ts=[]))=true:=z;rw[decide_eq_true e]at z;cases z
    have lts:=le.resolve_left z;have s8:=s7.trans g8.sm;obtain⟨m,hm⟩:∃m,ts[i]? = some m:=⟨_,UL (by lia)⟩;have hI:=ht D mt m (Ur hm);refine⟨_,.int m,.inl (.of (s8 _ _ hq)),aB (j:=i) (by rw[Ug,hm];rfl),?_⟩;refine bK p M D m g Z (mod.mono ((s3.trans s4).trans s8)) mt hI pg (λpr q1 H9 s9 nq1 hq1 hpr=>?_);refine⟨pr,_,Z,.of hpr,Z,_,_,Z,_,_,Z,Z,?_⟩;obtain⟨r1,g',eO,ef,pg',sl⟩:=sS ok.kok pg hI;have by1:=Gb ok pg hI;have ps1:=sR ok.kok pg hI;rw[ef]at hq1 hpr by1 ps1;dsimp only at hq1 hpr by1 ps1;rw[ef];dsimp only [bT];refine ca (λσ' H'=>∃(q2:Addr) (x2:List Int) (g2:Int) (v10:Option V),aj H9 H'/\H' q2=some (.lst (x2.map V.int))/\bj x2/\x2.length<=6/\bG D g2/\σ'=[some (.ref p),some (.ref c),some (.ref pe),some (.ref q),some (.ref r),some (.int g2),some (.int (i:Int)),some (.int n),some (.int (n/8%5)),some (.ref q2),v10]) (λnx hn=>?_) ?_
    ·refine ah (λ_=>?_) (λ_=>?_)
     ·refine aY (.inl (.of hq1)) ?_;rw[Uc];refine⟨by lia,?_⟩;refine⟨_,Z,_,.of hq1,λq2 H10 g10=>?_⟩;rw[fz]at g10;exact hn _ _ ⟨q2,_,g,_,g10.sm,g10.at_,(λx hx=>by1 x (P0 hx)),UE (P2 _ _ _) sl,pg,Z⟩
     ·exact hn _ _ ⟨q1,r1,g',_,aj.refl _,hq1,by1,sl,pg',Z⟩
    ·rintro σ' H10 ⟨q2,x2,g2,v10',s10,hq2,by2,l2,pg2,rfl⟩;have s810:=s9.trans s10;refine fe (.of (s810 _ _ (g8.sm _ _ hr7))) (.of hq2) (ci (by rw[Uc,Uc];lia)) (λq3 H11 g11=>?_);have hg:=g11.at_;rw[<- Up]at hg;exact⟨(s8.trans s810).trans g11.sm,q3,xs++x2,g2,_,_,_,_,_,(s8.trans s810).free g11.nw,hg,QH bx by2,by rw[Ud];lia,pg2,rfl⟩
   ·have s8:=s7.trans g8.sm;have hr8:=g8.sm _ _ hr7;refine ah (λ_=>?_) (λ_=>?_)
    ·refine⟨.inl ⟨rfl,_,.of hr8⟩,?_⟩;refine dq hr8 (eQ (by rw[Uc];lia)) ?_;exact⟨s8.put nr,r,xs++[n/40%256],g,_,_,_,_,_,nr,by rw[bc,Up];rfl,im bx (by lia) (by lia),by rw[Ud];show _+1<=_;lia,pg,rfl⟩
    ·refine⟨.inl ⟨rfl,_,.of hr8⟩,?_⟩;obtain⟨v,hv,e1,_⟩:=rJ (xs:=(([0,65,127,128,143,144,159,160,187,188,191,192,193,194,216,219,220,223,224,237,238,239,240,244,245,253,254,255]:List Int).map V.int)) (i:=n/40%28) (by lia) (by simp;lia);obtain⟨b,hb,rfl⟩:=Uu.mp hv;have hb:=Di b hb;refine aV (.inl (.of ((s4.trans s8) _ _ g3.at_))) e1 ?_;refine dq hr8 (eQ (by rw[Uc];lia)) ?_;exact⟨s8.put nr,r,xs++[b],g,_,_,_,_,_,nr,by rw[bc,Up];rfl,im bx hb.1 hb.2,by rw[Ud];show _+1<=_;lia,pg,rfl⟩
  ·refine B7 ?_;have s8:=s7.trans g8.sm;have hr8:=g8.sm _ _ hr7;refine ah (λ_=>?_) (λ_=>?_)
   ·refine⟨.inl ⟨rfl,_,.of hr8⟩,?_⟩;refine dq hr8 (eQ (by rw[Uc];lia)) ?_;exact⟨s8.put nr,r,xs++[n/40%256],g,_,_,_,_,_,nr,by rw[bc,Up];rfl,im bx (by lia) (by lia),by rw[Ud];show _+1<=_;lia,pg,rfl⟩
   ·refine⟨.inl ⟨rfl,_,.of hr8⟩,?_⟩;obtain⟨v,hv,e1,_⟩:=rJ (xs:=(([0,65,127,128,143,144,159,160,187,188,191,192,193,194,216,219,220,223,224,237,238,239,240,244,245,253,254,255]:List Int).map V.int)) (i:=n/40%28) (by lia) (by simp;lia);obtain⟨b,hb,rfl⟩:=Uu.mp hv;have hb:=Di b hb;refine aV (.inl (.of ((s4.trans s8) _ _ g3.at_))) e1 ?_;refine dq hr8 (eQ (by rw[Uc];lia)) ?_;exact⟨s8.put nr,r,xs++[b],g,_,_,_,_,_,nr,by rw[bc,Up];rfl,im bx hb.1 hb.2,by rw[Ud];show _+1<=_;lia,pg,rfl⟩
 ·rintro σ H6 ⟨s6,r,xs,g,v6,v7,v8,v9,v10,nr,hr6,bx,lx,pg,rfl⟩;exact k r xs H6 ((s3.trans s4).trans s6) hr6 bx (by rw[Uc]at lx;lia)
def c8(D:Kt)(g:Int)(r:List Int):Prop:=∀m,0<m->m*am D<=r.length->be D g (r.take (m*am D))=.mo
theorem jS(D:Kt):1<=am D/\am D<=2:=by cases D<;>simp[am]
theorem c8.nil(D:Kt)(g:Int):c8 D g []:=λm h0 h=>by
 have:=jS D;have:1<=m*am D:=Nat.mul_pos h0 (by lia);rw[Wh]at h
 lia
theorem c8.take{D:Kt}{g:Int}{r:List Int}(h:c8 D g r)(n:Nat):c8 D g (r.take n):=λm h0 hl=>by
 rw[Ul]at hl;rw[Wp,UT (by lia)];exact h m h0 (by lia)
def zd(D:Kt)(g:Int)(k:Str)(bs nx:List Int):Prop :=
 (k = "strange"/\bs.length=am D/\be D g bs=.no)\/(k = "broken"/\bs.length%am D=0/\c8 D g bs/\am D<=nx.length/\be D g (bs++nx.take (am D))=.no)\/(k = "short"/\nx=[]/\c8 D g bs)
inductive fD (D:Kt):Int->Nat->List Int->List Ev->Prop where
 | nil (g:Int) (p:Nat):fD D g p [] []
 | sg {g:Int} {p:Nat} {n:Int} {bs:List Int} {es:List Ev} (h:fP D n) (pg:bG D g) (k:fD D (bS D g n).2 (p+(bS D g n).1.length) bs es):fD D g p ((bS D g n).1++bs) (.sg n::es)
 | ft {g:Int} {p:Nat} {kd:Str} {xs bs:List Int} {es:List Ev} (h:zd D g kd xs bs) (b:bj xs) (l:1<=xs.length) (pg:bG D g) (k:fD D g (p+xs.length) bs es):fD D g p (xs++bs) (.ft p xs.length kd xs::es)
noncomputable def gG(D:Kt)(g:Int)(r:List Int)(c:Nat)(bs:List Int):List Ev:=(run D g r c bs).2.2++ij (c+bs.length) (run D g r c bs).2.1
theorem Pw(D:Kt)(g:Int)(r:List Int)(c:Nat)(b:Int)(bs:List Int):gG D g r c (b::bs)=(bM D g r (c+1) b).2.2++gG D (bM D g r (c+1) b).1 (bM D g r (c+1) b).2.1 (c+1) bs:=by
 unfold gG;simp only [run];rw[UN,UB,show c+(bs.length+1)=c+1+bs.length by lia]
theorem BZ{D:Kt}{g:Int}{r:List Int}{b:Int}(h:c8 D g r)(dv:(r++[b]).length%am D=0)(mo:be D g (r++[b])=.mo):c8 D g (r++[b]):=λm h0 hl=>by
 by_cases c:m*am D<=r.length
 ·rw[Vs c];exact h m h0 c
 ·rw[Ud]at hl;rw[UU (by rw[Ud];simp at hl ⊢;lia)];exact mo
theorem xq{D:Kt}(ok:c9 D):∀(bs:List Int) (g:Int) (r:List Int) (c:Nat),bG D g->cq D g r->c8 D g r->r.length<=c->bj bs->fD D g (c-r.length) (r++bs) (gG D g r c bs)
 | [],g,r,c,pg,bg,mr,lc,_=>by
  show fD D g (c-r.length) (r++[]) ([]++ij (c+0) r);rw[U6,Nat.add_zero];unfold ij;by_cases z:r=[]
  ·rw[if_pos z,z];exact .nil _ _
  ·rw[if_neg z];exact .ft (.inr (.inr ⟨rfl,rfl,mr⟩)) (bg.byts pg).1 (by cases r with|nil=>exact absurd rfl z|cons _ _=>exact Wz _) pg (.nil _ _)
 | b::bs,g,r,c,pg,bg,mr,lc,hb=>by
  have hb0:=hb b (Uv ..);have hbs:bj bs:=λx hx=>hb x (Uw _ hx);obtain⟨g1,g2,_,_,_,_⟩:=ul (c+1) ok pg bg hb0.1 hb0.2;have dm:=qK bg hb0.1 hb0.2;have by1:=im (bg.byts pg).1 hb0.1 hb0.2;have ln:(r++[b]).length=r.length+1:=by rw[Ud];rfl
  have u12:=jS D;rw[Pw,show r++b::bs=(r++[b])++bs by rw[UN];rfl];have ih:=λg' r'=>xq ok bs g' r' (c+1);have stay:c8 D g (r++[b])->bM D g r (c+1) b=(g,r++[b],[])->fD D g (c-r.length) ((r++[b])++bs) ((bM D g r (c+1) b).2.2++gG D (bM D g r (c+1) b).1 (bM D g r (c+1) b).2.1 (c+1) bs):=λm e=>by
   rw[e]at g2 ⊢;have:=ih g (r++[b]) pg g2 m (by lia) hbs;rw[ln,show c+1-(r.length+1)=c-r.length by lia]at this;exact this
  have sign:∀n g',be D g (r++[b])=.sg n g'->bM D g r (c+1) b=(g',[],[.sg n])->fD D g (c-r.length) ((r++[b])++bs) ((bM D g r (c+1) b).2.2++gG D (bM D g r (c+1) b).1 (bM D g r (c+1) b).2.1 (c+1) bs):=λn g' h e=>by
   obtain⟨a,s,pg'⟩:=tT ok pg dm h;rw[e];have:=ih g' [] pg' (cq.nil _ _) (c8.nil _ _) (Ux _) hbs;have k:fD D g (c-r.length) ((bS D g n).1++bs) (.sg n::gG D g' [] (c+1) bs):=.sg a pg (by
    rw[s];dsimp only;rw[ln,show c-r.length+(r.length+1)=c+1-([]:List Int).length by show _=c+1-0;lia];exact this)
   rw[s]at k;exact k
  unfold bM at stay sign ⊢;by_cases dv:(r++[b]).length%am D=0
  ·rw[if_pos dv]at stay sign ⊢;by_cases one:(r++[b]).length=am D
   ·rw[if_pos one]at stay sign ⊢;unfold dg at stay sign ⊢;cases e:be D g (r++[b]) with
    | sg n g'=>rw[e]at sign;exact sign n g' Z Z
    | mo=>rw[e]at stay;exact stay (BZ mr dv e) Z
    | no =>
     dsimp only;have:=ih g [] pg (cq.nil _ _) (c8.nil _ _) (Ux _) hbs;rw[show c+1-(r++[b]).length=c-r.length by lia];refine .ft (.inl ⟨rfl,one,e⟩) by1 (by lia) pg ?_;rw[ln,show c-r.length+(r.length+1)=c+1-([]:List Int).length by show _=c+1-0;lia];exact this
   ·rw[if_neg one]at stay sign ⊢;unfold iF at stay sign ⊢;cases e:be D g (r++[b]) with
    | sg n g'=>rw[e]at sign;exact sign n g' Z Z
    | mo=>rw[e]at stay;exact stay (BZ mr dv e) Z
    | no =>
     dsimp only;have lu:am D<=(r++[b]).length:=by
      rcases V6 (r++[b]).length (am D) with z|z
      ·rw[WH z]at dv;lia
      ·exact z
     obtain⟨L,eL⟩:∃L,L=(r++[b]).drop ((r++[b]).length-am D):=⟨_,rfl⟩;obtain⟨F,eF⟩:∃F,F=(r++[b]).take ((r++[b]).length-am D):=⟨_,rfl⟩;have lL:L.length=am D:=by rw[eL,U5];lia
     have lF:F.length=(r++[b]).length-am D:=by rw[eF,Ul];lia
     have eFL:F++L=r++[b]:=by rw[eF,eL,VL]
     have dmL:Dm D g L:=by rw[eL];exact vZ bg hb0.1 hb0.2
     have byL:bj L:=λx hx=>by1 x (by rw[<- eFL];exact UA _ hx);have mF:c8 D g F:=by
      rw[eF,Vs (by lia)];exact mr.take _
     have lt:F.length<(r++[b]).length:=by lia
     rw[<- eL,<- eF,<- lF,<- eFL,UN,show c+1-(F++L).length=c-r.length by rw[eFL];lia];have hF:1<=F.length:=by
      rcases Nat.eq_zero_or_pos F.length with z|z
      ·lia
      ·exact z
     refine .ft (.inr (.inl ⟨rfl,?_,mF,by rw[Ud];lia,?_⟩)) (λx hx=>by1 x (by rw[<- eFL];exact UQ _ hx)) hF pg ?_
     ·rw[lF];exact Nat.sub_mod_eq_zero_of_mod_eq (by rw[dv,WI])
     ·rw[Vs (by lia),UU (by lia),eFL];exact e
     ·have pe:c-r.length+F.length=c+1-L.length:=by lia
      rw[pe];unfold dg;cases eo:be D g L with
      | sg n g' =>
       obtain⟨a,s,pg'⟩:=tT ok pg dmL eo;have:=ih g' [] pg' (cq.nil _ _) (c8.nil _ _) (Ux _) hbs;have k:fD D g (c+1-L.length) ((bS D g n).1++bs) (.sg n::gG D g' [] (c+1) bs):=.sg a pg (by
        rw[s];dsimp only;rw[show c+1-L.length+L.length=c+1-([]:List Int).length by show _=c+1-0;lia];exact this)
       rw[s]at k;exact k
      | mo =>
       dsimp only;have mo1:c8 D g L:=λm h0 hl=>by
        have:am D<=m*am D:=Xd _ h0;rw[UU (by lia)];exact eo
       have bgL:cq D g L:=pM ok dmL (by rw[lL,WI]) (.inl (by lia)) eo;exact ih g L pg bgL mo1 (by lia) hbs
      | no =>
       dsimp only;have:=ih g [] pg (cq.nil _ _) (c8.nil _ _) (Ux _) hbs;refine .ft (.inl ⟨rfl,lL,eo⟩) byL (by lia) pg ?_;rw[show c+1-L.length+L.length=c+1-([]:List Int).length by show _=c+1-0;lia];exact this
  ·rw[if_neg dv]at stay ⊢;refine stay (λm h0 hl=>?_) Z;have c1:m*am D<=r.length:=by
    rcases V6 r.length (m*am D) with z|z
    ·exact absurd (by rw[show (r++[b]).length=m*am D by lia,WJ]) dv
    ·exact z
   rw[Vs c1];exact mr m h0 c1
theorem Il{H:Hp}{x dx C:Addr}{o:HO}(hx:H x=none)(hdx:H dx=none):aj H (upd (upd (upd H dx (.own x)) x (.ins C dx [])) x o):=λb ob q=>by rw[az (aN q hx)];exact ix hx hdx b ob q
theorem mn{H:Hp}{p a:Addr}{u:HO}(n:H p=none)(h:H a=some u):p≠a:=(aN h n).symm
theorem Kp.same{x:Addr}{H0 H H':Hp}(s:aj H0 H)(k:Kp x H H')(n:H0 x=none):aj H0 H':=λa u e=>k a u (aN e n) (s a u e)
theorem i4{σ:St}{i:Nat}{v:V}{H:Hp}{Q:VK}(h:σ[i]? = some (some v))(q:Q v H):mV i σ H Q:=by
 unfold mV;rw[h];exact q
theorem MG{σ:St}{i:Nat}{n:Int}{H:Hp}{tb te:TS}{D:f6}(h:σ[i]? = some (some (.int n)))(q:te D σ H):jT (mB (fE (qo false) (mV i) (tC V.non))) tb te D σ H:=by
 unfold jT mB fE;exact i4 h q
theorem MF{σ:St}{i:Nat}{H:Hp}{tb te:TS}{D:f6}(h:σ[i]? = some (some .non))(q:tb D σ H):jT (mB (fE (qo false) (mV i) (tC V.non))) tb te D σ H:=by
 unfold jT mB fE;exact i4 h q
def vW:Ev->Option Int
 | .sg n=>some n
 | .ft _ _ _ _=>none
theorem sK(W:Wy):∀es:List Ev,dW W es=es.map vW
 | []=>rfl
 | .sg n::es=>congrArg (some n :: ·) (sK W es)
 | .ft p l k bs::es=>congrArg (none :: ·) (sK W es)
def ml(D:Kt)(g:Int):Ev->(Str × List Int × V) × Int
 | .sg n=>(("sign",(bS D g n).1,.int n),(bS D g n).2)
 | .ft _ _ k bs=>(("passed",bs,.str k),g)
def gd(D:Kt):Int->List Ev->List (Str × List Int × V)
 | _,[]=>[]
 | g,e::es=>(ml D g e).1::gd D (ml D g e).2 es
def dA(D:Kt):Int->List Ev->Int
 | g,[]=>g
 | g,e::es=>dA D (ml D g e).2 es
theorem tG(D:Kt)(e:Ev):∀(es:List Ev) (g:Int),gd D g (es++[e])=gd D g es++[(ml D (dA D g es) e).1]
 | [],g=>rfl
 | x::es,g=>congrArg ((ml D g x).1 :: ·) (tG D e es _)
theorem tF(D:Kt)(e:Ev):∀(es:List Ev) (g:Int),dA D g (es++[e])=(ml D (dA D g es) e).2
 | [],g=>rfl
 | x::es,g=>tF D e es _
def At(D:Kt)(g:Int)(p:Nat)(bs:List Int):Ev->Prop
 | .sg n=>fP D n/\bG D g
 | .ft p' l _ xs=>l=xs.length/\p<=p'/\(bs.drop (p'-p)).take l=xs/\bG D g/\p'-p+l<=bs.length
theorem Qd{D:Kt}{g:Int}{p:Nat}{bs:List Int}{es:List Ev}(h:fD D g p bs es):∀i e,es[i]? = some e->At D (dA D g (es.take i)) p bs e:=by
 induction h with
 | nil g p=>exact λi e h=>by cases h
 | @sg g p n bs es hn pg k ih =>
  intro i e he;cases i with
  | zero=>cases he;exact⟨hn,pg⟩
  | succ i =>
   have:=ih i e he;cases e with
   | sg m=>exact this
   | ft p' l kd xs =>
    obtain⟨a,b,c,d,f⟩:=this;refine⟨a,by lia,?_,d,by rw[Ud];lia⟩;rw[<- c,show p'-p=(bS D g n).1.length+(p'-(p+(bS D g n).1.length)) by lia,Wa,Vp (by lia),U6,Vo]
 | @ft g p kd xs bs es hf b l pg k ih =>
  intro i e he;cases i with
  | zero =>
   cases he;exact⟨rfl,Ue _,by rw[V7,VS,List.take_left],pg,by rw[Ud];lia⟩
  | succ i =>
   have:=ih i e he;cases e with
   | sg m=>exact this
   | ft p' l' kd' xs' =>
    obtain⟨a,b,c,d,f⟩:=this;refine⟨a,by lia,?_,d,by rw[Ud];lia⟩;rw[<- c,show p'-p=xs.length+(p'-(p+xs.length)) by lia,Wa,Vp (by lia),U6,Vo]
abbrev PL:=List (Addr × Addr × Str × List Int × V)
def iq(H:Hp)(pa:Addr)(L:PL):Prop:=H pa=some (.lst (L.map λx=>V.ref x.1))/\∀x∈L,H x.1=some (.tup [.str x.2.2.1,.ref x.2.1,x.2.2.2.2])/\H x.2.1=some (.lst (x.2.2.2.1.map V.int))/\x.2.1≠pa
theorem iq.more{H H1:Hp}{pa p q:Addr}{w:Str}{bs:List Int}{v:V}{L:PL}(h:iq H pa L)(s:aj H H1)(hp:H1 p=some (.tup [.str w,.ref q,v]))(hq:H1 q=some (.lst (bs.map V.int)))(nq:q≠pa):iq (upd H1 pa (.lst ((L.map λx=>V.ref x.1)++[.ref p]))) pa (L++[(p,q,w,bs,v)]):=by
 have h1:=s _ _ h.1;refine⟨by rw[bc,Up];rfl,λx hx=>?_⟩;rcases Us.mp hx with z|z
 ·obtain⟨a,b,c⟩:=h.2 x z;have a1:=s _ _ a;exact⟨by rw[az (bE a1 h1 (by intro z;cases z))];exact a1,by rw[az c];exact s _ _ b,c⟩
 ·rw[Uq.mp z];exact⟨by rw[az (bE hp h1 (by intro z;cases z))];exact hp,by rw[az nq];exact hq,nq⟩
noncomputable def bt(D:Kt)(bs:List Int):List Ev:=gG D 0 [] 0 bs
def GD(K:PySem.W.Frag)(t:Adr):Sp:=λvs H Q _=>∃(o a:Addr) (D:Kt) (row:List Int),vs=[.ref o,.ref a]/\TN t H o D/\aF K H a (row.map V.int)/\bj row/\row.length<=400 /\
 ∀pa (L:PL) H',aj H H'->iq H' pa L->H pa=none->(∀x∈L,H x.1=none/\H x.2.1=none)->L.map (λx=>x.2.2)=gd D 0 (bt D row)->Q (.ref pa) H'
theorem ua (T:Txt w K mg t):bp P w K mg base "parts_of" 14 t.yg t.vg ["tongue", "row"] (GD K t):=by
 refine⟨T.OL,T.ED.kp,T.Rk,T.ED.okQ hU (λvs H Q E h=>by obtain⟨o,a,D,row,rfl,_⟩:=h;rfl) λ_ _ _ _ H vs Q E hr h=>?_⟩;obtain⟨o,a,D,row,rfl,tn,ha,hby,lr,k⟩:=h;have hu:=hr.units;have ok:=tn.koS;refine⟨_,(af (aG (i:=2) hU.nd Z (.inl Z) (m8 (MZ T) hr (ab (aa 0) (ab (m8 (MX T) hr (ab bL ad)) ad))))
  (af (aG (i:=3) hU.nd rfl (.inl rfl) (aw (T2 K) (dO (N3 T) hr (aa 2) (ab (aa 1) ad)) (dz (N5 T) hr (aa 2))))
  (af (aG (i:=4) hU.nd rfl (.inl rfl) (dz (N4 T) hr (aa 2)))
  (af (aG (i:=5) hU.nd rfl (.inl rfl) (aO ad))
  (af (aG (i:=6) hU.nd rfl (.inl rfl) ae)
  (af (dt PassesOwn.never rfl (dI (K:=K) rfl (aa 3)) (aT (i:=7) hU.nd rfl (.inl rfl)) (ag (av (au ig (aa 7) bL (ar _)) (af (aG (i:=8) hU.nd rfl (.inl rfl) (d7 (K:=K) rfl UH PySem.F.slot_list_pop PySem.F.type_list_pop Le (aa 4) (ab ae ad)))
  (ag (df (d7 (K:=K) rfl UH UZ U0 gR (aa 5) (ab (bN (ab aU (ab (du (T6 K) (aa 1) (cA (ax (T5 K) (aa 8) ae (λ_ _=>rfl))) (cA (aw (T2 K) (ax (T5 K) (aa 8) ae (λ_ _=>rfl)) (ax (T5 K) (aa 8) ae (λ_ _=>rfl))))) (ab (ax (T5 K) (aa 8) ae (λ_ _=>rfl)) ad)))) ad))))) (af (aG (i:=9) hU.nd rfl (.inl rfl) (cb (cB (NN T) hr (aa 0) (ab (aa 7) (ab (aa 6) ad))) (cb (cB (N0 T) hr (aa 0) (ab (aa 7) (ab (aa 6) ad))) (cb (cB (NW T) hr (aa 0) (ab (aa 7) (ab (aa 6) ad))) (cb (cB (NT T) hr (aa 0) (ab (aa 7) (ab (aa 6) ad))) (cB (NQ T) hr (aa 0) (ab (aa 7) (ab (aa 6) ad))))))))
  (af (df (d7 (K:=K) rfl UH UZ U0 gR (aa 5) (ab (bN (ab aU (ab (ax (T5 K) (aa 9) ae (λ_ _=>rfl)) (ab (aa 7) ad)))) ad)))
  (ag (aG (i:=6) hU.nd rfl (.inl rfl) (ax (T5 K) (aa 9) ae (λ_ _=>rfl)))))))))
  (ag (ap (aa 5))))))))),?_⟩
 refine λy dy hy hdy hny=>?_;refine su y dy Z bc Z ?_;have sy:=Il (C:=t.dZ) (o:=.ins t.dZ dy [("sign",.non)]) hy hdy;have hY:upd (upd (upd H dy (.own y)) y (.ins t.dZ dy [])) y (.ins t.dZ dy [("sign",.non)]) y=some (.ins t.dZ dy [("sign",.non)]):=bc;generalize upd (upd (upd H dy (.own y)) y (.ins t.dZ dy [])) y (.ins t.dZ dy [("sign",.non)])=H1 at sy hY ⊢;refine λx dx hx hdx hnx=>?_;have sm:=ix (C:=t.bD) hx hdx;refine⟨x,dx,o,y,rfl,bc,λb mt H2 nb nm nbm k2 hX hB hM=>⟨rfl,?_⟩⟩;have s2:aj H1 H2:=Kp.same sm k2 hx;have fb:H1 b=none:=sm.free nb;have fm:H1 mt=none:=sm.free nm;have sw:aj H1 (wo H2 [x,b,mt]):=oF s2 hx fb fm;obtain⟨pg,bg,acc,_,_,le6⟩:=qg ok row 0 [] 0 (nh D) (cq.nil _ _) hby;have l6:=(bg.byts pg).2;have lcr:(run D 0 [] 0 row).2.1.length<=0+row.length:=by
  have:=congrArg List.length acc;rw[Ud,Ud]at this;have e:([]:List Int).length=0:=rfl
  lia
 have tn1:=tn.mono sy;refine cG x dx _ rfl hX rfl ⟨wo H2 [x,b,mt],x,dx,o,b,mt,y,a,D,.lv,0,0,[],[],row,rfl,⟨tn1.mono sw,⟨dy,sw _ _ hY⟩,oG,gx (by simp),gx (by simp),gx (by simp),nbm,hX,hB,⟨hM,λ_ h=>nomatch h⟩,nh D,cq.nil _ _,Ue _⟩,sw.seq (sy.seq ha),hby,by lia,by decide,λq4 c4 ps4 H4 s4 nq4 fc4 nbm4 nqb4 hx4 hb4 ft4 eps4 hq4=>?_⟩;have sw4:aj H1 (wo H4 [x,c4,mt]):=oF (sw.trans s4) hx (sw.free fc4) fm;refine⟨x,dx,_,rfl,hx4,rfl,wo H4 [x,c4,mt],x,dx,o,c4,mt,y,D,.lv,_,_,_,[]++ps4,rfl,⟨tn1.mono sw4,⟨dy,sw4 _ _ hY⟩,oG,gx (by simp),gx (by simp),gx (by simp),nbm4,hx4,hb4,ft4,pg,bg,lcr⟩,?_,λq5 c5 ps5 H5 s5 nq5 hx5 ft5 eps5 hq5=>?_⟩
 ·have:=congrArg List.length eps4;rw[Uc]at this;have:=qq (run D 0 [] 0 row).2.2;rw[U6]
  lia
 have nqx:q4≠x:=mn nq4 hX;have nqm:q4≠mt:=mn nq4 hM;have hq45:=s5 _ _ (mQ nqx nqb4 nqm hq4);have eE:(dW .lv (run D 0 [] 0 row).2.2).map vO++(dW .lv (ij (0+row.length) (run D 0 [] 0 row).2.1)).map vO=((bt D row).map vW).map vO:=by
  rw[<- sK .lv];unfold bt gG;rw[zD,Up]
 have levs:(bt D row).length<=900:=by
  unfold bt gG ij;rw[Ud]
  split
  ·show _+0<=_;lia
  ·show _+1<=_;lia
 refine fe (.of hq45) (.of hq5) (ci (by rw[<- Ud,eE,Uc,Uc];lia)) (λth H6 g6=>?_);rw[eE]at g6;have hx6:=g6.sm _ _ hx5;have ft6:=ft5.mono g6.sm;obtain⟨L1,eL1⟩:∃L1:FL,L1=([]++ps4)++ps5:=⟨_,rfl⟩;have el1:L1.map (λx=>x.2)=ce (bt D row):=by
  rw[eL1,U6,Up,eps4,eps5];unfold bt gG;rw[jG]
 rw[<- eL1]at ft6;refine cG x dx _ Z hx6 Z ⟨x,dx,o,c5,mt,y,_,_,true,L1,Z,hx6,ft6,λfa H7 g7=>?_⟩;refine⟨sz Z,λpa H8 g8=>?_⟩;have s16:aj H1 H6:=sw4.trans (s5.trans g6.sm);have s68:=g7.sm.trans g8.sm;have chn:fD D 0 0 row (bt D row):=xq ok row 0 [] 0 (nh D) (cq.nil _ _) (c8.nil _ _) (Ue _) hby;have fH:∀ {c},H6 c=none->H c=none:=λe=>sy.free (s16.free e);have tn6:=tn1.mono s16;refine⟨th,Z,⟨_,.of (s68 _ _ g6.at_)⟩,ii (K:=K) (a:=th) (xs:=((bt D row).map vW).map vO) (λi σ H'=>aj H6 H'/\H' fa=some (.lst ((L1.drop (ce ((bt D row).take i)).length).map λx=>V.ref x.1))/\∃(L:PL) (v7 v8 v9:Option V),iq H' pa L/\(∀x∈L,H6 x.1=none/\H6 x.2.1=none/\x.2.1≠fa)/\L.map (λx=>x.2.2)=gd D 0 ((bt D row).take i)/\L.length<=i/\σ=[some (.ref o),some (.ref a),some (.ref x),some (.ref th),some (.ref fa),some (.ref pa),some (.int (dA D 0 ((bt D row).take i))),v7,v8,v9])
  ⟨s68,g8.sm _ _ g7.at_,[],_,_,_,⟨g8.at_,(λ_ h=>nomatch h)⟩,(λ_ h=>nomatch h),rfl,Ue _,rfl⟩ (λi σ H' _ z=>.of (z.1 _ _ g6.at_)) ?_ ?_⟩
 ·rintro i v σ H9 hv ⟨s9,hfa,L,v7,v8,v9,pt,fr,eL,lL,rfl⟩;rw[Ug,Ug]at hv;cases he:(bt D row)[i]? with
  | none=>rw[he]at hv;cases hv
  | some e =>
  rw[he]at hv;have hi:i<(bt D row).length:=(Uk.mp he).1;have at_:=Qd chn i e he;have tk:=f9 he;cases e with
  | sg n =>
   cases hv;refine MG (n:=n) (by rfl) ?_;obtain⟨hn,pgi⟩:=at_;have tn9:=tn6.mono s9;have efts:ce ((bt D row).take (i+1))=ce ((bt D row).take i):=by rw[tk,jG];exact UC _
   dsimp only [bT];refine ca (λσ' H'=>∃pf q,aj H9 H'/\H9 q=none/\H' q=some (.lst ((bS D (dA D 0 ((bt D row).take i)) n).1.map V.int))/\H' pf=some (.tup [.ref q,.int (bS D (dA D 0 ((bt D row).take i)) n).2])/\σ'=[some (.ref o),some (.ref a),some (.ref x),some (.ref th),some (.ref fa),some (.ref pa),some (.int (dA D 0 ((bt D row).take i))),some (.int n),v8,some (.ref pf)]) (λnx hnx=>?_) ?_
   ·obtain⟨r,g',eO,ef,_,sl⟩:=sS tn9.ok pgi hn;rw[ef]at hnx;cases D with
    | br=>exact hn.elim
    | ld =>
     obtain⟨dx',ho⟩:=id tn9;have eg:dA .ld 0 ((bt .ld row).take i)=0:=pgi;rw[eg]at eO ⊢;rw[eg]at hnx;cases eO;exact .inr (.inl ⟨o,dx',_,Z,ho,Z,o,n,Z,hn,λpf q H4 nq s4 hq hf=>hnx _ _ ⟨pf,q,s4,nq,hq,hf,Z⟩⟩)
    | pr b =>
     obtain⟨dx',ho⟩:=id tn9;have eg:dA (.pr b) 0 ((bt (.pr b) row).take i)=0:=pgi;rw[eg]at eO ⊢;rw[eg]at hnx;cases eO;exact .inr (.inr (.inl ⟨o,dx',_,Z,ho,Z,o,b,n,Z,tn9,hn,λpf q H4 nq s4 hq hf=>hnx _ _ ⟨pf,q,s4,nq,hq,hf,Z⟩⟩))
    | sh f us ms=>exact .inr (.inr (.inr (.inl ⟨o,f.dx,_,rfl,Tg.o tn9,rfl,o,f,us,ms,.int n,_,r,g',rfl,pgi,tn9,eO,λpf q H4 s4 nq hq hf=>hnx _ _ ⟨pf,q,s4,nq,hq,hf,rfl⟩⟩)))
    | tb f es =>
     obtain⟨e1,he1,en,ef1⟩:=mD hn;have eO:((es.find? λe=>decide (e.1=n)).map λe=>(e.2,dA (.tb f es) 0 ((bt (.tb f es) row).take i)))=some (r,g'):=eO;rw[ef1]at eO;cases eO;exact .inr (.inr (.inr (.inr ⟨o,f.dx,_,rfl,tn9.1.o,rfl,o,f,es,e1,_,by rw[en];rfl,tn9.1,tn9.2,he1,λpf q H4 s4 nq hq hf=>hnx _ _ ⟨pf,q,s4,nq,hq,hf,rfl⟩⟩)))
   ·rintro σ' H10 ⟨pf,q,s10,nq,hq,hpf,rfl⟩;have pt10:=s10 _ _ pt.1;have nqpa:q≠pa:=mn nq pt.1;refine⟨.inl ⟨rfl,_,.of pt10⟩,?_⟩;refine aW _ (.ref q) (.inr (.of hpf)) (aB (j:=0) Z) ?_;refine⟨sz Z,λtp H11 g11=>?_⟩;refine dq (g11.sm _ _ pt10) (eQ (by rw[Uc];lia)) ?_;have npf:pf≠pa:=bE hpf pt10 (by intro z;cases z);refine aW _ (.int _) (.inr (.of (by rw[az npf];exact g11.sm _ _ hpf))) (aB (j:=1) Z) ?_;have s11:=s10.trans g11.sm;have nfa:fa≠pa:=aN g7.at_ g8.nw;refine⟨(s9.trans s11).put (g7.sm.free g8.nw),?_,L++[(tp,q,(Str.ofString "sign"),(bS D (dA D 0 ((bt D row).take i)) n).1,V.int n)],some (.int n),v8,some (.ref pf),pt.more s11 g11.at_ (g11.sm _ _ hq) nqpa,λz hz=>?_,?_,by rw[Ud];exact VO lL,?_⟩
    ·rw[az nfa,efts];exact s11 _ _ hfa
    ·rcases Us.mp hz with y|y
     ·exact fr z y
     ·rw[Uq.mp y];exact⟨s9.free (s10.free g11.nw),s9.free nq,mn nq hfa⟩
    ·rw[Up,eL,tk,tG];rfl
    ·rw[tk,tF];rfl
  | ft p l kd bs =>
   cases hv;refine MF (by rfl) ?_;obtain⟨el,_,ebs,pgi,hle⟩:=at_;rw[Nat.sub_zero]at ebs hle;have efts:ce ((bt D row).take (i+1))=ce ((bt D row).take i)++[(p,l,kd)]:=by rw[tk,jG];rfl
   obtain⟨z,hz,ez⟩:∃z,L1[(ce ((bt D row).take i)).length]? = some z/\z.2=(p,l,kd):=by
    have e1:(L1.map λx=>x.2)[(ce ((bt D row).take i)).length]? = some (p,l,kd):=by
     have e0:ce (bt D row)=ce ((bt D row).take i)++ce ((bt D row).drop i):=by rw[<- jG,VL]
     rw[el1,e0,Vi (Ue _),V7];rw[WK hi,(Uk.mp he).2]
     rfl
    rw[Ug]at e1;cases e2:L1[(ce ((bt D row).take i)).length]? with
    | none=>rw[e2]at e1;cases e1
    | some z=>rw[e2]at e1;exact⟨z,Z,UO e1⟩
   have hzl:(ce ((bt D row).take i)).length<L1.length:=(Uk.mp hz).1;have ed:(L1.drop (ce ((bt D row).take i)).length).map (λx=>V.ref x.1)=.ref z.1::(L1.drop ((ce ((bt D row).take i)).length+1)).map λx=>V.ref x.1:=by
    rw[WK hzl,(Uk.mp hz).2]
    rfl
   rw[ed]at hfa;refine⟨.inl ⟨rfl,_,.of hfa⟩,?_⟩;refine⟨fa,_,0,0,.ref z.1,rfl,rfl,hfa,by decide,by decide,by simp[seqIndex?],rfl,?_⟩;have nfa:fa≠pa:=aN g7.at_ g8.nw;have hz6:=ft6.2 z (Ur hz);rw[ez]at hz6;have hz9:=s9 _ _ hz6;have s10:aj H6 (upd H9 fa (.lst ((V.ref z.1::(L1.drop ((ce ((bt D row).take i)).length+1)).map λx=>V.ref x.1).eraseIdx 0))):=s9.put g7.nw;have hz10:upd H9 fa (.lst ((V.ref z.1::(L1.drop ((ce ((bt D row).take i)).length+1)).map λx=>V.ref x.1).eraseIdx 0)) z.1=some (.tup (C4 (p,l,kd))):=by rw[az (bE hz9 hfa (by intro z;cases z))];exact hz9
   have pt10:iq (upd H9 fa (.lst ((V.ref z.1::(L1.drop ((ce ((bt D row).take i)).length+1)).map λx=>V.ref x.1).eraseIdx 0))) pa L:=by
    refine⟨by rw[az nfa.symm];exact pt.1,λy hy=>?_⟩;obtain⟨a1,a2,a3⟩:=pt.2 y hy;exact⟨by rw[az (bE a1 hfa (by intro z;cases z))];exact a1,by rw[az (fr y hy).2.2];exact a2,a3⟩
   have hfa10:upd H9 fa (.lst ((V.ref z.1::(L1.drop ((ce ((bt D row).take i)).length+1)).map λx=>V.ref x.1).eraseIdx 0)) fa=some (.lst ((L1.drop ((ce ((bt D row).take i)).length+1)).map λx=>V.ref x.1)):=bc;generalize upd H9 fa (.lst ((V.ref z.1::(L1.drop ((ce ((bt D row).take i)).length+1)).map λx=>V.ref x.1).eraseIdx 0))=H10 at s10 hz10 pt10 hfa10 ⊢;refine⟨.inl ⟨rfl,_,.of pt10.1⟩,?_⟩;refine⟨_,.int (p:Int),.inr (.of hz10),aB (j:=0) Z,_,Z,?_⟩;refine⟨_,.int (p:Int),.inr (.of hz10),aB (j:=0) Z,_,.int (l:Int),.inr (.of hz10),aB (j:=1) Z,?_⟩;refine⟨_,Z,_,(sy.trans (s16.trans s10)).seq ha,λq H11 g11=>?_⟩;have e11:dD (row.map V.int) (some (p:Int)) (some ((p:Int)+(l:Int)))=bs.map V.int:=by
    rw[fz];exact congrArg _ ((wp row p l).trans ebs)
   rw[e11]at g11;refine aW _ (.str kd) (.inr (.of (g11.sm _ _ hz10))) (aB (j:=2) Z) ?_;refine⟨sz Z,λtp H12 g12=>?_⟩;have s12:=g11.sm.trans g12.sm;refine dq (s12 _ _ pt10.1) (eQ (by rw[Uc];lia)) ?_;refine⟨(s10.trans s12).put (g7.sm.free g8.nw),?_,L++[(tp,q,(Str.ofString "passed"),bs,V.str kd)],_,_,_,pt10.more s12 g12.at_ (g12.sm _ _ g11.at_) (mn g11.nw pt10.1),λy hy=>?_,?_,by rw[Ud];exact VO lL,by rw[tk,tF];rfl⟩
   ·rw[az nfa,efts,Ud];exact s12 _ _ hfa10
   ·rcases Us.mp hy with u|u
    ·exact fr y u
    ·rw[Uq.mp u];exact⟨s10.free (g11.sm.free g12.nw),s10.free g11.nw,mn g11.nw hfa10⟩
   ·rw[Up,eL,tk,tG];rfl
 ·rintro σ H9 ⟨s9,hfa,L,v7,v8,v9,pt,fr,eL,lL,rfl⟩;rw[Uc,Uc,UJ]at eL;exact k pa L H9 (sy.trans (s16.trans s9)) pt (fH (g7.sm.free g8.nw)) (λx hx=>⟨fH (fr x hx).1,fH (fr x hx).2.1⟩) eL
def dH:Lk->Str
 | .sg _ _ => "sign"
 | .mo => "more"
 | .no => "none"
def zw:Md->Int
 | .pr _=>2
 | _=>1
def B9:Md->Bool
 | .pr _=>true
 | _=>false
theorem MP (M:Md):bC (.str (cS M)) [.str "high",.str "low"]=B9 M:=by
 cases M with
 | ld=>exact show bC (.str "lead") [.str "high",.str "low"]=false by decide +kernel
 | pr h=>cases h with
  | true=>exact show bC (.str "high") [.str "high",.str "low"]=true by decide +kernel
  | false=>exact show bC (.str "low") [.str "high",.str "low"]=true by decide +kernel
 | sh ns ms=>exact show bC (.str "shift") [.str "high",.str "low"]=false by decide +kernel
 | tb es=>exact show bC (.str "table") [.str "high",.str "low"]=false by decide +kernel
 | br=>exact show bC (.str "bare") [.str "high",.str "low"]=false by decide +kernel
theorem t4 (T:Txt w K mg t):bp P w K mg base "_law_unit" 1 t.xK t.uG ["_law_model_here"] (λvs H Q _=>∃(p:Addr) (M:Md),vs=[.ref p]/\Mod H p M/\∀H',aj H H'->Q (.int (zw M)) H'):=by
 refine⟨T.Oi,T.Ec.kp,T.QQ,T.Ec.okQ Hm (λvs H Q E h=>by obtain⟨p,M,rfl,_⟩:=h;rfl) λ_ _ _ _ H vs Q E hr h=>?_⟩;obtain⟨p,M,rfl,⟨a,b,hp,_⟩,k⟩:=h;refine⟨_,(ag (ap (aw (T2 K) ae (cv ik T.n_int UV (ab (dJ (jE (K:=K) rfl) (ax (T5 K) (aa 0) ae (λ_ _=>rfl)) (bN (ab aU (ab aU ad))) (by with_unfolding_all rfl)) ad))))),?_⟩;refine aW _ (.str (cS M)) (.inr (.of hp)) (aB (j:=0) Z) ?_;refine⟨sz Z,λp1 H1 g1=>?_⟩;refine gK (.inr g1.tup) Z Z ?_;have e:(V.bl (if false=true then !bC (V.str (cS M)) [.str "high",.str "low"] else bC (V.str (cS M)) [.str "high",.str "low"]))=V.bl (B9 M):=by rw[if_neg Ut,MP]
 show (λx H1=>uz [x] H1 λy H2=>uD K (V.int 1) y H2 Q) (V.bl (if false=true then !bC (V.str (cS M)) [.str "high",.str "low"] else bC (V.str (cS M)) [.str "high",.str "low"])) H1;rw[e];cases M<;>exact k H1 g1.sm
open Classical in
noncomputable def pV(f:Int)(r:List Int):Str:=if f<128 then "sign" else if f<194\/244<f then "none" else if jj f r then (if (r.length:Int)+1=lb f then "sign" else "more") else "none"
theorem Mo{f:Int}{r:List Int}{g:Int}(d:r=[]\/(r.length:Int)+1<=lb f):pV f r=dH (be .ld g (f::r)):=by
 unfold pV;dsimp only [be];by_cases c1:f<128
 ·rw[if_pos c1];have l1:lb f=1:=by unfold lb;rw[if_pos c1]
  have er:r=[]:=by
   rcases d with d|d
   ·exact d
   ·rw[l1]at d;exact VZ (by lia)
  subst er;have ft:jj f []:=λi x h=>by cases h
  rw[if_pos (show gl [f] from ⟨⟨by rw[l1];exact Int.le_refl _,ft⟩,by rw[l1];rfl⟩)]
  rfl
 rw[if_neg c1];by_cases c2:f<194\/244<f
 ·rw[if_pos c2];have l0:lb f=0:=by unfold lb;rw[if_neg c1,if_pos c2]
  rw[if_neg (λz:gl (f::r)=>by have:=z.1.1;rw[l0]at this;lia),if_neg (λz:mO (f::r)=>by have:=z.1;rw[l0]at this;lia)]
  rfl
 rw[if_neg c2];have l2:2<=lb f:=by unfold lb;rw[if_neg c1,if_neg c2];split<;>(try split)<;>lia
 have le:(r.length:Int)+1<=lb f:=by
  rcases d with rfl|d
  ·show (0:Int)+1<=_;lia
  ·exact d
 by_cases c3:jj f r
 ·rw[if_pos c3];by_cases c4:(r.length:Int)+1=lb f
  ·rw[if_pos c4,if_pos (show gl (f::r) from ⟨⟨le,c3⟩,c4⟩)];rfl
  ·rw[if_neg c4,if_neg (λz:gl (f::r)=>c4 z.2),if_pos (show mO (f::r) from ⟨le,c3⟩)];rfl
 ·rw[if_neg c3,if_neg (λz:gl (f::r)=>c3 z.1.2),if_neg (λz:mO (f::r)=>c3 z.2)];rfl
end
end My
namespace My
open PySem L2
theorem AB{f:Fp}{ns ms:List Int}{g:Int}{r:List Int}:(iD (ao g ns ms) (ao g ms ns) g r).head? = some (.str (dH (be (.sh f ns ms) g r))):=by
 unfold iD;dsimp only [be];cases eI (ao g ns ms) (ao g ms ns) g r with
 | some z=>rfl
 | none =>
  dsimp only;by_cases c:gF (ao g ns ms) (ao g ms ns) g r=true
  ·rw[if_pos c,if_pos c];rfl
  ·rw[if_neg c,if_neg c];rfl
theorem jX{a b:Str}(h:some (V.str a)=some (V.str b)):a=b:=by cases h;rfl
theorem DX{O P:List Int}:fO O P≠[] ↔ ∃k∈O,k∉P:=by
 constructor
 ·intro h;cases e:fO O P with
  | nil=>exact absurd e h
  | cons c r =>
   have hc:c∈fO O P:=by rw[e];exact Uv ..
   have c0:0<=c:=by
    unfold fO at hc;obtain⟨b,_,rfl⟩:=Uu.mp hc
    lia
   obtain⟨n,hn,hp⟩:=(mv c0).mp hc;exact⟨n,Ur hn,hp⟩
 ·rintro⟨k,hk,hp⟩ e;obtain⟨i,hi⟩:=Xc.mp hk;have:(i:Int)∈fO O P:=(mv (by lia)).mpr ⟨k,by simpa using hi,hp⟩;rw[e]at this;cases this
theorem Hg {f:Fp} {ns ms:List Int} {g b:Int} (two:cP g) (l:(ao g ns ms).length<=250) (b0:0<=b):(b=255-g->(∃k∈ao g ms ns,k∉ao g ns ms)->dH (be (.sh f ns ms) g [b]) = "more")/\(b=255-g->¬(∃k∈ao g ms ns,k∉ao g ns ms)->dH (be (.sh f ns ms) g [b]) = "none")/\(b≠255-g->b<((ao g ns ms).length:Int)->dH (be (.sh f ns ms) g [b]) = "sign")/\(b≠255-g->¬b<((ao g ns ms).length:Int)->dH (be (.sh f ns ms) g [b]) = "none"):=by
 have w:=AB (f:=f) (ns:=ns) (ms:=ms) (g:=g) (r:=[b]);rw[BX b0]at w;have g01:0<=g/\g<=1:=by rcases two with rfl|rfl<;>decide
 refine⟨λe h=>?_,λe h=>?_,λe h=>?_,λe h=>?_⟩
 ·rw[U7 (by lia)]at w;dsimp only at w;rw[if_pos ⟨by lia,DX.mpr h⟩]at w;exact (jX w).symm
 ·rw[U7 (by lia)]at w;dsimp only at w;rw[if_neg λz=>h (DX.mp z.2)]at w;exact (jX w).symm
 ·rw[UL (by lia)]at w;exact (jX w).symm
 ·rw[U7 (by lia)]at w;dsimp only at w;rw[if_neg λz=>e (by lia)]at w;exact (jX w).symm
theorem Hf {f:Fp} {ns ms:List Int} {g c:Int} (c0:0<=c):((∃n,(ao g ms ns)[c.toNat]? = some n/\n∉ao g ns ms)->dH (be (.sh f ns ms) g [254+(1-g),c]) = "sign")/\(¬(∃n,(ao g ms ns)[c.toNat]? = some n/\n∉ao g ns ms)->dH (be (.sh f ns ms) g [254+(1-g),c]) = "none"):=by
 have w:=AB (f:=f) (ns:=ns) (ms:=ms) (g:=g) (r:=[254+(1-g),c]);rw[BW c0]at w;refine⟨λh=>?_,λh=>?_⟩
 ·rw[if_pos ((mv c0).mpr h)]at w;exact (jX w).symm
 ·rw[if_neg λz=>h ((mv c0).mp z)]at w;exact (jX w).symm
theorem FX {f:Ft} {es:List (Int × List Int)} {g:Int} {r:List Int}:((∃e∈es,e.2=r)->dH (be (.tb f es) g r) = "sign")/\(¬(∃e∈es,e.2=r)->(∃e∈es,e.2.take r.length=r)->dH (be (.tb f es) g r) = "more")/\(¬(∃e∈es,e.2=r)->¬(∃e∈es,e.2.take r.length=r)->dH (be (.tb f es) g r) = "none"):=by
 dsimp only [be];cases e:es.find? λe=>decide (e.2=r) with
 | some x =>
  have a:=V4 e;have b:x.2=r:=by simpa using VE e
  exact⟨λ_=>rfl,λh=>absurd ⟨x,a,b⟩ h,λh=>absurd ⟨x,a,b⟩ h⟩
 | none =>
  have n:¬ ∃e∈es,e.2=r:=by
   rintro⟨x,hx,rfl⟩;have:=U9.mp e x hx;simp at this
  dsimp only;refine⟨λh=>absurd h n,λ_ h=>?_,λ_ h=>?_⟩
  ·obtain⟨x,hx,hr⟩:=h;rw[if_pos]
   ·rfl
   ·have l:=congrArg List.length hr;rw[Ul]at l;exact⟨x,hx,r.length,by lia,hr.symm⟩
  ·rw[if_neg]
   ·rfl
   ·rintro⟨x,hx,m,hm,rfl⟩;refine h ⟨x,hx,?_⟩;rw[Ul,UT hm]
def hZ:List Int->Str
 | [u]=>if (56320<=u/\u<57344)\/(61184<=u/\u<61440) then "none" else if u<55296\/57343<u then "sign" else "more"
 | [u,v]=>if (56320<=u/\u<57344)\/(61184<=u/\u<61440) then "none" else if u<55296\/57343<u then "sign" else if 56320<=v/\v<57344 then "sign" else "none"
 | _ => "none"
theorem FK(h:Bool){x y:Int}(hx:0<=x/\x<=255)(hy:0<=y/\y<=255):0<=u2 h x y/\u2 h x y<65536/\ub h (u2 h x y)=[x,y]:=by
 unfold u2 ub;cases h<;>simp<;>lia
theorem Bk(h:Bool){x y g:Int}(hx:0<=x/\x<=255)(hy:0<=y/\y<=255):dH (be (.pr h) g [x,y])=hZ [u2 h x y]/\(be (.pr h) g [x,y]=.mo->55296<=u2 h x y/\u2 h x y<56320):=by
 obtain⟨b0,b1,ub1⟩:=FK h hx hy;have sw:ff h [x,y]=if dh (.int (u2 h x y))=true then some (u2 h x y) else none:=rfl
 dsimp only [be];unfold hZ;dsimp only;by_cases s:dh (.int (u2 h x y))=true
 ·rw[sw,if_pos s];dsimp only;have s':=(hG _).mp s;unfold Sg at s';refine⟨?_,λz=>by cases z⟩;rw[if_neg (by lia),if_pos (by lia)]
  rfl
 ·rw[sw,if_neg s];dsimp only;have s':¬Sg (u2 h x y):=λz=>s ((hG _).mpr z);unfold Sg at s';by_cases hd:55296<=u2 h x y/\u2 h x y<56320
  ·have:=M6 h hd.1 hd.2;rw[ub1]at this;rw[if_neg this,if_neg (by lia),if_neg (by lia)];exact⟨rfl,λ_=>hd⟩
  ·have fn:iL h [x,y]=none:=by
    unfold iL;refine U9.mpr λfl hf=>?_;rw[V1,W8,W9];have l3:=De hf
    match fl,l3 with
    | [],_=>rw[UC,sw,if_neg s]
    | [a],_=>rfl
    | [a,b],_ =>
     show hE [u2 h x y,u2 h a b]=none;exact if_neg λz=>hd z.1
    | [a,b,c],_=>rfl
    | _::_::_::_::_,l=>exact absurd l (by simp)
   rw[if_pos fn];refine⟨?_,λz=>by cases z⟩;by_cases c:(56320<=u2 h x y/\u2 h x y<57344)\/(61184<=u2 h x y/\u2 h x y<61440)
   ·rw[if_pos c];rfl
   ·lia
theorem JL(h:Bool){x y z v g:Int}(hu:55296<=u2 h x y/\u2 h x y<56320):dH (be (.pr h) g [x,y,z,v])=hZ [u2 h x y,u2 h z v]:=by
 have sw:ff h [x,y,z,v]=if (55296<=u2 h x y/\u2 h x y<56320)/\56320<=u2 h z v/\u2 h z v<=57343 then some (65536+((u2 h x y-55296)*1024+(u2 h z v-56320))) else none:=rfl
 dsimp only [be];unfold hZ;dsimp only;rw[if_neg (show ¬((56320<=u2 h x y/\u2 h x y<57344)\/(61184<=u2 h x y/\u2 h x y<61440)) by lia),if_neg (show ¬(u2 h x y<55296\/57343<u2 h x y) by lia)];by_cases c:56320<=u2 h z v/\u2 h z v<57344
 ·rw[if_pos c,sw,if_pos ⟨hu,by lia⟩];rfl
 ·have e:ff h [x,y,z,v]=none:=by rw[sw,if_neg (λd=>c (by lia))]
  rw[if_neg c,e];dsimp only;rw[if_pos (Df h rfl e)]
  rfl
def jQ(D:Kt)(g:Int)(r:List Int):Prop:=bj r/\∃p u,r=p++u/\u.length=am D/\p.length%am D=0/\cq D g p/\(p=[]\/be D g p=.mo)
theorem PH{D:Kt}{g:Int}{p u:List Int}(b:cq D g p)(hb:bj u)(l:u.length=am D)(pb:bj p):Dm D g (p++u):=by
 have one:∀ {E:Kt},cq E g p->u.length=1->Dm E g (p++u):=λb l=>by
  match u,l with
  | [x],_=>exact qK b (hb x (by simp)).1 (hb x (by simp)).2
 cases D with
 | pr h=>exact⟨pb.app hb,by have:=b.2;have l:u.length=2:=l;rw[Ud];lia⟩
 | ld=>exact one b l
 | sh f ns ms=>exact one b l
 | tb f es=>exact one b l
 | br=>exact trivial
theorem BM{D:Kt}{g:Int}{bs:List Int}(ok:c9 D)(pg:bG D g)(h:c8 D g bs)(hb:bj bs):∀m,m*am D<=bs.length->cq D g (bs.take (m*am D))
 | 0,_=>by rw[Nat.zero_mul];exact cq.nil _ _
 | m+1,hl=>by
  have e1:(m+1)*am D=m*am D+am D:=VR ..;have ih:=BM ok pg h hb m (by lia);have e2:bs.take ((m+1)*am D)=bs.take (m*am D)++(bs.drop (m*am D)).take (am D):=by rw[e1,List.take_add]
  have hb2:bj ((bs.drop (m*am D)).take (am D)):=λx hx=>hb x (Vq (U8 hx));have l2:((bs.drop (m*am D)).take (am D)).length=am D:=by rw[Ul,U5];lia
  have dm:=PH ih hb2 l2 (λx hx=>hb x (U8 hx));rw[<- e2]at dm;refine pM ok dm ?_ ?_ (h (m+1) (by lia) hl)
  ·rw[Ul,UT hl,WJ]
  ·cases D with
   | pr b =>
    refine .inl ?_;have:=ih.2;have u:m*am (.pr b)=m*2:=rfl;have u':(m+1)*am (.pr b)=(m+1)*2:=rfl;rw[Ul,UT (by lia),u]at this;rw[Ul,UT hl,u']
    lia
   | _=>exact .inr λ_ z=>by cases z
theorem tH{D:Kt}{g:Int}{p u:List Int}(ok:c9 D)(pg:bG D g)(h:c8 D g p)(hb:bj p)(dv:p.length%am D=0)(lu:u.length=am D)(bu:bj u):jQ D g (p++u):=by
 have e:p.length/am D*am D=p.length:=Nat.div_mul_cancel (Nat.dvd_of_mod_eq_zero dv);have b:=BM ok pg h hb (p.length/am D) (by lia);rw[e,UJ]at b;refine⟨hb.app bu,p,u,Z,lu,dv,b,?_⟩;by_cases z:p=[]
 ·exact .inl z
 ·have hp:0<p.length:=WG.mpr z;have:=h (p.length/am D) (Nat.pos_of_ne_zero λc=>by rw[c,Nat.zero_mul]at e;lia) (by lia);rw[e,UJ]at this;exact .inr this
theorem BF{D:Kt}{g:Int}{bs:List Int}(ok:c9 D)(pg:bG D g)(h:c8 D g bs)(hb:bj bs){m:Nat}(m0:0<m)(hl:m*am D<=bs.length):jQ D g (bs.take (m*am D)):=by
 obtain⟨k,rfl⟩:∃k,m=k+1:=⟨m-1,by lia⟩;have e1:(k+1)*am D=k*am D+am D:=VR ..;rw[show bs.take ((k+1)*am D)=bs.take (k*am D)++(bs.drop (k*am D)).take (am D) by rw[e1,List.take_add]];refine tH ok pg (h.take _) (λx hx=>hb x (U8 hx)) ?_ ?_ (λx hx=>hb x (Vq (U8 hx)))
 ·rw[Ul,UT (by lia),WJ]
 ·rw[Ul,U5];lia
theorem K8{g f:Int}{r:List Int}(h:jQ .ld g (f::r)):r=[]\/(r.length:Int)+1<=lb f:=by
 obtain⟨_,p,u,e,lu,_,_,hp⟩:=h;have lu:u.length=1:=lu;cases p with
 | nil =>
  rw[U6]at e;rw[<- e,UB]at lu;exact .inl (VZ (by lia))
 | cons f' p =>
  obtain⟨rfl,er⟩:f=f'/\r=p++u:=by cases e;exact⟨rfl,rfl⟩
  rcases hp with hp|hp
  ·cases hp
  dsimp only [be]at hp
  split at hp
  ·cases hp
  rename_i nw
  split at hp
  ·rename_i bg;have bg:jl f p:=bg;have nw:¬(jl f p/\(p.length:Int)+1=lb f):=nw;have:¬(p.length:Int)+1=lb f:=λz=>nw ⟨bg,z⟩;have:=bg.1;refine .inr ?_;rw[er,Ud,lu]
   lia
  ·cases hp
theorem K7{h:Bool}{g:Int}{r:List Int}(n:jQ (.pr h) g r):(∃x y,r=[x,y]/\(0<=x/\x<=255)/\0<=y/\y<=255)\/∃x y z v,r=[x,y,z,v]/\((0<=x/\x<=255)/\0<=y/\y<=255)/\((0<=z/\z<=255)/\0<=v/\v<=255)/\55296<=u2 h x y/\u2 h x y<56320:=by
 obtain⟨hb,p,u,rfl,lu,dv,bg,hp⟩:=n;have lu:u.length=2:=lu;have dv:p.length%2=0:=dv;have l3:=bg.2
 match u,lu with
 | [z,v],_ =>
  match p,dv,l3 with
  | [],_,_=>exact .inl ⟨z,v,rfl,hb z (by simp),hb v (by simp)⟩
  | [x,y],_,_ =>
   refine .inr ⟨x,y,z,v,rfl,⟨hb x (by simp),hb y (by simp)⟩,⟨hb z (by simp),hb v (by simp)⟩,?_⟩;rcases hp with hp|hp
   ·cases hp
   ·exact (Bk h (g:=g) (hb x (by simp)) (hb y (by simp))).2 hp
  | [_],d,_=>exact absurd d (by simp)
  | [_,_,_],d,_=>exact absurd d (by simp)
  | _::_::_::_::_,_,l=>exact absurd l (by simp)
theorem K6{f:Fp}{ns ms:List Int}{g:Int}{r:List Int}(n:jQ (.sh f ns ms) g r):(∃b,r=[b]/\0<=b)\/∃c,r=[254+(1-g),c]/\0<=c:=by
 obtain⟨hb,p,u,rfl,lu,dv,bg,hp⟩:=n;have lu:u.length=1:=lu
 match u,lu with
 | [b],_ =>
  rcases bg with rfl|rfl
  ·exact .inl ⟨b,rfl,(hb b (by simp)).1⟩
  ·exact .inr ⟨b,rfl,(hb b (by simp)).1⟩
end My
namespace My
open PySem L2
section
variable {P:Program}{w:World}{K:PySem.W.Frag}{mg:Str->Option Value}{base:Heap}{t:Adr}
theorem iS{t u:TS}{D:f6}{σ:St}{H:Hp}(σ1:St)(h:∀nx:St->Hp->Prop,nx σ1 H->t { D with nx:=nx } σ H)(k:u D σ1 H):oJ t u D σ H:=h (u D) k
theorem Nn (T:Txt w K mg t):bp P w K mg base "_law_lead_begun" 1 t.xY t.uT ["_law_kept"] (λvs H Q _=>∃(c:Addr) (f:Int) (r:List Int),vs=[.ref c]/\aF K H c ((f::r).map V.int)/\r.length<=900/\∀H',aj H H'->Q (.str (pV f r)) H'):=by
 refine⟨T.Ox,T.Ep.kp,T.Q8,T.Ep.okQ hJ (λvs H Q E h=>by obtain⟨c,f,r,rfl,_⟩:=h;rfl) λ_ _ _ _ H vs Q E hr h=>?_⟩;obtain⟨c,f,r,rfl,hc,lr,k⟩:=h;have hu:=hr.units;refine⟨_,(af (aG (i:=1) hJ.nd Z (.inl Z) (ax (T5 K) (aa 0) ae (λ_ _=>rfl)))
  (af (av (au cV (aa 1) ae (ar _)) (ag (ap aU)) aA)
  (af (av (bO (cU (au cV (aa 1) ae (ar _)) (db (au fK (aa 1) ae (ar _))))) (ag (ap aU)) aA)
  (af (aG (i:=2) hJ.nd rfl (.inl rfl) ae)
  (af (aG (i:=3) hJ.nd rfl (.inl rfl) ae)
  (af (av (au (jE (K:=K) rfl) (aa 1) (bN (ab ae (ab ae ad))) (by with_unfolding_all rfl)) (ag (aG (i:=2) hJ.nd rfl (.inl rfl) (aw cD ae (aw fu ae (ck (aa 1)))))) aA)
  (af (av (au (jE (K:=K) rfl) (aa 1) (bN (iX rfl)) (by with_unfolding_all rfl)) (ag (aG (i:=3) hJ.nd rfl (.inl rfl) (ax (T5 K) (aO (iX rfl)) (d7 (K:=K) rfl UH VC V9 (pN (K:=K) rfl) (aO (iX rfl)) (ab (aa 1) ad)) (λ_ _=>rfl)))) aA)
  (af (dt PassesOwn.never rfl (dI (K:=K) rfl (du (T6 K) (aa 0) (cA ae) eS)) (aT (i:=4) hJ.nd rfl (.inl rfl)) (af (av (bO (cU (au cV (aa 4) (aa 2) (ar _)) (db (au fK (aa 4) (aa 3) (ar _))))) (ag (ap aU)) aA)
  (af (aG (i:=2) hJ.nd rfl (.inl rfl) ae)
  (ag (aG (i:=3) hJ.nd rfl (.inl rfl) ae)))))
  (af (aG (i:=5) hJ.nd rfl (.inl rfl) (aw (T2 K) (aw (T2 K) ae (cv ik T.n_int UV (ab (dJ fK (aa 1) ae (ar _)) ad))) (cv ik T.n_int UV (ab (dJ fK (aa 1) ae (ar _)) ad))))
  (ag (ap (ax (T5 K) (aO (ab aU (ab aU ad))) (cv ik T.n_int UV (ab (dJ (aX (K:=K) rfl hu) (bh (T4 K) T.n_len Ui (ab (aa 0) ad)) (aa 5) (ar _)) ad)) (λ_ _=>rfl))))))))))))),?_⟩
 refine aW _ (.int f) (.inl hc) (aB (j:=0) Z) ?_;unfold pV at k;refine ah (λc1=>?_) (λc1=>?_)
 ·have c1:=of_decide_eq_true c1;rw[if_pos c1]at k;exact k _ (aj.refl _)
 have c1:¬f<128:=λz=>c1 (decide_eq_true z);rw[if_neg c1]at k;refine ah (λc2=>?_) (λc2=>?_)
 ·rw[if_pos (.inl (of_decide_eq_true c2))]at k;exact k _ (aj.refl _)
 have c2:¬f<194:=λz=>c2 (decide_eq_true z);refine ah (λc3=>?_) (λc3=>?_)
 ·rw[if_pos (.inr (of_decide_eq_true c3))]at k;exact k _ (aj.refl _)
 have c3:¬244<f:=λz=>c3 (decide_eq_true z);rw[if_neg (by lia)]at k;unfold gY;dsimp only;refine iS [some (.ref c),some (.int f),some (.int 128),none,none,none] (λnx h=>h) ?_;refine iS [some (.ref c),some (.int f),some (.int 128),some (.int 191),none,none] (λnx h=>h) ?_;refine ca (λσ' H'=>aj H H'/\σ'=[some (.ref c),some (.int f),some (.int (gA f)),some (.int 191),none,none]) (λnx hn=>?_) ?_
 ·refine⟨sz Z,λp1 H1 g1=>?_⟩;refine gK (.inr g1.tup) Z Z ?_;refine ah (λz=>?_) (λz=>?_)
  ·have z:bC (.int f) (([224,240]:List Int).map V.int)=true:=z;rw[h8]at z;have z:f=224\/f=240:=by simpa using z
   have e:V.int (160-16*(f/240))=V.int (gA f):=by rcases z with rfl|rfl<;>rfl
   refine⟨.inl (by decide),?_⟩;show nx [some (.ref c),some (.int f),some (.int (160-16*(f/240))),some (.int 191),none,none] H1;rw[e];exact hn _ _ ⟨g1.sm,Z⟩
  ·have z:¬bC (.int f) (([224,240]:List Int).map V.int)=true:=z;rw[h8]at z;have z:¬f=224/\¬f=240:=by simpa using z
   have e:gA f=128:=by unfold gA;rw[if_neg z.1,if_neg z.2]
   rw[e]at hn;exact hn _ _ ⟨g1.sm,Z⟩
 rintro σ' H2 ⟨s2,rfl⟩;refine ca (λσ' H'=>aj H H'/\σ'=[some (.ref c),some (.int f),some (.int (gA f)),some (.int (gE f)),none,none]) (λnx hn=>?_) ?_
 ·refine⟨sz Z,λp1 H1 g1=>?_⟩;refine gK (.inr g1.tup) Z Z ?_;have s1:=s2.trans g1.sm;refine ah (λz=>?_) (λz=>?_)
  ·have z:bC (.int f) (([237,238,244]:List Int).map V.int)=true:=z;rw[h8]at z;have z:f=237\/f=238\/f=244:=by simpa using z
   refine⟨sz Z,λp2 H2 g2=>?_⟩;refine⟨sz Z,λp3 H3 g3=>?_⟩;refine⟨.inl ⟨rfl,_,g3.lst⟩,?_⟩;have fin:∀j v,([237,238,244]:List Int)[j]? = some f->([159,187,143]:List Int)[j]? = some v->gE f=v->(∀i z,i<j->(([237,238,244]:List Int).map V.int)[i]? = some z->dC z (.int f)=false)->uu K (.ref p3) [.int f] H3 λy H4=>fM K (.ref p2) y H4 λx H5=>bT 3 x [some (.ref c),some (.int f),some (.int (gA f)),some (.int 191),none,none] H5 nx:=λj v h1 h2 e h3=>by
    refine⟨p3,.int f,_,j,rfl,rfl,g3.at_,rfl,rfl,⟨.int f,?_,by simp[dC]⟩,h3,?_⟩
    ·show (([237,238,244]:List Int).map V.int)[j]? = _;rw[Ug,h1];rfl
    ·refine⟨(([159,187,143]:List Int).map V.int),.int v,.inl (.of (g3.sm _ _ g2.at_)),aB (j:=j) (by rw[Ug,h2];rfl),?_⟩;rw[<- e];exact hn _ _ ⟨s1.trans (g2.sm.trans g3.sm),Z⟩
   rcases z with rfl|rfl|rfl
   ·exact fin 0 159 Z Z Z (λi z h=>absurd h (VY _))
   ·refine fin 1 187 Z Z Z (λi z h e=>?_);obtain rfl:i=0:=by lia
    cases e;rfl
   ·refine fin 2 143 Z Z Z (λi z h e=>?_);have:i=0\/i=1:=by lia
    rcases this with rfl|rfl<;>cases e<;>rfl
  ·have z:¬bC (.int f) (([237,238,244]:List Int).map V.int)=true:=z;rw[h8]at z;have z:¬f=237/\¬f=238/\¬f=244:=by simpa using z
   have e:gE f=191:=by unfold gE;rw[if_neg z.1,if_neg z.2.1,if_neg z.2.2]
   rw[e]at hn;exact hn _ _ ⟨s1,Z⟩
 rintro σ' H3 ⟨s3,rfl⟩;refine⟨_,Z,_,s3.seq hc,λpc H4 g4=>?_⟩;have ec:dD ((f::r).map V.int) (some 1) none=r.map V.int:=by
  rw[fz];exact congrArg _ (jL (f::r) 1)
 rw[ec]at g4;refine cy pc rfl ⟨_,g4.lst⟩ (ii (K:=K) (a:=pc) (xs:=r.map V.int) (λi σ H'=>H'=H4/\(∀j x,j<i->r[j]? = some x->dQ f (j+1)<=x/\x<=eW f (j+1))/\∃v4,σ=[some (.ref c),some (.int f),some (.int (dQ f (i+1))),some (.int (eW f (i+1))),v4,none]) ⟨rfl,λj x z=>absurd z (VY _),_,rfl⟩ (λi σ H' _ z=>by rw[z.1];exact g4.lst) ?_ ?_)
 ·rintro i v σ H5 hv ⟨rfl,bd,v4,rfl⟩;obtain⟨x,hx,rfl⟩:=fk hv;have bad:¬(dQ f (i+1)<=x/\x<=eW f (i+1))->Q (.str "none") H5:=λz=>by
   rw[if_neg λy=>z (y i x hx)]at k;exact k _ (s3.trans g4.sm)
  refine ah (λe=>?_) (λe=>?_)
  ·exact bad λz=>by have:=of_decide_eq_true e;lia
  refine ah (λe2=>?_) (λe2=>?_)
  ·exact bad λz=>by have:=of_decide_eq_true e2;lia
  refine⟨rfl,λj y hj hy=>?_,_,rfl⟩;by_cases cc:j<i
  ·exact bd j y cc hy
  ·obtain rfl:j=i:=by lia
   rw[hx]at hy;cases hy;have e:¬x<dQ f (j+1):=λz=>e (decide_eq_true z);have e2:¬eW f (j+1)<x:=λz=>e2 (decide_eq_true z)
   lia
 ·rintro σ H5 ⟨rfl,bd,v4,rfl⟩;rw[Uc]at bd;have ft:jj f r:=λi x h=>bd i x (Uk.mp h).1 h;rw[if_pos ft]at k;have ln:(((f::r).map V.int).length:Int)=(r.length:Int)+1:=by simp
  have s4:=s3.trans g4.sm;dsimp only;refine ca (λσ' H'=>H'=H5/\σ'=[some (.ref c),some (.int f),some (V.int (dQ f ((List.map V.int r).length+1))),some (V.int (eW f ((List.map V.int r).length+1))),v4,some (.int (lb f))]) (λnx hn=>?_) ?_
  ·have e:2+(if decide (223<f)=true then (1:Int) else 0)+(if decide (239<f)=true then (1:Int) else 0)=lb f:=by
    unfold lb;simp only [decide_eq_true_eq]
    repeat' split<;>lia
   have hn:=hn _ _ ⟨rfl,rfl⟩;rw[<- e]at hn;exact hn
  rintro σ' _ ⟨rfl,rfl⟩;refine⟨sz Z,λp5 H6 g6=>?_⟩;refine aY (.inl ((s4.trans g6.sm).seq hc)) ?_;by_cases a:(r.length:Int)+1=lb f
  ·have e:(if decide ((((f::r).map V.int).length:Int)=lb f)=true then (1:Int) else 0)=1:=if_pos (decide_eq_true (by rw[ln];exact a));rw[if_pos a]at k;show fM K (.ref p5) (.int (if decide ((((f::r).map V.int).length:Int)=lb f)=true then (1:Int) else 0)) H6 Q;rw[e];exact⟨_,_,.inl g6.lst,aB (j:=1) Z,k _ (s4.trans g6.sm)⟩
  ·have e:(if decide ((((f::r).map V.int).length:Int)=lb f)=true then (1:Int) else 0)=0:=if_neg λz=>a (by rw[<- ln];exact of_decide_eq_true z);rw[if_neg a]at k;show fM K (.ref p5) (.int (if decide ((((f::r).map V.int).length:Int)=lb f)=true then (1:Int) else 0)) H6 Q;rw[e];exact⟨_,_,.inl g6.lst,aB (j:=0) Z,k _ (s4.trans g6.sm)⟩
theorem Ni (T:Txt w K mg t):bp P w K mg base "_law_pair_begun" 1 t.xR t.uN ["_law_kept", "_law_word"] (λvs H Q _=>∃(c:Addr) (h:Bool) (r:List Int),vs=[.ref c,.str (cS (.pr h))]/\aF K H c (r.map V.int)/\(r.length=2\/r.length=4)/\∀H',aj H H'->Q (.str (hZ (bY h r))) H'):=by
 refine⟨T.Oq,T.Ej.kp,T.Q0,T.Ej.okQ mY (λvs H Q E h=>by obtain⟨c,h,r,rfl,_⟩:=h;rfl) λ_ _ _ _ H vs Q E hr h=>?_⟩;obtain⟨c,h,r,rfl,hc,lr,k⟩:=h;have hu:=hr.units;refine⟨_,(af (aG (i:=2) mY.nd Z (.inl Z) (aO ad))
  (af (dt PassesOwn.never rfl (Bd rfl T.n_range (ab ae (ab (bh (T4 K) T.n_len Ui (ab (aa 0) ad)) (ab ae ad)))) (aT (i:=3) mY.nd rfl (.inl rfl)) (af (Bc (i:=4) (j:=5) rfl mY.nd rfl rfl (by decide) rfl rfl (ab (ax (T5 K) (aa 0) (aa 3) (λ_ _=>rfl)) (ab (ax (T5 K) (aa 0) (aw (T2 K) (aa 3) ae) (λ_ _=>rfl)) ad)) rfl)
  (af (av (au (aX (K:=K) rfl hu) (aa 1) aU (ar _)) (ag (Bc (i:=4) (j:=5) rfl mY.nd rfl rfl (by decide) rfl rfl (ab (aa 5) (ab (aa 4) ad)) rfl)) aA)
  (ag (df (d7 (K:=K) rfl UH UZ U0 gR (aa 2) (ab (aw (T2 K) (aw fu ae (aa 4)) (aa 5)) ad)))))))
  (af (av (bO (cU (pq fw cV ae (ax (T5 K) (aa 2) ae (λ_ _=>rfl)) ae) (db (pq fw cV ae (ax (T5 K) (aa 2) ae (λ_ _=>rfl)) ae)))) (ag (ap aU)) aA)
  (af (av (bO (cU (au cV (ax (T5 K) (aa 2) ae (λ_ _=>rfl)) ae (ar _)) (db (au fK (ax (T5 K) (aa 2) ae (λ_ _=>rfl)) ae (ar _))))) (ag (ap aU)) aA)
  (af (av (au (aX (K:=K) rfl hu) (bh (T4 K) T.n_len Ui (ab (aa 2) ad)) ae (ar _)) (ag (ap aU)) aA)
  (ag (ap (ax (T5 K) (aO (ab aU (ab aU ad))) (cv ik T.n_int UV (ab (mj fw cV ae (ax (T5 K) (aa 2) ae (λ_ _=>rfl)) ae) ad)) (λ_ _=>rfl))))))))),?_⟩
 refine⟨sz Z,λp1 H1 g1=>?_⟩;have hc1:=g1.sm.seq hc;refine aY (.inl hc1) ?_;rw[Uc];refine⟨r.length,2,rfl,by lia,by decide,by decide,?_⟩;refine C9 (lo:=0) (c:=((2:Nat):Int)) (n:=(r.length+(2-1))/2) (λi σ H'=>aj H H'/\H' p1=some (.lst (((bY h r).take i).map V.int))/\∃v3 v4 v5,σ=[some (.ref c),some (.str (cS (.pr h))),some (.ref p1),v3,v4,v5]) ⟨g1.sm,g1.at_,_,_,_,Z⟩ ?_ ?_
 ·rintro i σ H2 hi ⟨s2,h2,v3,v4,v5,rfl⟩;have hc2:=s2.seq hc;obtain⟨x,hx⟩:∃x,r[2*i]? = some x:=⟨_,UL (by lia)⟩;obtain⟨y,hy⟩:∃y,r[2*i+1]? = some y:=⟨_,UL (by lia)⟩;have e1:(0:Int)+(i:Int)*((2:Nat):Int)=((2*i:Nat):Int):=by lia
  have eu:(bY h r)[i]? = some (u2 h x y):=by
   rcases lr with l|l
   ·match r,l with
    | [a,b],_ =>
     obtain rfl:i=0:=by simp at hi;lia
     cases hx;cases hy;rfl
   ·match r,l with
    | [a,b,d,e],_ =>
     have:i=0\/i=1:=by simp at hi;lia
     rcases this with rfl|rfl<;>cases hx<;>cases hy<;>rfl
  have tk:=f9 eu;dsimp only [bT];rw[e1];refine iS [some (.ref c),some (.str (cS (.pr h))),some (.ref p1),some (.int ((2*i:Nat):Int)),some (.int x),some (.int y)] (λnx hn=>?_) ?_
  ·refine⟨_,.int x,.inl hc2,aB (j:=2*i) (by rw[Ug,hx];rfl),?_⟩;refine⟨_,.int y,.inl hc2,?_,?_⟩
   ·rw[show ((2*i:Nat):Int)+1=((2*i+1:Nat):Int) by lia];exact aB (by rw[Ug,hy];rfl)
   ·exact⟨_,_,Z,hn⟩
  refine ca (λσ' H'=>H'=H2/\σ'=[some (.ref c),some (.str (cS (.pr h))),some (.ref p1),some (.int ((2*i:Nat):Int)),some (.int (if h then x else y)),some (.int (if h then y else x))]) (λnx hn=>?_) ?_
  ·cases h with
   | true =>
    refine xS (by decide +kernel) (by decide +kernel) ?_;refine ah (λe=>absurd e (by decide +kernel)) (λ_=>?_);exact hn _ _ ⟨rfl,rfl⟩
   | false =>
    refine xS (by decide +kernel) (by decide +kernel) ?_;refine ah (λ_=>?_) (λe=>absurd (by decide +kernel) e);exact⟨_,_,rfl,hn _ _ ⟨rfl,rfl⟩⟩
  rintro σ' _ ⟨rfl,rfl⟩;refine⟨.inl ⟨rfl,_,.of h2⟩,?_⟩;refine⟨.inl (by decide),?_⟩;have ev:256*(if h then x else y)+(if h then y else x)=u2 h x y:=by
   unfold u2;cases h<;>simp<;>lia
  refine dq h2 (eQ (by rw[Uc,Ul];lia)) ?_;rw[ev];exact⟨s2.put g1.nw,by rw[bc,tk,Up];rfl,_,_,_,rfl⟩
 ·rintro σ H2 ⟨s2,h2,v3,v4,v5,rfl⟩;have key:(∃u,bY h r=[u])\/∃u v,bY h r=[u,v]:=by
   rcases lr with l|l
   ·match r,l with
    | [a,b],_=>exact .inl ⟨_,rfl⟩
   ·match r,l with
    | [a,b,d,e],_=>exact .inr ⟨_,_,rfl⟩
  have el:(bY h r).length<=(r.length+(2-1))/2:=by
   rcases lr with l|l
   ·match r,l with
    | [a,b],_=>simp[bY]
   ·match r,l with
    | [a,b,d,e],_=>simp[bY]
  rw[UU el]at h2;obtain⟨u,tl,eu⟩:∃u tl,bY h r=u::tl:=by
   rcases key with ⟨u,e⟩|⟨u,v,e⟩
   ·exact⟨u,_,e⟩
   ·exact⟨u,_,e⟩
  have w1:(56320<=u/\u<57344)\/(61184<=u/\u<61440)->hZ (bY h r) = "none":=λz=>by
   rcases key with ⟨u',e⟩|⟨u',v,e⟩<;>(rw[e]at eu ⊢;cases eu;exact if_pos z)
  have w2:¬((56320<=u/\u<57344)\/(61184<=u/\u<61440))->u<55296\/57343<u->hZ (bY h r) = "sign":=λz y=>by
   rcases key with ⟨u',e⟩|⟨u',v,e⟩<;>(rw[e]at eu ⊢;cases eu;exact (if_neg z).trans (if_pos y))
  have at0:cW ((bY h r).map V.int) 0=some (.int u):=by rw[eu];exact aB (j:=0) Z
  have h2':aF K H2 p1 ((bY h r).map V.int):=.of h2;dsimp only;refine ca (λσ' H'=>H'=H2/\¬((56320<=u/\u<57344)\/(61184<=u/\u<61440))/\σ'=[some (V.ref c),some (V.str (cS (Md.pr h))),some (V.ref p1),v3,v4,v5]) (λnx hn=>?_) ?_
  ·refine aW _ (.int u) (.inl h2') at0 ?_;refine ah (λa1=>?_) (λa1=>?_)
   ·refine ah (λa2=>?_) (λa2=>?_)
    ·have:=k _ s2;rw[w1 (.inl ⟨of_decide_eq_true a1,of_decide_eq_true a2⟩)]at this;exact this
    ·refine aW _ (.int u) (.inl h2') at0 ?_;refine ah (λb1=>?_) (λb1=>?_)
     ·refine ah (λb2=>?_) (λb2=>?_)
      ·have:=k _ s2;rw[w1 (.inr ⟨of_decide_eq_true b1,of_decide_eq_true b2⟩)]at this;exact this
      ·exact hn _ _ ⟨rfl,λz=>by have a2:¬u<57344:=λy=>a2 (decide_eq_true y);have b2:¬u<61440:=λy=>b2 (decide_eq_true y);lia,rfl⟩
     ·exact hn _ _ ⟨rfl,λz=>by have a2:¬u<57344:=λy=>a2 (decide_eq_true y);have b1:¬61184<=u:=λy=>b1 (decide_eq_true y);lia,rfl⟩
   ·have a1:¬56320<=u:=λy=>a1 (decide_eq_true y);refine aW _ (.int u) (.inl h2') at0 ?_;refine ah (λb1=>?_) (λb1=>?_)
    ·exact absurd (of_decide_eq_true b1) (by lia)
    ·exact hn _ _ ⟨rfl,λz=>by lia,rfl⟩
  rintro σ' _ ⟨rfl,n1,rfl⟩;refine aW _ (.int u) (.inl h2') at0 ?_;refine ah (λa1=>?_) (λa1=>?_)
  ·have:=k _ s2;rw[w2 n1 (.inl (of_decide_eq_true a1))]at this;exact this
  refine aW _ (.int u) (.inl h2') at0 ?_;refine ah (λa2=>?_) (λa2=>?_)
  ·have:=k _ s2;rw[w2 n1 (.inr (of_decide_eq_true a2))]at this;exact this
  have n2:¬(u<55296\/57343<u):=λz=>z.elim (λy=>a1 (decide_eq_true y)) (λy=>a2 (decide_eq_true y));refine aY (.inl h2') ?_;rw[Uc];have kk:=k;rcases key with ⟨u',e⟩|⟨u',v,e⟩
  ·rw[e]at eu k ⊢;cases eu;have:=k _ s2;rw[show hZ [u] = "more" from (if_neg n1).trans (if_neg n2)]at this;exact this
  ·rw[e]at eu k h2' ⊢;cases eu;unfold gY;dsimp only;refine⟨sz Z,λp5 H6 g6=>?_⟩;refine aW _ (.int v) (.inl (g6.sm.seq h2')) (aB (j:=1) Z) ?_;have k6:=k _ (s2.trans g6.sm);have ep:hZ [u,v]=if 56320<=v/\v<57344 then ("sign" : Str) else ("none" : Str):=(if_neg n1).trans (if_neg n2)
   rw[ep]at k6;refine ah (λb1=>?_) (λb1=>?_)
   ·by_cases b2:v<57344
    ·rw[if_pos ⟨of_decide_eq_true b1,b2⟩]at k6;show fM K (.ref p5) (.int (if decide (v<57344)=true then (1:Int) else 0)) H6 Q;rw[if_pos (decide_eq_true b2)];exact⟨_,_,.inl g6.lst,aB (j:=1) Z,k6⟩
    ·rw[if_neg λz=>b2 z.2]at k6;show fM K (.ref p5) (.int (if decide (v<57344)=true then (1:Int) else 0)) H6 Q;rw[if_neg λz=>b2 (of_decide_eq_true z)];exact⟨_,_,.inl g6.lst,aB (j:=0) Z,k6⟩
   ·rw[if_neg λz=>b1 (decide_eq_true z.1)]at k6;exact⟨_,_,.inl g6.lst,aB (j:=0) Z,k6⟩
theorem B3:∀es:List (Int × List Int),PyData.canLayAll0 (es.map λe=>PyData.list (e.2.map PyData.int))=true/\PyData.depthAll (es.map λe=>PyData.list (e.2.map PyData.int))<=1
 | []=>⟨rfl,by simp[PyData.depthAll]⟩
 | e::es=>by
  obtain⟨a,b⟩:=B3 es
  constructor
  ·simp[PyData.canLayAll0,PyData.canLay0,WL,a]
  ·simp[PyData.depthAll,PyData.depth,Xe]
   lia
theorem Dp{K:PySem.W.Frag}{H:Hp}:∀ {qs:List Addr} {es:List (Int × List Int)},jO H qs es->eG K H (es.map λe=>PyData.list (e.2.map PyData.int)) (qs.map V.ref)
 | [],[],_=>.nil
 | [],_::_,h=>absurd h.1 (by simp)
 | _::_,[],h=>absurd h.1 (by simp)
 | q::qs,e::es,h=>.cons (bq.lst (.of (h.2 0 q e rfl rfl)) (eG.ints _)) (Dp (qs:=qs) (es:=es) ⟨by simpa using h.1,λi x y hx hy=>h.2 (i+1) x y hx hy⟩)
theorem DW(es:List (Int × List Int))(r:List Int):((es.map λe=>PyData.list (e.2.map PyData.int)).any λy=>PyData.eqv y (.list (r.map PyData.int)))=true ↔ ∃e∈es,e.2=r:=by
 rw[U2]
 constructor
 ·rintro⟨x,hx,e⟩;obtain⟨y,hy,rfl⟩:=Uu.mp hx;rw[qJ]at e;exact⟨y,hy,of_decide_eq_true e⟩
 ·rintro⟨y,hy,rfl⟩;exact⟨_,Uu.mpr ⟨y,hy,rfl⟩,by rw[qJ];exact decide_eq_true Z⟩
def G4(K:PySem.W.Frag):Sp:=λvs H Q _=>∃(p c:Addr) (M:Md) (D:Kt) (g:Int) (r:List Int),vs=[.ref p,.ref c,.int g]/\Mod H p M/\Mt M D/\c9 D/\bG D g/\aF K H c (r.map V.int)/\jQ D g r/\r.length<=900/\∀H',aj H H'->Q (.str (dH (be D g r))) H'
theorem Cr (T:Txt w K mg t):bp P w K mg base "_law_begun" 2 t.ya t.uY ["_law_model_here", "_law_kept", "_law_page_here"] (G4 K):=by
 refine⟨T.OC,T.Ex.kp,T.Re,T.Ex.okQ j6 (λvs H Q E h=>by obtain⟨p,c,M,D,g,r,rfl,_⟩:=h;rfl) λ_ _ _ _ H vs Q E hr h=>?_⟩;obtain⟨p,c,M,D,g,r,rfl,⟨a,b,hp,ct⟩,mt,ok,pg,hc,nx,lr,k⟩:=h;have hu:=hr.units;refine⟨_,(af (jy (aa 0) (fi (K:=K) Z Z (bI (aT (i:=3) j6.nd Z (.inl Z)) (bI (aT (i:=4) j6.nd Z (.inl Z)) (bI (aT (i:=5) j6.nd Z (.inl Z)) fh)))))
  (af (av (au (aX (K:=K) rfl hu) (aa 3) aU (ar _)) (ag (ap (aP (Nn T) hr (ab (aa 1) ad)))) aA)
  (af (av (bO (cU (au (aX (K:=K) rfl hu) (aa 3) aU (ar _)) (db (au (aX (K:=K) rfl hu) (aa 3) aU (ar _))))) (ag (ap (aP (Ni T) hr (ab (aa 1) (ab (aa 3) ad))))) aA)
  (af (av (au (aX (K:=K) rfl hu) (aa 3) aU (ar _)) (af (av (au (O3 (K:=K) rfl hu) (aa 1) (aa 5) (by with_unfolding_all rfl)) (ag (ap aU)) aA)
  (ag (ap (ax (T5 K) (aO (ab aU (ab aU ad))) (cv ik T.n_int UV (ab (bh (Qs (K:=K) rfl rfl) T.n_any PyProof.Rows.boot_any (ab (fT rfl (cZ.of (fns:=(ak jr).names) (N:=["_law_model_here", "_law_kept", "_law_page_here", "_law_word", "_law_first", "_law_second", "_law_here", "_law_there"]) (Nc:=["_law_row_here", "_law_kept"]) (nv:=1) (caps:=[1]) rfl rfl (by decide +kernel)) (dI (K:=K) rfl (aa 5)) (λ_ _ _ _=>(aT (i:=0) (show List.Nodup (["_law_row_here", "_law_kept"]:List Str) by decide +kernel) rfl (Or.inl rfl) (Or.inr rfl))) (λ_ _ _ _=>fg) (λ_ _ _ _=>(dJ (aX (K:=K) rfl hu) (du (T6 K) (aa 0) eS (cA (bh (T4 K) T.n_len Ui (ab (aa 1) ad)))) (aa 1) (ar _)))) ad)) ad)) (λ_ _=>rfl))))) aA)
  (af (av (au (aX (K:=K) rfl hu) (aa 3) aU (ar _)) (ag (ap aU)) aA)
  (af (aG (i:=6) j6.nd rfl (.inl rfl) (ax (T5 K) (aa 0) (aw (T2 K) ae (aa 2)) (λ_ _=>rfl)))
  (af (aG (i:=7) j6.nd rfl (.inl rfl) (ax (T5 K) (aa 0) (aw cD ae (aa 2)) (λ_ _=>rfl)))
  (af (av (bO (fR (au (aX (K:=K) rfl hu) (bh (T4 K) T.n_len Ui (ab (aa 1) ad)) ae (ar _)) (gb (au (aX (K:=K) rfl hu) (ax (T5 K) (aa 1) ae (λ_ _=>rfl)) (aw cD ae (aa 2)) (ar _))))) (ag (ap (ax (T5 K) (aO (ab aU (ab aU ad))) (cv ik T.n_int UV (ab (dJ fK (IQ (K:=K) rfl rfl T.n_len Ui T.n_set PyProof.Rows.boot_set (aa 7) (aa 6)) ae (ar _)) ad)) (λ_ _=>rfl)))) aA)
  (af (av (au (aX (K:=K) rfl hu) (bh (T4 K) T.n_len Ui (ab (aa 1) ad)) ae (ar _)) (ag (ap (ax (T5 K) (aO (ab aU (ab aU ad))) (cv ik T.n_int UV (ab (dJ cV (ax (T5 K) (aa 1) ae (λ_ _=>rfl)) (bh (T4 K) T.n_len Ui (ab (aa 6) ad)) (ar _)) ad)) (λ_ _=>rfl)))) aA)
  (ag (ap (ax (T5 K) (aO (ab aU (ab aU ad))) (cv ik T.n_int UV (ab (gc (dJ cV (ax (T5 K) (aa 1) ae (λ_ _=>rfl)) (bh (T4 K) T.n_len Ui (ab (aa 7) ad)) (ar _)) (fS (dJ (uo (K:=K) rfl) (ax (T5 K) (aa 7) (ax (T5 K) (aa 1) ae (λ_ _=>rfl)) (λ_ _=>rfl)) (aa 6) (by with_unfolding_all rfl)))) ad)) (λ_ _=>rfl))))))))))))),?_⟩
 have rne:r≠[]:=λe=>by
  obtain⟨_,p',u,e',lu,_⟩:=nx;rw[e]at e';have:=congrArg List.length e';rw[Ud]at this;have:=jS D;simp at *
  lia
 cases M with
 | ld =>
  obtain rfl:D=.ld:=mt;refine⟨p,_,Z,.of hp,Z,_,_,Z,_,_,Z,_,_,Z,Z,?_⟩;refine xS (by decide +kernel) (by decide +kernel) ?_;refine ah (λ_=>?_) (λe=>absurd (by decide +kernel) e);cases r with
  | nil=>exact absurd rfl rne
  | cons f r =>
   exact⟨c,f,r,rfl,hc,by simp at lr;lia,λH' s'=>by rw[Mo (g:=g) (K8 nx)];exact k H' s'⟩
 | pr h =>
  obtain rfl:D=.pr h:=mt;refine⟨p,_,Z,.of hp,Z,_,_,Z,_,_,Z,_,_,Z,Z,?_⟩;refine xS (aE (BE (.pr h))) (by decide +kernel) ?_;refine ah (λe=>absurd e (by cases h<;>decide +kernel)) (λ_=>?_);have fin:(r.length=2\/r.length=4)/\dH (be (.pr h) g r)=hZ (bY h r):=by
   rcases K7 nx with ⟨x,y,rfl,hx,hy⟩|⟨x,y,z,v,rfl,hx,hz,hu⟩
   ·exact⟨.inl Z,(Bk h hx hy).1⟩
   ·exact⟨.inr Z,JL h hu⟩
  cases h with
  | true =>
   refine xS (by decide +kernel) (by decide +kernel) ?_;refine ah (λ_=>?_) (λe=>absurd (by decide +kernel) e);exact⟨c,true,r,rfl,hc,fin.1,λH' s'=>by rw[<- fin.2];exact k H' s'⟩
  | false =>
   refine xS (by decide +kernel) (by decide +kernel) ?_;refine ah (λe=>absurd e (by decide +kernel)) (λ_=>?_);refine xS (by decide +kernel) (by decide +kernel) ?_;refine ah (λ_=>?_) (λe=>absurd (by decide +kernel) e);exact⟨c,false,r,rfl,hc,fin.1,λH' s'=>by rw[<- fin.2];exact k H' s'⟩
 | br =>
  obtain rfl:D=.br:=mt;refine⟨p,_,Z,.of hp,Z,_,_,Z,_,_,Z,_,_,Z,Z,?_⟩;refine xS (by decide +kernel) (by decide +kernel) ?_;refine ah (λe=>absurd e (by decide +kernel)) (λ_=>?_);refine xS (by decide +kernel) (by decide +kernel) ?_;refine ah (λe=>absurd e (by decide +kernel)) (λ_=>?_);refine xS (by decide +kernel) (by decide +kernel) ?_;refine ah (λe=>absurd e (by decide +kernel)) (λ_=>?_);refine xS (by decide +kernel) (by decide +kernel) ?_;refine ah (λe=>absurd e (by decide +kernel)) (λ_=>?_);refine xS (by decide +kernel) (by decide +kernel) ?_;refine ah (λ_=>?_) (λe=>absurd (by decide +kernel) e);exact k _ (aj.refl _)
 | tb es =>
  obtain⟨f,rfl⟩:=mt;obtain⟨ha,⟨qs,hb,rw1⟩,oke⟩:=ct;have hp:H p=some (.tup [.str "table",.ref a,.ref b]):=hp;refine⟨p,_,Z,.of hp,Z,_,_,Z,_,_,Z,_,_,Z,Z,?_⟩;refine xS (by decide +kernel) (by decide +kernel) ?_;refine ah (λe=>absurd e (by decide +kernel)) (λ_=>?_);refine xS (by decide +kernel) (by decide +kernel) ?_;refine ah (λe=>absurd e (by decide +kernel)) (λ_=>?_);refine xS (by decide +kernel) (by decide +kernel) ?_;refine ah (λe=>absurd e (by decide +kernel)) (λ_=>?_);refine xS (by decide +kernel) (by decide +kernel) ?_;refine ah (λ_=>?_) (λe=>absurd (by decide +kernel) e);have ly:=B3 es;refine⟨_,_,bq.lst (.of hb) (Dp rw1),bq.lst hc (eG.ints r),ly.1,by simp[PyData.canLay0,WL],by have:=ly.2;lia,?_⟩;obtain⟨t1,t2,t3⟩:=FX (f:=f) (es:=es) (g:=g) (r:=r);refine ah (λz=>?_) (λz=>?_)
  ·have:=k _ (aj.refl _);rw[t1 ((DW es r).mp z)]at this;exact this
  have z:¬ ∃e∈es,e.2=r:=λy=>z ((DW es r).mpr y);refine⟨sz Z,λp5 H6 g6=>?_⟩;have hb6:=g6.sm _ _ hb;have hc6:=g6.sm.seq hc;have rw6:=rw1.mono g6.sm;refine cy b rfl ⟨_,.of hb6⟩ (jM ((es.map λe=>decide (e.2.take r.length=r)).map V.bl) (by simp[rw6.1]) (.of hb6) (ci (by rw[Uc,rw6.1];have:=oke.l;lia)) (λi x y H7 N hx hy s7 hN=>?_) λp8 H8 g8=>?_)
  ·rw[Ug]at hx;rw[Ug,Ug]at hy;cases hq:qs[i]? with
   | none=>rw[hq]at hx;cases hx
   | some q =>
   rw[hq]at hx;cases hx;obtain⟨e,he,hqe⟩:=rw6.right hq;rw[he]at hy;cases hy;refine⟨_,.inl (s7.seq hc6),_,Z,_,.of (s7 _ _ hqe),λp9 H9 g9=>?_⟩;rw[Uc,nX]at g9;exact gS g9.lst ((s7.trans g9.sm).seq hc6) (hN _ g9.sm)
  refine aY g8.lst ?_;have k8:=k _ (g6.sm.trans g8.sm);by_cases y:∃e∈es,e.2.take r.length=r
  ·rw[t2 z y]at k8;have e:((es.map λe=>decide (e.2.take r.length=r)).any id)=true:=by
    rw[U2];obtain⟨e,he,hr⟩:=y;exact⟨_,Uu.mpr ⟨e,he,Z⟩,decide_eq_true hr⟩
   show fM K (.ref p5) (.int (if ((es.map λe=>decide (e.2.take r.length=r)).any id)=true then (1:Int) else 0)) H8 Q;rw[if_pos e];exact⟨_,_,.inl (g8.sm.seq g6.lst),aB (j:=1) Z,k8⟩
  ·rw[t3 z y]at k8;have e:¬((es.map λe=>decide (e.2.take r.length=r)).any id)=true:=by
    rw[U2];rintro⟨x,hx,e⟩;obtain⟨e',he,rfl⟩:=Uu.mp hx;exact y ⟨e',he,of_decide_eq_true e⟩
   show fM K (.ref p5) (.int (if ((es.map λe=>decide (e.2.take r.length=r)).any id)=true then (1:Int) else 0)) H8 Q;rw[if_neg e];exact⟨_,_,.inl (g8.sm.seq g6.lst),aB (j:=0) Z,k8⟩
 | sh ns ms =>
  obtain⟨f,rfl⟩:=mt;obtain⟨ha,hb,okn,okm⟩:=ct;have two:cP g:=pg;have hp:H p=some (.tup [.str "shift",.ref a,.ref b]):=hp;refine⟨p,_,Z,.of hp,Z,_,_,Z,_,_,Z,_,_,Z,Z,?_⟩;refine xS (by decide +kernel) (by decide +kernel) ?_;refine ah (λe=>absurd e (by decide +kernel)) (λ_=>?_);refine xS (by decide +kernel) (by decide +kernel) ?_;refine ah (λe=>absurd e (by decide +kernel)) (λ_=>?_);refine xS (by decide +kernel) (by decide +kernel) ?_;refine ah (λe=>absurd e (by decide +kernel)) (λ_=>?_);refine xS (by decide +kernel) (by decide +kernel) ?_;refine ah (λe=>absurd e (by decide +kernel)) (λ_=>?_);refine xS (by decide +kernel) (by decide +kernel) ?_;refine ah (λe=>absurd e (by decide +kernel)) (λ_=>?_);have i1:cW ([.str "shift",.ref a,.ref b]:List V) (1+g)=some (.ref (ao g a b)):=by rcases two with rfl|rfl<;>rfl
  have i2:cW ([.str "shift",.ref a,.ref b]:List V) (2-g)=some (.ref (ao g b a)):=by rcases two with rfl|rfl<;>rfl
  have hA:H (ao g a b)=some (.lst ((ao g ns ms).map V.int)):=by rcases two with rfl|rfl<;>assumption
  have hB:H (ao g b a)=some (.lst ((ao g ms ns).map V.int)):=by rcases two with rfl|rfl<;>assumption
  have lA:(ao g ns ms).length<=250:=(j1 okn okm).2.2;have lB:(ao g ms ns).length<=250:=(j1 okm okn).2.2;unfold gY;dsimp only;refine iS [some (.ref p),some (.ref c),some (.int g),some (.str "shift"),some (.ref a),some (.ref b),some (.ref (ao g a b)),none] (λnx hn=>⟨_,_,.inr (.of hp),i1,hn⟩) ?_;refine iS [some (.ref p),some (.ref c),some (.int g),some (.str "shift"),some (.ref a),some (.ref b),some (.ref (ao g a b)),some (.ref (ao g b a))] (λnx hn=>⟨_,_,.inr (.of hp),i2,hn⟩) ?_;refine aY (.inl hc) ?_;rcases K6 nx with ⟨b1,rfl,b0⟩|⟨c1,rfl,c0⟩
  ·obtain⟨w1,w2,w3,w4⟩:=Hg (f:=f) (ns:=ns) (ms:=ms) (g:=g) two lA b0;refine aW _ (.int b1) (.inl hc) (aB (j:=0) Z) ?_;refine ah (λz=>?_) (λz=>?_)
   ·have z:b1=255-g:=of_decide_eq_true z;refine⟨sz Z,λp5 H6 g6=>?_⟩;refine⟨_,_,Z,.of (g6.sm _ _ hB),lB,_,_,Z,.of (g6.sm _ _ hA),lA,λn hn=>?_⟩;have k6:=k _ g6.sm;by_cases y:∃k∈ao g ms ns,k∉ao g ns ms
    ·rw[w1 z y]at k6;show fM K (.ref p5) (.int (if decide ((0:Int)<(n:Int))=true then (1:Int) else 0)) H6 Q;rw[if_pos (decide_eq_true (by have:=hn.mpr y;lia))];exact⟨_,_,.inl g6.lst,aB (j:=1) Z,k6⟩
    ·rw[w2 z y]at k6;show fM K (.ref p5) (.int (if decide ((0:Int)<(n:Int))=true then (1:Int) else 0)) H6 Q;rw[if_neg (λh=>y (hn.mp (by have:=of_decide_eq_true h;lia)))];exact⟨_,_,.inl g6.lst,aB (j:=0) Z,k6⟩
   ·have z:¬b1=255-g:=λy=>z (decide_eq_true y);refine aY (.inl hc) ?_;refine⟨sz Z,λp5 H6 g6=>?_⟩;refine aW _ (.int b1) (.inl (g6.sm.seq hc)) (aB (j:=0) Z) ?_;refine aY (.inl (.of (g6.sm _ _ hA))) ?_;rw[Uc];have k6:=k _ g6.sm;by_cases y:b1<((ao g ns ms).length:Int)
    ·rw[w3 z y]at k6;show fM K (.ref p5) (.int (if decide (b1<((ao g ns ms).length:Int))=true then (1:Int) else 0)) H6 Q;rw[if_pos (decide_eq_true y)];exact⟨_,_,.inl g6.lst,aB (j:=1) Z,k6⟩
    ·rw[w4 z y]at k6;show fM K (.ref p5) (.int (if decide (b1<((ao g ns ms).length:Int))=true then (1:Int) else 0)) H6 Q;rw[if_neg (λh=>y (of_decide_eq_true h))];exact⟨_,_,.inl g6.lst,aB (j:=0) Z,k6⟩
  ·obtain⟨w1,w2⟩:=Hf (f:=f) (ns:=ns) (ms:=ms) (g:=g) c0;refine aY (.inl hc) ?_;refine⟨sz Z,λp5 H6 g6=>?_⟩;have hc6:=g6.sm.seq hc;have k6:=k _ g6.sm;refine aW _ (.int c1) (.inl hc6) (aB (j:=1) Z) ?_;refine aY (.inl (.of (g6.sm _ _ hB))) ?_;rw[Uc];refine ah (λy=>?_) (λy=>?_)
   ·have y:c1<((ao g ms ns).length:Int):=of_decide_eq_true y;obtain⟨n,hn⟩:∃n,(ao g ms ns)[c1.toNat]? = some n:=⟨_,UL (by lia)⟩;refine aW _ (.int c1) (.inl hc6) (aB (j:=1) Z) ?_;refine aW _ (.int n) (.inl (.of (g6.sm _ _ hB))) (DU c0 hn) ?_;refine gK (.inl (.of (g6.sm _ _ hA))) Z (i8 _) ?_;show fM K (.ref p5) (.int (if (!bC (.int n) ((ao g ns ms).map V.int))=true then (1:Int) else 0)) H6 Q;rw[h8];by_cases x:n∈ao g ns ms
    ·rw[w2 (by rintro⟨m,hm,hx⟩;rw[hn]at hm;cases hm;exact hx x)]at k6;rw[if_neg (by simp[x])];exact⟨_,_,.inl g6.lst,aB (j:=0) Z,k6⟩
    ·rw[w1 ⟨n,hn,x⟩]at k6;rw[if_pos (by simp[x])];exact⟨_,_,.inl g6.lst,aB (j:=1) Z,k6⟩
   ·have y:¬c1<((ao g ms ns).length:Int):=λz=>y (decide_eq_true z);rw[w2 (by rintro⟨m,hm,_⟩;rw[U7 (by lia)]at hm;cases hm)]at k6;exact⟨_,_,.inl g6.lst,aB (j:=0) Z,k6⟩
noncomputable def eJ(D:Kt)(g:Int)(bs:List Int):List Str:=(List.range (bs.length/am D)).map λm=>dH (be D g (bs.take ((m+1)*am D)))
theorem sF{M:Md}{D:Kt}(m:Mt M D):zw M=(am D:Int):=by
 cases M with
 | ld=>obtain rfl:D=.ld:=m;rfl
 | pr b=>obtain rfl:D=.pr b:=m;rfl
 | sh ns ms=>obtain⟨f,rfl⟩:=m;rfl
 | tb es=>obtain⟨f,rfl⟩:=m;rfl
 | br=>obtain rfl:D=.br:=m;rfl
theorem Ga(n u:Nat)(hu:1<=u)(hu2:u<=2):iR (u:Int) ((n:Int)+1) (u:Int)=n/u:=by
 unfold iR Builtin.Range.rangeSize;rw[if_pos (by lia)];have:u=1\/u=2:=by lia
 rcases this with rfl|rfl
 ·split<;>lia
 ·split<;>lia
def Gf(K:PySem.W.Frag):Sp:=λvs H Q _=>∃(p c:Addr) (M:Md) (D:Kt) (g:Int) (bs:List Int),vs=[.ref p,.ref c,.int g]/\Mod H p M/\Mt M D/\c9 D/\bG D g/\aF K H c (bs.map V.int)/\bs.length<=800/\(∀m,0<m->m*am D<=bs.length->jQ D g (bs.take (m*am D)))/\∀q H',aj H H'->H' q=some (.lst ((eJ D g bs).map V.str))->Q (.ref q) H'
theorem Na (T:Txt w K mg t):bp P w K mg base "_law_units" 3 t.xJ t.uF ["_law_model_here", "_law_part", "_law_page_here"] (Gf K):=by
 refine⟨T.Oh,T.Eb.kp,T.QP,T.Eb.okQ oQ (λvs H Q E h=>by obtain⟨p,c,M,D,g,r,rfl,_⟩:=h;rfl) λ_ _ _ _ H vs Q E hr h=>?_⟩;obtain⟨p,c,M,D,g,bs,rfl,md,mt,ok,pg,hc,lb,nx,k⟩:=h;have hu:=hr.units;have eu:=sF mt;have u12:=jS D;refine⟨_,(af (aG (i:=3) oQ.nd Z (.inl Z) (aP (t4 T) hr (ab (aa 0) ad)))
  (af (aG (i:=4) oQ.nd rfl (.inl rfl) (aO ad))
  (af (dt PassesOwn.never rfl (IY rfl T.n_range (ab (aa 3) (ab (aw (T2 K) (bh (T4 K) T.n_len Ui (ab (aa 1) ad)) ae) (ab (aa 3) ad)))) (aT (i:=5) oQ.nd rfl (.inl rfl)) (ag (df (d7 (K:=K) rfl UH UZ U0 gR (aa 4) (ab (aP (Cr T) hr (ab (aa 0) (ab (du (T6 K) (aa 1) eS (cA (aa 5))) (ab (aa 2) ad)))) ad)))))
  (ag (ap (aa 4)))))),?_⟩
 refine aW p M Z md (λH1 s1=>?_);rw[eu];refine⟨sz Z,λq H2 g2=>?_⟩;have s2:=s1.trans g2.sm;refine aY (.inl (s2.seq hc)) ?_;rw[Uc];refine⟨_,_,_,rfl,⟨by lia,by lia,by lia,by lia,by lia,by lia,by lia⟩,?_⟩;rw[Ga _ _ u12.1 u12.2];refine C9 (λi σ H'=>aj H1 H'/\H' q=some (.lst (((eJ D g bs).take i).map V.str))/\∃v5,σ=[some (.ref p),some (.ref c),some (.int g),some (.int (am D:Int)),some (.ref q),v5]) ⟨g2.sm,g2.at_,_,Z⟩ ?_ ?_
 ·rintro i σ H3 hi ⟨s3,h3,v5,rfl⟩;have hl:(i+1)*am D<=bs.length:=UE (Xf _ hi) (Wt _ _);have ei:((am D:Nat):Int)+(i:Int)*((am D:Nat):Int)=(((i+1)*am D:Nat):Int):=by rw[VR];simp;lia
  rw[ei];refine⟨.inl ⟨rfl,_,.of h3⟩,?_⟩;have s03:=s1.trans s3;refine⟨_,Z,_,s03.seq hc,λp4 H4 g4=>?_⟩;rw[nX]at g4;refine⟨p,p4,M,D,g,_,rfl,md.mono (s03.trans g4.sm),mt,ok,pg,g4.lst,nx (i+1) (by lia) hl,by rw[Ul];lia,λH5 s5=>?_⟩;have h5:=s5 _ _ (g4.sm _ _ h3);refine dq h5 (eQ (by rw[Uc,Ul];unfold eJ;rw[Uc,UP];have:=VU bs.length (am D);lia)) ?_;have tk:(eJ D g bs).take (i+1)=(eJ D g bs).take i++[dH (be D g (bs.take ((i+1)*am D)))]:=f9 (by unfold eJ;rw[Ug,VI hi];rfl);exact⟨(s3.trans (g4.sm.trans s5)).put g2.nw,by rw[bc,tk,Up];rfl,_,rfl⟩
 ·rintro σ H3 ⟨s3,h3,v5,rfl⟩;rw[UU (by unfold eJ;rw[Uc,UP];exact Ue _)]at h3;exact k q H3 (s1.trans s3) h3
theorem zq {D:Kt} {g:Int} {bs:List Int} (h:c8 D g bs):∀x∈eJ D g bs,x = "more":=by
 intro x hx;unfold eJ at hx;obtain⟨m,hm,rfl⟩:=Uu.mp hx;rw[h (m+1) (by lia) (UE (Xf _ (U3.mp hm)) (Wt _ _))]
 rfl
theorem Fq{D:Kt}{g:Int}{bs:List Int}(l:bs.length=am D):eJ D g bs=[dH (be D g bs)]:=by
 have u12:=jS D;unfold eJ;rw[l,Nat.div_self (by lia)];show [dH (be D g (bs.take ((0+1)*am D)))]=_;rw[UU (by lia)]
theorem jK{H:Hp}:∀ws:List Str,eG K H (ws.map PyData.str) (ws.map V.str)
 | []=>.nil
 | x::ws=>.cons (bq.str x) (jK ws)
theorem Ds {ws:List Str} (h:∀x∈ws,x = "more"):SeqAt.shaped (.list (ws.map PyData.str))=true:=by
 have key:PyData.canLayAll0 (ws.map PyData.str)=true/\PyData.depthAll (ws.map PyData.str)<=0:=by
  induction ws with
  | nil=>exact⟨rfl,by simp[PyData.depthAll]⟩
  | cons x ws ih =>
   obtain⟨a,b⟩:=ih λy hy=>h y (Uw _ hy);obtain rfl:=h x (Uv ..)
   constructor
   ·have:PyData.canLay0 (.str "more")=true:=by decide +kernel
    simp[PyData.canLayAll0,a,this]
   ·simp[PyData.depthAll,PyData.depth]
    lia
 simp[SeqAt.shaped,PyData.canLay0,PyData.depth,key.1]
 lia
def y6(D:Kt)(g:Int)(wd:Str)(bs:List Int)(v:V)(nx:List Int)(g':Int):Prop :=
 (∃n,wd = "sign"/\v=.int n/\fP D n/\(bS D g n).1=bs/\g'=(bS D g n).2)\/∃kd,wd = "passed"/\v=.str kd/\zd D g kd bs nx/\g'=g
def GF(K:PySem.W.Frag):Sp:=λvs H Q _=>∃(p c n:Addr) (M:Md) (D:Kt) (g g':Int) (wd:Str) (bs nx:List Int) (v:V),vs=[.ref p,.str wd,.ref c,v,.int g,.ref n]/\Mod H p M/\Mt M D/\c9 D/\bG D g/\aF K H c (bs.map V.int)/\aF K H n ((nx.take (am D)).map V.int)/\bj bs/\bj nx/\bs.length<=400/\y6 D g wd bs v nx g'/\∀H',aj H H'->Q (.int g') H'
theorem Nj (T:Txt w K mg t):bp P w K mg base "_law_page" 4 t.xT t.uO ["_law_model_here", "_law_word", "_law_part", "_law_thing", "_law_page_here", "_law_next_unit"] (GF K):=by
 refine⟨T.Os,T.Ek.kp,T.Q3,T.Ek.okQ iU (λvs H Q E h=>by obtain⟨p,c,n,M,D,g,g',wd,bs,nx,v,rfl,_⟩:=h;rfl) λ_ _ _ _ H vs Q E hr h=>?_⟩;obtain⟨p,c,n,M,D,g,g',wd,bs,nxs,v,rfl,md,mt,ok,pg,hc,hn,bb,bn,lb,pa,k⟩:=h;have hu:=hr.units;have eu:=sF mt;have u12:=jS D;refine⟨_,(af (aG (i:=6) iU.nd Z (.inl Z) (aP (t4 T) hr (ab (aa 0) ad)))
  (af (av (au (aX (K:=K) rfl hu) (aa 1) aU (ar _)) (af (av (dN (dw (aP (Cq T) hr (ab (aa 3) ad)))) (ag (ap bL)) aA)
  (af (aG (i:=7) iU.nd rfl (.inl rfl) (aP (Co T) hr (ab (aa 0) (ab (aa 3) (ab (aa 4) ad)))))
  (af (av (bO (cU (au ig (aa 7) bL (ar _)) (db (au (ie (K:=K) rfl hu) (ax (T5 K) (aa 7) ae (λ_ _=>rfl)) (aa 2) (ar _))))) (ag (ap bL)) aA)
  (ag (ap (ax (T5 K) (aa 7) ae (λ_ _=>rfl))))))) aA)
  (af (av (bO (cU (au (ie (K:=K) rfl hu) (aa 1) aU (ar _)) (db (bO (fR (au (ie (K:=K) rfl hu) (aa 3) aU (ar _)) (gb (au (ie (K:=K) rfl hu) (aw qj (bh (T4 K) T.n_len Ui (ab (aa 2) ad)) (aa 6)) ae (ar _)))))))) (ag (ap bL)) aA)
  (af (aG (i:=8) iU.nd rfl (.inl rfl) (aP (Na T) hr (ab (aa 0) (ab (aa 2) (ab (aa 4) ad)))))
  (af (aG (i:=9) iU.nd rfl (.inl rfl) (gc (dJ (aX (K:=K) rfl hu) (aa 8) (aO (ab aU ad)) (ar _)) (fS (dJ (aX (K:=K) rfl hu) (aa 3) aU (ar _)))))
  (af (av (au (aX (K:=K) rfl hu) (aa 3) aU (ar _)) (ag (aG (i:=9) iU.nd rfl (.inl rfl) (gc (dJ (aX (K:=K) rfl hu) (aa 5) (aO ad) (ar _)) (fS (bh (rE (K:=K) rfl rfl) T.n_all V3 (ab (fT rfl (cZ.of (fns:=(ak iV).names) (N:=["_law_model_here", "_law_word", "_law_part", "_law_thing", "_law_page_here", "_law_next_unit", "_law_unit_here", "_law_told", "_law_words", "_law_good"]) (Nc:=["_law_one"]) (nv:=1) (caps:=[]) rfl rfl (by decide +kernel)) (dI (K:=K) rfl (aa 8)) (λ_ _ _ _=>(aT (i:=0) (show List.Nodup (["_law_one"]:List Str) by decide +kernel) rfl (Or.inl rfl) (Or.inr rfl))) (λ_ _ _ _=>fg) (λ_ _ _ _=>(dJ (aX (K:=K) rfl hu) (aa 0) aU (ar _)))) ad)))))) aA)
  (af (av (au (aX (K:=K) rfl hu) (aa 3) aU (ar _)) (af (aG (i:=9) iU.nd rfl (.inl rfl) (gc (bh (rE (K:=K) rfl rfl) T.n_all V3 (ab (fT rfl (cZ.of (fns:=(ak iV).names) (N:=["_law_model_here", "_law_word", "_law_part", "_law_thing", "_law_page_here", "_law_next_unit", "_law_unit_here", "_law_told", "_law_words", "_law_good"]) (Nc:=["_law_one"]) (nv:=1) (caps:=[]) rfl rfl (by decide +kernel)) (dI (K:=K) rfl (aa 8)) (λ_ _ _ _=>(aT (i:=0) (show List.Nodup (["_law_one"]:List Str) by decide +kernel) rfl (Or.inl rfl) (Or.inr rfl))) (λ_ _ _ _=>fg) (λ_ _ _ _=>(dJ (aX (K:=K) rfl hu) (aa 0) aU (ar _)))) ad)) (fS (dJ (aX (K:=K) rfl hu) (bh (T4 K) T.n_len Ui (ab (aa 5) ad)) (aa 6) (ar _)))))
  (ag (aG (i:=9) iU.nd rfl (.inl rfl) (gc (aa 9) (fS (dJ (aX (K:=K) rfl hu) (aP (Cr T) hr (ab (aa 0) (ab (aw (T2 K) (aa 2) (aa 5)) (ab (aa 4) ad)))) aU (ar _))))))) aA)
  (ag (ap (ax (T5 K) (aO (ab bL (ab (aa 4) ad))) (cv ik T.n_int UV (ab (aa 9) ad)) (λ_ _=>rfl))))))))))),?_⟩
 refine aW p M Z md (λH1 s1=>?_);rw[eu];rcases pa with ⟨m,rfl,rfl,hm,eb,rfl⟩|⟨kd,rfl,rfl,ft,eg⟩
 ·refine xS (by decide +kernel) (by decide +kernel) ?_;refine ah (λ_=>?_) (λe=>absurd (by decide +kernel) e);refine gw m Z ?_;refine bK p M D m g Z (md.mono s1) mt hm pg (λpr q H2 s2 nq hq hpr=>?_);refine aW _ (.ref q) (.inr (.of hpr)) (aB (j:=0) Z) ?_;have s12:=s1.trans s2;refine i4 (v:=.ref c) (by rfl) ?_;refine gS (ns:=(bS D g m).1) (ms:=bs) (.of hq) (s12.seq hc) ?_;refine ah (λz=>absurd z (by simp[eb])) (λ_=>?_);exact⟨_,_,.inr (.of hpr),aB (j:=1) Z,k _ s12⟩
 ·refine xS (by decide +kernel) (by decide +kernel) ?_;refine ah (λe=>absurd e (by decide +kernel)) (λ_=>?_);refine xS (by decide +kernel) (by decide +kernel) ?_;refine ah (λe=>absurd e (by decide +kernel)) (λ_=>?_);rw[eg]at k;have hc1:=s1.seq hc;have hn1:=s1.seq hn;have md1:=md.mono s1;rcases ft with ⟨rfl,lu,no⟩|⟨rfl,dv,mr,ln,no⟩|⟨rfl,rfl,mr⟩
  ·refine xS (by decide +kernel) (by decide +kernel) ?_;refine ah (λ_=>?_) (λe=>absurd (by decide +kernel) e);refine aY (.inl hc1) ?_;rw[Uc];refine⟨by lia,?_⟩;refine ah (λz=>absurd z (by simp[lu])) (λ_=>?_);unfold gY;dsimp only;refine⟨p,c,M,D,g,bs,rfl,md1,mt,ok,pg,hc1,by lia,λm m0 hl=>?_,λq H2 s2 hq=>?_⟩
   ·have e:m*am D=am D:=by
     have:am D<=m*am D:=Xd _ m0
     lia
    rw[e,UU (by lia)];exact tH ok pg (c8.nil D g) (λ_ h=>nomatch h) (Nat.zero_mod _) lu bb
   rw[Fq lu,no]at hq;dsimp only [bT];refine ca (λσ' H'=>aj H2 H'/\σ'=[some (.ref p),some (.str "passed"),some (.ref c),some (.str "strange"),some (.int g),some (.ref n),some (.int (am D:Int)),none,some (.ref q),some (.bl true)]) (λnx hn=>?_) ?_
   ·refine⟨sz Z,λp3 H3 g3=>?_⟩;refine⟨_,_,bq.lst (.of (g3.sm _ _ hq)) (jK ["none"]),bq.lst g3.lst (jK ["none"]),by decide +kernel,by decide +kernel,?_⟩;refine ah (λ_=>?_) (λe=>absurd (by decide +kernel) e);refine xS (by decide +kernel) (by decide +kernel) ?_;have e:(if false=true then !PyData.eqv (.str "strange") (.str "strange") else PyData.eqv (.str "strange") (.str "strange"))=true:=by decide +kernel
    rw[e];exact hn _ _ ⟨g3.sm,Z⟩
   rintro σ' H3 ⟨s3,rfl⟩;refine xS (by decide +kernel) (by decide +kernel) ?_;refine ah (λe=>absurd e (by decide +kernel)) (λ_=>?_);refine xS (by decide +kernel) (by decide +kernel) ?_;refine ah (λe=>absurd e (by decide +kernel)) (λ_=>?_);refine⟨sz Z,λp4 H4 g4=>?_⟩;exact⟨_,_,.inl g4.lst,aB (j:=1) Z,k _ (s1.trans (s2.trans (s3.trans g4.sm)))⟩
  ·refine xS (by decide +kernel) (by decide +kernel) ?_;refine ah (λ_=>?_) (λe=>absurd (by decide +kernel) e);refine aY (.inl hc1) ?_;rw[Uc];refine⟨by lia,?_⟩;have dv':(bs.length:Int)%(am D:Int)=0:=by rw[<- Int.natCast_emod,dv];rfl
   refine ah (λz=>absurd z (by simp[dv'])) (λ_=>?_);unfold gY;dsimp only;refine⟨p,c,M,D,g,bs,rfl,md1,mt,ok,pg,hc1,by lia,λm m0 hl=>BF ok pg mr bb m0 hl,λq H2 s2 hq=>?_⟩;have wm:=zq mr;have lw:(eJ D g bs).length<=100000:=by unfold eJ;rw[Uc,UP];have:=VU bs.length (am D);lia
   generalize eJ D g bs=ws at hq wm lw;dsimp only [bT];refine ca (λσ' H'=>aj H2 H'/\∃v9,σ'=[some (.ref p),some (.str "passed"),some (.ref c),some (.str "broken"),some (.int g),some (.ref n),some (.int (am D:Int)),none,some (.ref q),v9]) (λnx hn=>?_) ?_
   ·refine⟨sz Z,λp3 H3 g3=>?_⟩;refine⟨_,_,bq.lst (.of (g3.sm _ _ hq)) (jK ws),bq.lst g3.lst (jK ["none"]),Ds wm,by decide +kernel,?_⟩;refine ah (λ_=>?_) (λ_=>hn _ _ ⟨g3.sm,_,Z⟩);exact⟨_,_,bq.str _,bq.str _,by decide +kernel,by decide +kernel,hn _ _ ⟨g3.sm,_,rfl⟩⟩
   rintro σ' H3 ⟨s3,v9,rfl⟩;refine xS (by decide +kernel) (by decide +kernel) ?_;refine ah (λe=>absurd e (by decide +kernel)) (λ_=>?_);dsimp only;refine ca (λσ' H'=>aj H3 H'/\σ'=[some (.ref p),some (.str "passed"),some (.ref c),some (.str "broken"),some (.int g),some (.ref n),some (.int (am D:Int)),none,some (.ref q),some (.bl true)]) (λnx hn=>?_) ?_
   ·refine xS (by decide +kernel) (by decide +kernel) ?_;refine ah (λ_=>?_) (λe=>absurd (by decide +kernel) e);refine ca (λσ' H'=>aj H3 H'/\σ'=[some (.ref p),some (.str "passed"),some (.ref c),some (.str "broken"),some (.int g),some (.ref n),some (.int (am D:Int)),none,some (.ref q),some (.bl true)]) (λnx' hn'=>?_) ?_
    ·refine cy q rfl ⟨_,.of (s3 _ _ hq)⟩ (jM ((ws.map λ_=>true).map V.bl) (by simp) (.of (s3 _ _ hq)) (ci (by rw[Uc];exact lw)) (λi x y H7 N hx hy s7 hN=>?_) λp8 H8 g8=>?_)
     ·rw[Ug]at hx;rw[Ug,Ug]at hy;cases hw:ws[i]? with
      | none=>rw[hw]at hx;cases hx
      | some u =>
      rw[hw]at hx hy;cases hx;cases hy;obtain rfl:=wm u (Ur hw);exact⟨_,_,bq.str _,bq.str _,by decide +kernel,by decide +kernel,cE (hN _ (aj.refl _)) (by decide +kernel)⟩
     refine aY g8.lst ?_;have e:(ws.map λ_=>true).all id=true:=by simp
     refine ah (λ_=>?_) (λz=>absurd e z);have s18:=s2.trans (s3.trans g8.sm);refine aY (.inl (s18.seq hn1)) ?_;rw[Uc,Ul,UT ln];have e2:(if false=true then !decide ((am D:Int)=(am D:Int)) else decide ((am D:Int)=(am D:Int)))=true:=by simp
     show nx' [some (.ref p),some (.str "passed"),some (.ref c),some (.str "broken"),some (.int g),some (.ref n),some (.int (am D:Int)),none,some (.ref q),some (.bl (if false=true then !decide ((am D:Int)=(am D:Int)) else decide ((am D:Int)=(am D:Int))))] H8;rw[e2];exact hn' _ _ ⟨g8.sm,Z⟩
    rintro σ' H8 ⟨s8,rfl⟩;have s18:=s2.trans (s3.trans s8);refine fe (s18.seq hc1) (s18.seq hn1) (ci (by rw[Uc,Uc,Ul];lia)) (λp9 H9 g9=>?_);rw[<- Up]at g9;have s19:=s18.trans g9.sm;refine⟨p,p9,M,D,g,bs++nxs.take (am D),rfl,md1.mono s19,mt,ok,pg,g9.lst,tH ok pg mr bb dv (by rw[Ul];lia) (λx hx=>bn x (U8 hx)),by rw[Ud,Ul];lia,λH10 s10=>?_⟩;rw[no];refine xS (by decide +kernel) (by decide +kernel) ?_;have e:(if false=true then !PyData.eqv (.str (dH .no)) (.str "none") else PyData.eqv (.str (dH .no)) (.str "none"))=true:=by decide +kernel
    rw[e];exact hn _ _ ⟨s8.trans (g9.sm.trans s10),Z⟩
   rintro σ' H8 ⟨s8,rfl⟩;refine⟨sz Z,λp4 H4 g4=>?_⟩;exact⟨_,_,.inl g4.lst,aB (j:=1) Z,k _ (s1.trans (s2.trans (s3.trans (s8.trans g4.sm))))⟩
  ·refine xS (by decide +kernel) (by decide +kernel) ?_;refine ah (λe=>absurd e (by decide +kernel)) (λ_=>?_);unfold gY;dsimp only;refine⟨p,c,M,D,g,bs,rfl,md1,mt,ok,pg,hc1,by lia,λm m0 hl=>BF ok pg mr bb m0 hl,λq H2 s2 hq=>?_⟩;have wm:=zq mr;have lw:(eJ D g bs).length<=100000:=by unfold eJ;rw[Uc,UP];have:=VU bs.length (am D);lia
   generalize eJ D g bs=ws at hq wm lw;dsimp only [bT];refine ca (λσ' H'=>aj H2 H'/\∃v9,σ'=[some (.ref p),some (.str "passed"),some (.ref c),some (.str "short"),some (.int g),some (.ref n),some (.int (am D:Int)),none,some (.ref q),v9]) (λnx hn=>?_) ?_
   ·refine⟨sz Z,λp3 H3 g3=>?_⟩;refine⟨_,_,bq.lst (.of (g3.sm _ _ hq)) (jK ws),bq.lst g3.lst (jK ["none"]),Ds wm,by decide +kernel,?_⟩;refine ah (λ_=>?_) (λ_=>hn _ _ ⟨g3.sm,_,Z⟩);exact⟨_,_,bq.str _,bq.str _,by decide +kernel,by decide +kernel,hn _ _ ⟨g3.sm,_,rfl⟩⟩
   rintro σ' H3 ⟨s3,v9,rfl⟩;refine ca (λσ' H'=>aj H3 H'/\σ'=[some (.ref p),some (.str "passed"),some (.ref c),some (.str "short"),some (.int g),some (.ref n),some (.int (am D:Int)),none,some (.ref q),some (.bl true)]) (λnx hn=>?_) ?_
   ·refine xS (by decide +kernel) (by decide +kernel) ?_;refine ah (λ_=>?_) (λe=>absurd (by decide +kernel) e);refine⟨sz Z,λp4 H4 g4=>?_⟩;have s24:=s2.trans (s3.trans g4.sm);refine gS (ns:=([]:List Int).take (am D)) (ms:=[]) (s24.seq hn1) g4.lst ?_;refine ah (λ_=>?_) (λz=>absurd (by simp) z);refine cy q rfl ⟨_,.of ((s3.trans g4.sm) _ _ hq)⟩ (jM ((ws.map λ_=>true).map V.bl) (by simp) (.of ((s3.trans g4.sm) _ _ hq)) (ci (by rw[Uc];exact lw)) (λi x y H7 N hx hy s7 hN=>?_) λp8 H8 g8=>?_)
    ·rw[Ug]at hx;rw[Ug,Ug]at hy;cases hw:ws[i]? with
     | none=>rw[hw]at hx;cases hx
     | some u =>
     rw[hw]at hx hy;cases hx;cases hy;obtain rfl:=wm u (Ur hw);exact⟨_,_,bq.str _,bq.str _,by decide +kernel,by decide +kernel,cE (hN _ (aj.refl _)) (by decide +kernel)⟩
    refine aY g8.lst ?_;have e:(if false=true then (ws.map λ_=>true).any id else (ws.map λ_=>true).all id)=true:=by simp
    rw[e];exact hn _ _ ⟨g4.sm.trans g8.sm,Z⟩
   rintro σ' H8 ⟨s8,rfl⟩;refine xS (by decide +kernel) (by decide +kernel) ?_;refine ah (λe=>absurd e (by decide +kernel)) (λ_=>?_);refine⟨sz Z,λp4 H4 g4=>?_⟩;exact⟨_,_,.inl g4.lst,aB (j:=1) Z,k _ (s1.trans (s2.trans (s3.trans (s8.trans g4.sm))))⟩
theorem P6{a:Addr}{xs:List V}{cs:St}{tt:TT}{te:TE}{H:Hp}{Q:VK}(Pv:Nat->List V->Hp->Prop)(h0:Pv 0 [] H)(hl:∀i ys H,i<=xs.length->Pv i ys H->aF K H a xs/\ys.length<=i)(hz:xs.length<=sizeLine)
 (hs:∀i x ys H,xs[i]? = some x->Pv i ys H->∃p u v z,x=.ref p/\bo K H p [u,v,z]/\∀N:List V->Hp->Prop,(∀ys' H',Pv (i+1) ys' H'->N ys' H')->tt (some u::some v::some z::cs) H λb H4=>if b=true then te (some u::some v::some z::cs) H4 λy H5=>N (ys++[y]) H5 else N ys H4)
 (hd:∀ys H p H',Pv xs.length ys H->bi H p (.lst ys) H'->Q (.ref p) H') :
 iQ (jh K a) H (List.replicate 3 none++cs) (nE K 3 (jF (bT 0) (jF (bT 1) (jF (bT 2) qm)))) tt te Q:=by
 refine⟨λi m ys σ H=>m=xs.length-i/\i<=xs.length/\Pv i ys H/\∃v0 v1 v2,σ=v0::v1::v2::cs,⟨xs.length,by simp,Ux _,h0,none,none,none,rfl⟩,?_⟩;rintro i m ys σ H2 ⟨rfl,hi,p,v0,v1,v2,rfl⟩;obtain⟨q,ql⟩:=hl i ys H2 hi p;by_cases hlt:i<xs.length
 ·refine .inr ⟨⟨xs,xs[i],q,by simp[hlt]⟩,by lia,λys' σ' H'=>Pv (i+1) ys' H'/\∃v0 v1 v2,σ'=v0::v1::v2::cs,λys' σ' H' ⟨p',e⟩=>⟨xs.length-(i+1),by lia,rfl,hlt,p',e⟩,λx H' y=>?_⟩;obtain⟨e,y⟩:=y;subst e;have hx:=y xs q;obtain⟨pp,u,v,z,rfl,sq,h⟩:=hs i x ys H' hx p;refine⟨pp,_,Z,sq,Z,_,_,Z,_,_,Z,_,_,Z,Z,?_⟩;exact h (λys' H'=>Pv (i+1) ys' H'/\∃v0 v1 v2,some u::some v::some z::cs=v0::v1::v2::cs) λ_ _ y=>⟨y,_,_,_,Z⟩
 ·have e:i=xs.length:=by lia
  subst e;exact .inl ⟨⟨xs,q,Ue _⟩,by lia,λp' H' g=>hd ys H2 p' H' p g⟩
def bV(x:Addr × Addr × Str × List Int × V):List Int:=x.2.2.2.1
def GQ(K:PySem.W.Frag):Sp:=λvs H Q _=>∃(pa c:Addr) (L:PL),vs=[.ref pa,.ref c]/\iq H pa L/\aF K H c ((L.map bV).flatten.map V.int)/\(∀x∈L,bV x≠[])/\(L.map bV).flatten.length<=900/\∀H',aj H H'->Q (.bl true) H'
theorem No (T:Txt w K mg t):bp P w K mg base "_law_kinds" 2 t.xZ t.uU ["_law_told", "_law_row_here"] (GQ K):=by
 refine⟨T.Oy,T.Er.kp,T.Q9,T.Er.okQ oU (λvs H Q E h=>by obtain⟨p,c,L,rfl,_⟩:=h;rfl) λ_ _ _ _ H vs Q E hr h=>?_⟩;obtain⟨pa,c,L,rfl,pt,hc,ne,ln,k⟩:=h;have hu:=hr.units;refine⟨_,(af (av (dN (dw (bh (T3 K) T.n_isinstance UY (ab (aa 0) (ab (gP Z T.n_list UK) ad))))) (ag (ap gz)) aA)
  (af (aG (i:=2) oU.nd rfl (.inl rfl) (cv (T7 K) T.n_list UK (ab (aa 1) ad)))
  (af (dt PassesOwn.never rfl (dI (K:=K) rfl (aa 0)) (aT (i:=3) oU.nd rfl (.inl rfl)) (af (av (bO (cU (dN (dw (bh (T3 K) T.n_isinstance UY (ab (aa 3) (ab (gP rfl T.n_tuple VJ) ad))))) (cU (au (ie (K:=K) rfl hu) (bh (T4 K) T.n_len Ui (ab (aa 3) ad)) ae (ar _)) (cU (dN (dw (bh (T3 K) T.n_isinstance UY (ab (ax (T5 K) (aa 3) ae (λ_ _=>rfl)) (ab (gP rfl T.n_list UK) ad))))) (db (au (aX (K:=K) rfl hu) (ax (T5 K) (aa 3) ae (λ_ _=>rfl)) (aO ad) (ar _))))))) (ag (ap gz)) aA)
  (af (av (bO (cU (dN (dw (bh (rE (K:=K) rfl rfl) T.n_all V3 (ab (fT rfl (cZ.of (fns:=(ak jq).names) (N:=["_law_told", "_law_row_here", "_law_left", "_law_one"]) (Nc:=["_law_byte"]) (nv:=1) (caps:=[]) rfl rfl (by decide +kernel)) (dI (K:=K) rfl (ax (T5 K) (aa 3) ae (λ_ _=>rfl))) (λ_ _ _ _=>(aT (i:=0) (show List.Nodup (["_law_byte"]:List Str) by decide +kernel) rfl (Or.inl rfl) (Or.inr rfl))) (λ_ _ _ _=>fg) (λ_ _ _ _=>(aP (Cq T) hr (ab (aa 0) ad)))) ad)))) (db (au (ie (K:=K) rfl hu) (du (T6 K) (aa 2) eS (cA (bh (T4 K) T.n_len Ui (ab (ax (T5 K) (aa 3) ae (λ_ _=>rfl)) ad)))) (ax (T5 K) (aa 3) ae (λ_ _=>rfl)) (ar _))))) (ag (ap gz)) aA)
  (ag (aG (i:=2) oU.nd rfl (.inl rfl) (du (T6 K) (aa 2) (cA (bh (T4 K) T.n_len Ui (ab (ax (T5 K) (aa 3) ae (λ_ _=>rfl)) ad))) eS))))))
  (ag (ap (dJ (aX (K:=K) rfl hu) (aa 2) (aO ad) (ar _))))))),?_⟩
 refine aV (.lst pt.1) (by with_unfolding_all rfl) ?_;refine ah (λz=>absurd z (by decide)) (λ_=>?_);refine aY (.inl hc) (λpl H1 g1=>?_);dsimp only [bT];refine cy pa Z ⟨_,.of (g1.sm _ _ pt.1)⟩ (ii (K:=K) (a:=pa) (xs:=L.map λx=>V.ref x.1) (λi σ H'=>aj H H'/\∃pl v3,H' pl=some (.lst (((L.drop i).map bV).flatten.map V.int))/\σ=[some (.ref pa),some (.ref c),some (.ref pl),v3]) ⟨g1.sm,pl,_,g1.at_,Z⟩ (λi σ H' _ z=>.of (z.1 _ _ pt.1)) ?_ ?_)
 ·rintro i v σ H2 hv ⟨s2,pl,v3,hl,rfl⟩;rw[Ug]at hv;cases hx:L[i]? with
  | none=>rw[hx]at hv;cases hv
  | some x =>
  rw[hx]at hv;cases hv;have hi:i<L.length:=(Uk.mp hx).1;have ed:L.drop i=x::L.drop (i+1):=by rw[WK hi,(Uk.mp hx).2]
  rw[ed,UM,Vb]at hl;obtain⟨h1,h2,_⟩:=pt.2 x (Ur hx);have nx:=ne x (Ur hx);have h12:=s2 _ _ h1;have h22:H2 x.2.1=some (.lst ((bV x).map V.int)):=s2 _ _ h2;refine aV (.tup h12) (by with_unfolding_all rfl) ?_;refine ah (λz=>absurd z (by decide)) (λ_=>?_);refine aY (.inr (.of h12)) ?_;refine aW _ (.ref x.2.1) (.inr (.of h12)) (aB (j:=1) Z) ?_;refine aV (.lst h22) (by with_unfolding_all rfl) ?_;refine ah (λz=>absurd z (by decide)) (λ_=>?_);refine aW _ (.ref x.2.1) (.inr (.of h12)) (aB (j:=1) Z) ?_;refine⟨sz Z,λp3 H3 g3=>?_⟩;refine gS (ns:=bV x) (ms:=[]) (.of (g3.sm _ _ h22)) g3.lst ?_;refine ah (λz=>absurd (of_decide_eq_true z) nx) (λ_=>?_);unfold gY;dsimp only;have h13:=g3.sm _ _ h12;have h23:=g3.sm _ _ h22;refine ca (λσ' H'=>aj H3 H'/\σ'=[some (.ref pa),some (.ref c),some (.ref pl),some (.ref x.1)]) (λnx hn=>?_) ?_
  ·refine⟨_,.ref x.2.1,.inr (.of h13),aB (j:=1) rfl,x.2.1,rfl,⟨_,.of h23⟩,jM (((bV x).map λ_=>true).map V.bl) (by simp) (.of h23) (ci (by rw[Uc];have:(bV x).length<=(L.map bV).flatten.length:=(Xg (Uu.mpr ⟨x,Ur hx,rfl⟩)).length_le;lia)) (λi x y H7 N hx hy s7 hN=>?_) λp8 H8 g8=>?_⟩
   ·obtain⟨m,hm,rfl⟩:=fk hx;rw[Ug,Ug,hm]at hy;cases hy;exact⟨m,Z,hN _ (aj.refl _)⟩
   refine aY g8.lst ?_;have e:((bV x).map λ_=>true).all id=true:=by simp
   refine ah (λz=>absurd z (by rw[if_neg Ut,e];decide)) (λ_=>?_);have h18:=g8.sm _ _ h13;have h28:=g8.sm _ _ h23;refine aW _ (.ref x.2.1) (.inr (.of h18)) (aB (j:=1) Z) ?_;refine⟨_,.inl (.of h28),_,Z,_,.of ((g3.sm.trans g8.sm) _ _ hl),λp9 H9 g9=>?_⟩;rw[Uc,nX,List.take_left]at g9;refine aW _ (.ref x.2.1) (.inr (.of (g9.sm _ _ h18))) (aB (j:=1) Z) ?_;refine gS (ns:=bV x) (ms:=bV x) g9.lst (.of (g9.sm _ _ h28)) ?_;refine ah (λz=>absurd z (by simp)) (λ_=>?_);exact hn _ _ ⟨g8.sm.trans g9.sm,Z⟩
  rintro σ' H4 ⟨s4,rfl⟩;have s34:=g3.sm.trans s4;refine aW _ (.ref x.2.1) (.inr (.of (s34 _ _ h12))) (aB (j:=1) Z) ?_;refine⟨_,.inl (.of (s34 _ _ h22)),_,Z,_,.of (s34 _ _ hl),λp9 H9 g9=>?_⟩;rw[Uc,fz,jL,List.drop_left]at g9;exact⟨s2.trans (s34.trans g9.sm),p9,_,g9.at_,Z⟩
 ·rintro σ H2 ⟨s2,pl,v3,hl,rfl⟩;rw[Uc,VT]at hl;refine⟨sz Z,λp3 H3 g3=>?_⟩;exact gS (ns:=[]) (ms:=[]) (.of (g3.sm _ _ hl)) g3.lst (k _ (s2.trans g3.sm))
abbrev Pc:=Str × List Int × V
def Kd(k:Str):Prop:=k = "short"\/k = "broken"\/k = "strange"
theorem MB{k:Str}(h:Kd k):PyData.strOk k=true:=by rcases h with rfl|rfl|rfl<;>decide +kernel
def ji(x:Pc):Prop:=(x.1 = "sign"/\∃n,x.2.2=.int n)\/(x.1 = "passed"/\∃kd,x.2.2=.str kd/\Kd kd)
def dV:V->PyData
 | .int n=>.int n
 | .str x=>.str x
 | _=>.none
def dP(L:List Pc):List PyData:=L.map λx=>PyData.tuple [.str x.1,.list (x.2.1.map PyData.int),dV x.2.2]
theorem Dv:∀L:List Pc,(∀x∈L,ji x)->PyData.canLayAll0 (dP L)=true/\PyData.depthAll (dP L)<=2
 | [],_=>⟨rfl,by simp[dP,PyData.depthAll]⟩
 | (wd,bs,v)::r,h=>by
  have ih:=Dv r λx hx=>h x (Uw _ hx);have k:=h _ (Uv ..);simp only [dP]at ih;have a:PyData.strOk wd=true/\(dV v).canLay0=true/\(dV v).depth=0:=by
   rcases k with ⟨e,n,e2⟩|⟨e,kd,e2,hk⟩
   ·obtain rfl:wd = "sign":=e;obtain rfl:v=.int n:=e2;exact⟨by decide +kernel,by simp[dV,PyData.canLay0],by simp[dV,PyData.depth]⟩
   ·obtain rfl:wd = "passed":=e;obtain rfl:v=.str kd:=e2;exact⟨by decide +kernel,by simp[dV,PyData.canLay0,MB hk],by simp[dV,PyData.depth]⟩
  constructor
  ·simp[dP,PyData.canLayAll0,PyData.canLay0,WL,ih.1,a.1,a.2.1]
  ·simp[dP,PyData.depthAll,PyData.depth,Xe,a.2.2]
   lia
theorem Dt{L:List Pc}(h:∀x∈L,ji x):SeqAt.shaped (.list (dP L))=true:=by
 have:=Dv L h;simp[SeqAt.shaped,PyData.canLay0,PyData.depth,this.1]
 lia
theorem Du:∀L:List Pc,(∀x∈L,ji x)->PyData.eqvAll (dP L) (dP L)=true
 | [],_=>rfl
 | (wd,bs,v)::r,h=>by
  have ih:=Du r λx hx=>h x (Uw _ hx);have k:=h _ (Uv ..);simp only [dP]at ih;have e1:PyData.eqv (.list (bs.map PyData.int)) (.list (bs.map PyData.int))=true:=by rw[qJ];simp
  have a:PyData.eqv (dV v) (dV v)=true:=by
   rcases k with ⟨e,n,e2⟩|⟨e,kd,e2,hk⟩
   ·obtain rfl:v=.int n:=e2;simp[dV,PyData.eqv]
   ·obtain rfl:v=.str kd:=e2;simp[dV,PyData.eqv]
  have b:PyData.eqv (.str wd) (.str wd)=true:=by simp[PyData.eqv]
  simp only [dP,UM,PyData.eqvAll,UD];refine⟨?_,ih⟩;show PyData.eqvAll _ _=true;simp only [PyData.eqvAll,UD];exact⟨b,e1,a,trivial⟩
theorem wb{H:Hp}:∀L:PL,(∀x∈L,H x.1=some (.tup [.str x.2.2.1,.ref x.2.1,x.2.2.2.2])/\H x.2.1=some (.lst (x.2.2.2.1.map V.int)))->(∀x∈L,ji x.2.2)->eG K H (dP (L.map λx=>x.2.2)) (L.map λx=>V.ref x.1)
 | [],_,_=>.nil
 | (p,q,wd,bs,v)::r,h,g=>by
  obtain⟨a,b⟩:=h _ (Uv ..);have k:=g _ (Uv ..);have d:bq K H (dV v) v:=by
   rcases k with ⟨e,n,e2⟩|⟨e,kd,e2,hk⟩
   ·obtain rfl:v=.int n:=e2;exact bq.int n
   ·obtain rfl:v=.str kd:=e2;exact bq.str kd
  exact .cons (bq.tup (.of a) (.cons (bq.str wd) (.cons (bq.lst (.of b) (eG.ints bs)) (.cons d .nil)))) (wb r (λx hx=>h x (Uw _ hx)) λx hx=>g x (Uw _ hx))
theorem Qc{D:Kt}(ok:c9 D){g:Int}{p:Nat}{bs:List Int}{es:List Ev}(h:fD D g p bs es):((gd D g es).map λx=>x.2.1).flatten=bs/\∀x∈gd D g es,x.2.1≠[]/\ji x:=by
 induction h with
 | nil g p=>exact⟨rfl,(λ_ h=>nomatch h)⟩
 | @sg g p n bs es hn pg k ih =>
  constructor
  ·show (_::List.map _ _).flatten=_;rw[Vb];exact congrArg _ ih.1
  ·intro x hx;rcases Uy.mp hx with rfl|hx
   ·refine⟨λe=>?_,.inl ⟨rfl,n,rfl⟩⟩;have:=sR ok.kok pg hn;have e:(bS D g n).1=[]:=e;rw[e]at this;exact absurd this (by decide)
   ·exact ih.2 x hx
 | @ft g p kd xs bs es hf b l pg k ih =>
  constructor
  ·show (_::List.map _ _).flatten=_;rw[Vb];exact congrArg _ ih.1
  ·intro x hx;rcases Uy.mp hx with rfl|hx
   ·refine⟨λe=>?_,.inr ⟨rfl,kd,rfl,?_⟩⟩
    ·have e:xs=[]:=e;rw[e]at l;exact absurd l (by decide)
    ·rcases hf with ⟨e,_⟩|⟨e,_⟩|⟨e,_⟩
     ·exact .inr (.inr e)
     ·exact .inr (.inl e)
     ·exact .inl e
   ·exact ih.2 x hx
theorem Qb{D:Kt}{g:Int}{p:Nat}{bs:List Int}{es:List Ev}(h:fD D g p bs es):∀i x,(gd D g es)[i]? = some x->bG D (dA D g (es.take i))/\y6 D (dA D g (es.take i)) x.1 x.2.1 x.2.2 (bs.drop (((gd D g es).take (i+1)).map λx=>x.2.1).flatten.length) (dA D g (es.take (i+1))):=by
 induction h with
 | nil g p=>exact λi x h=>by cases h
 | @sg g p n bs es hn pg k ih =>
  intro i x hx;cases i with
  | zero=>cases hx;exact⟨pg,.inl ⟨n,Z,Z,hn,Z,Z⟩⟩
  | succ i =>
   obtain⟨a,b⟩:=ih i x hx;refine⟨a,?_⟩;have e:((((bS D g n).1++bs)).drop (((gd D g (.sg n::es)).take (i+1+1)).map λx=>x.2.1).flatten.length)=bs.drop (((gd D (bS D g n).2 es).take (i+1)).map λx=>x.2.1).flatten.length:=by
    show List.drop ((bS D g n).1++_).length _=_;rw[Ud,Wa,Vp (by lia),U6,Vo]
    rfl
   rw[e];exact b
 | @ft g p kd xs bs es hf b l pg k ih =>
  intro i x hx;cases i with
  | zero =>
   cases hx;refine⟨pg,.inr ⟨kd,Z,Z,?_,Z⟩⟩;show zd D g kd xs (List.drop ([xs]:List (List Int)).flatten.length (xs++bs));rw[show ([xs]:List (List Int)).flatten=xs by simp,List.drop_left];exact hf
  | succ i =>
   obtain⟨a,b⟩:=ih i x hx;refine⟨a,?_⟩;have e:((xs++bs).drop (((gd D g (.ft p xs.length kd xs::es)).take (i+1+1)).map λx=>x.2.1).flatten.length)=bs.drop (((gd D g es).take (i+1)).map λx=>x.2.1).flatten.length:=by
    show List.drop (xs++_).length _=_;rw[Ud,Wa,Vp (by lia),U6,Vo]
    rfl
   rw[e];exact b
theorem LL{H:Hp}{p:Addr}{M:Md}(h:Mod H p M):∃D,Mt M D/\c9 D:=by
 obtain⟨a,b,_,c⟩:=h;cases M with
 | ld=>exact⟨.ld,rfl,trivial⟩
 | pr b=>exact⟨.pr b,rfl,trivial⟩
 | sh ns ms=>exact⟨.sh ⟨p,p,p,p,p,p,p,p,p,p⟩ ns ms,⟨_,rfl⟩,c.2.2.1,c.2.2.2⟩
 | tb es=>exact⟨.tb ⟨p,p,p,p⟩ es,⟨_,rfl⟩,c.2.2⟩
 | br=>exact⟨.br,rfl,trivial⟩
def sU(K:PySem.W.Frag):Sp:=λvs H Q _=>∃a,vs=[.ref a]/\∃ns:List Int,aF K H a (ns.map V.int)/\ns.length<=63/\∀H',Q (.bl true) H'
theorem ND (T:Txt w K mg t):bp P w K mg base "law" 15 t.ym t.qw ["_law_script"] (sU K):=by
 refine⟨T.CY,T.zf.kp,T.Rq,T.zf.okQ eR (λvs H Q E h=>by obtain⟨a,rfl,_⟩:=h;rfl) λ_ _ _ _ H vs Q E hr h=>?_⟩;obtain⟨a,rfl,sc,h1,hc,kq⟩:=h;have hu:=hr.units;refine⟨_,(af (aG (i:=1) eR.nd Z (.inl Z) (aP (Nk T) hr (ab (aP (Np T) hr (ab (aa 0) (ab ae ad))) ad)))
  (af (aG (i:=2) eR.nd rfl (.inl rfl) (aP (Ng T) hr (ab (aa 1) (ab (du (T6 K) (aa 0) (cA ae) (cA ae)) ad))))
  (af (aG (i:=3) eR.nd rfl (.inl rfl) (aP (Nb T) hr (ab (aa 1) ad)))
  (af (aG (i:=4) eR.nd rfl (.inl rfl) (cv (T7 K) T.n_list UK (ab (aa 2) ad)))
  (af (av (dN (dw (bh (T3 K) T.n_isinstance UY (ab (aP (ua T) hr (ab (tw T.BN T.CT) (ab (aa 4) ad))) (ab (gP rfl T.n_list UK) ad))))) (ag (ap gz)) aA)
  (af (aG (i:=5) eR.nd rfl (.inl rfl) (aP (ua T) hr (ab (aa 3) (ab (aa 4) ad))))
  (af (av (bO (cU (dN (dw (aP (No T) hr (ab (aa 5) (ab (aa 2) ad))))) (db (au (ie (K:=K) rfl hu) (aa 4) (aa 2) (ar _))))) (ag (ap gz)) aA)
  (af (aG (i:=6) eR.nd rfl (.inl rfl) ae)
  (af (aG (i:=7) eR.nd rfl (.inl rfl) ae)
  (af (dt PassesOwn.never rfl (dI (K:=K) rfl (aa 5)) (fi (K:=K) rfl rfl (bI (aT (i:=8) eR.nd rfl (.inl rfl)) (bI (aT (i:=9) eR.nd rfl (.inl rfl)) (bI (aT (i:=10) eR.nd rfl (.inl rfl)) fh)))) (af (aG (i:=6) eR.nd rfl (.inl rfl) (aw (T2 K) (aa 6) (bh (T4 K) T.n_len Ui (ab (aa 9) ad))))
  (af (aG (i:=7) eR.nd rfl (.inl rfl) (aP (Nj T) hr (ab (aa 1) (ab (aa 8) (ab (aa 9) (ab (aa 10) (ab (aa 7) (ab (du (T6 K) (aa 2) (cA (aa 6)) (cA (aw (T2 K) (aa 6) (aP (t4 T) hr (ab (aa 1) ad))))) ad))))))))
  (ag (av (au ig (aa 7) bL (ar _)) (ag (ap gz)) aA)))))
  (af (tu (i:=11) eR.nd rfl (.inl rfl) rfl (cZ.of (fns:=(ak jt).names) (N:=["_law_script", "_law_model_here", "_law_row_here", "_law_tongue_here", "_law_handed", "_law_told", "_law_at", "_law_page_here", "_law_word", "_law_part", "_law_thing", "_law_kept"]) (Nc:=["_law_word", "_law_part", "_law_thing"]) (nv:=3) (caps:=[]) rfl rfl (by decide +kernel)) (dI (K:=K) rfl (aa 5)) (λ_ _ _ _=>(fi (K:=K) rfl (n:=3) rfl (bI (aT (i:=0) (show List.Nodup (["_law_word", "_law_part", "_law_thing"]:List Str) by decide +kernel) rfl (Or.inl rfl) (Or.inr rfl)) (bI (aT (i:=1) (show List.Nodup (["_law_word", "_law_part", "_law_thing"]:List Str) by decide +kernel) rfl (Or.inl rfl) (Or.inr rfl)) (bI (aT (i:=2) (show List.Nodup (["_law_word", "_law_part", "_law_thing"]:List Str) by decide +kernel) rfl (Or.inl rfl) (Or.inr rfl)) fh))))) (λ_ _ _ _=>fg) (λ_ _ _ _=>(bN (ab (aa 0) (ab (cv (T7 K) T.n_list UK (ab (aa 1) ad)) (ab (aa 2) ad))))))
  (af (dt PassesOwn.never rfl (dI (K:=K) rfl (aa 5)) (fi (K:=K) rfl rfl (bI (aT (i:=8) eR.nd rfl (.inl rfl)) (bI (aT (i:=9) eR.nd rfl (.inl rfl)) (bI (aT (i:=10) eR.nd rfl (.inl rfl)) fh)))) (ag (df (ph (K:=K) rfl UH Xh Xi BK (aa 9)))))
  (af (df (ph (K:=K) rfl UH Xh Xi BK (aa 5)))
  (ag (ap (gc (dJ (aX (K:=K) rfl hu) (aa 4) (aa 2) (ar _)) (fS (dJ (aX (K:=K) rfl hu) (aP (ua T) hr (ab (aa 3) (ab (aa 4) ad))) (aa 11) (ar _))))))))))))))))))),?_⟩
 refine⟨a,sc,0,Z,h1,λc0 H1 s1=>?_⟩;refine gw c0 Z (λp M H2 s2 mod2=>?_);have s02:=s1.trans s2;refine⟨_,Z,_,Z,_,s02.seq h1,λpc H3 g3=>?_⟩;have ecut:dD (sc.map V.int) (some 1) (some 63)=((sc.drop 1).take 62).map V.int:=by rw[fz];exact congrArg _ (wp sc 1 62)
 rw[ecut]at g3;refine cR p pc M _ rfl (mod2.mono g3.sm) g3.lst (by rw[Ul];lia) (LL mod2) (λc row H4 s4 hc4 by0 l0=>?_);have mod4:=mod2.mono (g3.sm.trans s4);refine aW p M Z mod4 (λo D H5 s5 mt tn5=>?_);have hc5:=s5 _ _ hc4;have ok:=tn5.koS;refine aY (.inl (.of hc5)) (λhd H6 g6=>?_);dsimp only [bT];have tn6:=tn5.mono g6.sm;have hc6:=g6.sm _ _ hc5;have hd6:=g6.at_;refine ca (λσ' H'=>aj H6 H'/\σ'=[some (.ref a),some (.ref p),some (.ref c),some (.ref o),some (.ref hd),none,none,none,none,none,none,none]) (λnx hn=>?_) ?_
 ·refine λx dx hx hdx hne=>?_;have sm:=ix (C:=t.eY) hx hdx;refine⟨x,hd,.ld,row,Z,⟨dx,bc⟩,.of (sm _ _ hd6),by0,l0,λpa L H7 s7 pt7 _ _ _=>?_⟩;refine aV (.lst pt7.1) (by with_unfolding_all rfl) ?_;refine ah (λz=>absurd z (by decide)) (λ_=>?_);exact hn _ _ ⟨sm.trans s7,Z⟩
 rintro σ' H7 ⟨s7,rfl⟩;have tn7:=tn6.mono s7;have hd7:=s7 _ _ hd6;have hc7:=s7 _ _ hc6;have mod7:=mod4.mono (s5.trans (g6.sm.trans s7));refine cR o hd D row Z tn7 (.of hd7) by0 l0 (λpa L H8 s8 pt8 fpa fL eL=>?_);dsimp only [bT];have chn:fD D 0 0 row (bt D row):=xq ok row 0 [] 0 (nh D) (cq.nil _ _) (c8.nil _ _) (Ue _) by0;obtain⟨efl,good⟩:=Qc ok chn;have pgA:=Qb chn;rw[<- eL]at efl good pgA;have ebs:L.map bV=(L.map λx=>x.2.2).map λx=>x.2.1:=by rw[Vd];rfl
 have efl2:(L.map bV).flatten=row:=by rw[ebs];exact efl
 have goL:∀x∈L,bV x≠[]/\ji x.2.2:=λx hx=>good _ (Uu.mpr ⟨x,hx,rfl⟩);have lL:L.length<=400:=by
  have key:∀M:PL,(∀x∈M,bV x≠[])->M.length<=(M.map bV).flatten.length:=by
   intro M
   induction M with
   | nil=>intro _;exact Ue _
   | cons x M ih =>
    intro h;have a1:=ih λy hy=>h y (Uw _ hy);have a2:0<(bV x).length:=WG.mpr (h x (Uv ..));rw[UM,Vb,Ud,UB]
    lia
  have:=key L λx hx=>(goL x hx).1;rw[efl2]at this
  lia
 have s08:aj H6 H8:=s7.trans s8;have hd8:=s8 _ _ hd7;have hc8:=s8 _ _ hc7;have mod8:=mod7.mono s8;refine ca (λσ' H'=>aj H8 H'/\σ'=[some (.ref a),some (.ref p),some (.ref c),some (.ref o),some (.ref hd),some (.ref pa),none,none,none,none,none,none]) (λnx hn=>?_) ?_
 ·refine⟨pa,c,L,rfl,pt8,by rw[efl2];exact .of hc8,λx hx=>(goL x hx).1,by rw[efl2];lia,λH9 s9=>?_⟩;refine ah (λz=>absurd z (by decide)) (λ_=>?_);unfold mB fE;refine i4 (v:=.ref hd) (by rfl) ?_;refine i4 (v:=.ref c) (by rfl) ?_;refine gS (ns:=row) (ms:=row) (.of (s9 _ _ hd8)) (.of (s9 _ _ hc8)) ?_;refine ah (λz=>absurd z (by simp)) (λ_=>?_);exact hn _ _ ⟨s9,Z⟩
 rintro σ' H9 ⟨s9,rfl⟩;refine iS [some (.ref a),some (.ref p),some (.ref c),some (.ref o),some (.ref hd),some (.ref pa),some (.int 0),none,none,none,none,none] (λnx h=>h) ?_;refine iS [some (.ref a),some (.ref p),some (.ref c),some (.ref o),some (.ref hd),some (.ref pa),some (.int 0),some (.int 0),none,none,none,none] (λnx h=>h) ?_;have pt9:iq H9 pa L:=⟨s9 _ _ pt8.1,λx hx=>⟨s9 _ _ (pt8.2 x hx).1,s9 _ _ (pt8.2 x hx).2.1,(pt8.2 x hx).2.2⟩⟩;have mod9:=mod8.mono s9;have hc9:=s9 _ _ hc8;have hd9:=s9 _ _ hd8;refine ca (λσ' H'=>aj H9 H'/\∃v6 v7 v8 v9 v10,σ'=[some (.ref a),some (.ref p),some (.ref c),some (.ref o),some (.ref hd),some (.ref pa),v6,v7,v8,v9,v10,none]) (λnx hn=>?_) ?_
 ·refine cy pa Z ⟨_,.of pt9.1⟩ (ii (K:=K) (a:=pa) (xs:=L.map λx=>V.ref x.1) (λi σ H'=>aj H9 H'/\∃v8 v9 v10,σ=[some (.ref a),some (.ref p),some (.ref c),some (.ref o),some (.ref hd),some (.ref pa),some (.int ((((L.take i).map bV).flatten.length:Nat):Int)),some (.int (dA D 0 ((bt D row).take i))),v8,v9,v10,none]) ⟨aj.refl _,_,_,_,Z⟩ (λi σ H' _ z=>.of (z.1 _ _ pt9.1)) ?_ ?_)
  ·rintro i v σ H10 hv ⟨s10,v8,v9,v10,rfl⟩;rw[Ug]at hv;cases hx:L[i]? with
   | none=>rw[hx]at hv;cases hv
   | some x =>
   rw[hx]at hv;cases hv;obtain⟨t1,t2,_⟩:=pt9.2 x (Ur hx);have t1:=s10 _ _ t1;have t2:H10 x.2.1=some (.lst ((bV x).map V.int)):=s10 _ _ t2;refine⟨x.1,_,Z,.of t1,Z,_,_,Z,_,_,Z,_,_,Z,Z,?_⟩;obtain⟨pgi,pai⟩:=pgA i x.2.2 (by rw[Ug,hx];rfl);rw[<- List.map_take,Vd]at pai;have pai:y6 D (dA D 0 ((bt D row).take i)) x.2.2.1 (bV x) x.2.2.2.2 (row.drop (((L.take (i+1)).map bV).flatten.length)) (dA D 0 ((bt D row).take (i+1))):=pai;have eat:(((L.take i).map bV).flatten.length:Int)+((bV x).length:Int)=((((L.take (i+1)).map bV).flatten.length:Nat):Int):=by
    rw[f9 hx,Up,List.flatten_append,Ud];simp
   refine iS [some (.ref a),some (.ref p),some (.ref c),some (.ref o),some (.ref hd),some (.ref pa),some (.int ((((L.take (i+1)).map bV).flatten.length:Nat):Int)),some (.int (dA D 0 ((bt D row).take i))),some (.str x.2.2.1),some (.ref x.2.1),some x.2.2.2.2,none] (λnx h=>?_) ?_
   ·refine aY (.inl (.of t2)) ?_;rw[Uc];rw[<- eat]at h;exact h
   refine⟨_,Z,p,M,Z,mod9.mono s10,λH11 s11=>?_⟩;rw[sF mt];have s911:=s10.trans s11;refine⟨_,Z,_,.of (s911 _ _ hc9),λpn H12 g12=>?_⟩;have ecu:dD (row.map V.int) (some ((((L.take (i+1)).map bV).flatten.length:Nat):Int)) (some (((((L.take (i+1)).map bV).flatten.length:Nat):Int)+(am D:Int)))=((row.drop ((L.take (i+1)).map bV).flatten.length).take (am D)).map V.int:=by rw[fz,wp]
   rw[ecu]at g12;have s912:=s911.trans g12.sm;refine⟨p,x.2.1,pn,M,D,dA D 0 ((bt D row).take i),dA D 0 ((bt D row).take (i+1)),x.2.2.1,bV x,row.drop ((L.take (i+1)).map bV).flatten.length,x.2.2.2.2,Z,mod9.mono s912,mt,ok,pgi,.of ((s11.trans g12.sm) _ _ t2),g12.lst,?_,λy hy=>by0 y (Vq hy),?_,pai,λH13 s13=>?_⟩
   ·intro y hy;refine by0 y ?_;rw[<- efl2];exact List.mem_flatten.mpr ⟨_,Uu.mpr ⟨x,Ur hx,Z⟩,hy⟩
   ·have:(bV x).length<=(L.map bV).flatten.length:=(Xg (Uu.mpr ⟨x,Ur hx,rfl⟩)).length_le;rw[efl2]at this
    lia
   exact⟨s912.trans s13,_,_,_,Z⟩
  ·rintro σ H10 ⟨s10,v8,v9,v10,rfl⟩;exact hn _ _ ⟨s10,_,_,_,_,_,Z⟩
 rintro σ' H10 ⟨s10,v6,v7,v8,v9,v10,rfl⟩;have pt10:iq H10 pa L:=⟨s10 _ _ pt9.1,λx hx=>⟨s10 _ _ (pt9.2 x hx).1,s10 _ _ (pt9.2 x hx).2.1,(pt9.2 x hx).2.2⟩⟩;have s810:=s9.trans s10;refine cy pa rfl ⟨_,.of pt10.1⟩ (P6 (K:=K) (a:=pa) (xs:=L.map λx=>V.ref x.1) (λi ys H'=>aj H10 H'/\∃L2:PL,ys=L2.map (λx=>V.ref x.1)/\(∀x∈L2,H' x.1=some (.tup [.str x.2.2.1,.ref x.2.1,x.2.2.2.2])/\H' x.2.1=some (.lst (x.2.2.2.1.map V.int))/\H10 x.1=none/\H10 x.2.1=none)/\L2.map (λx=>x.2.2)=(L.take i).map λx=>x.2.2) ⟨aj.refl _,[],rfl,(λ_ h=>nomatch h),rfl⟩ (λi ys H' _ z=>⟨.of (z.1 _ _ pt10.1),?_⟩) (ci (by rw[Uc];lia)) (λi v ys H11 hv z=>?_) λys H11 pk H12 z g12=>?_)
 ·obtain⟨_,L2,rfl,_,e⟩:=z;have:=congrArg List.length e;rw[Uc,Uc,Ul]at this;rw[Uc]
  lia
 ·obtain⟨s11,L2,rfl,hL2,e⟩:=z;rw[Ug]at hv;cases hx:L[i]? with
  | none=>rw[hx]at hv;cases hv
  | some x =>
  rw[hx]at hv;cases hv;obtain⟨t1,t2,_⟩:=pt10.2 x (Ur hx);have t1:=s11 _ _ t1;have t2:=s11 _ _ t2;refine⟨x.1,_,_,_,Z,.of t1,λN hN=>?_⟩;simp only [gy,if_true];refine aY (.inl (.of t2)) (λq H12 g12=>?_);refine⟨sz Z,λtp H13 g13=>?_⟩;have s1113:=g12.sm.trans g13.sm;refine hN _ _ ⟨s11.trans s1113,L2++[(tp,q,x.2.2)],by rw[Up];rfl,λy hy=>?_,by rw[Up,e,f9 hx,Up];rfl⟩;rcases Us.mp hy with u|u
  ·obtain⟨b1,b2,b3,b4⟩:=hL2 y u;exact⟨s1113 _ _ b1,s1113 _ _ b2,b3,b4⟩
  ·rw[Uq.mp u];exact⟨g13.at_,g13.sm _ _ g12.at_,s11.free (g12.sm.free g13.nw),s11.free g12.nw⟩
 obtain⟨s11,L2,rfl,hL2,e2⟩:=z;rw[Uc,UJ]at e2;have s1012:=s11.trans g12.sm;have pt12:iq H12 pa L:=⟨s1012 _ _ pt10.1,λx hx=>⟨s1012 _ _ (pt10.2 x hx).1,s1012 _ _ (pt10.2 x hx).2.1,(pt10.2 x hx).2.2⟩⟩;dsimp only [bT];refine ca (λσ' H'=>(∀b u,(∀x∈L,b≠x.2.1)->H12 b=some u->H' b=some u)/\∃v6 v7 v8 v9 v10,σ'=[some (.ref a),some (.ref p),some (.ref c),some (.ref o),some (.ref hd),some (.ref pa),v6,v7,v8,v9,v10,some (.ref pk)]) (λnx hn=>?_) ?_
 ·have tup_ne:∀x∈L,∀y∈L,x.1≠y.2.1:=λx hx y hy=>bE (pt12.2 x hx).1 (pt12.2 y hy).2.1 (by intro z;cases z);refine cy pa Z ⟨_,.of pt12.1⟩ (ii (K:=K) (a:=pa) (xs:=L.map λx=>V.ref x.1) (λi σ H'=>(∀b u,(∀x∈L,b≠x.2.1)->H12 b=some u->H' b=some u)/\(∀x∈L,∃ys,H' x.2.1=some (.lst ys))/\∃v6 v7 v8 v9 v10,σ=[some (.ref a),some (.ref p),some (.ref c),some (.ref o),some (.ref hd),some (.ref pa),v6,v7,v8,v9,v10,some (.ref pk)]) ⟨λ_ _ _ h=>h,λx hx=>⟨_,(pt12.2 x hx).2.1⟩,_,_,_,_,_,Z⟩ (λi σ H' _ z=>.of (z.1 _ _ (λx hx=>(pt12.2 x hx).2.2.symm) pt12.1)) ?_ ?_)
  ·rintro i v σ H13 hv ⟨kp,ls,v6,v7,v8,v9,v10,rfl⟩;rw[Ug]at hv;cases hx:L[i]? with
   | none=>rw[hx]at hv;cases hv
   | some x =>
   rw[hx]at hv;cases hv;have hm:=Ur hx;have t1:=kp _ _ (λy hy=>tup_ne x hm y hy) (pt12.2 x hm).1;obtain⟨ys,t2⟩:=ls x hm;refine⟨x.1,_,Z,.of t1,Z,_,_,Z,_,_,Z,_,_,Z,Z,?_⟩;refine⟨.inl ⟨rfl,_,.of t2⟩,?_⟩;refine⟨x.2.1,ys,Z,Z,t2,λb u nb hb=>?_,λy hy=>?_,_,_,_,_,_,Z⟩
   ·rw[az (nb x hm)];exact kp b u nb hb
   ·by_cases z:y.2.1=x.2.1
    ·exact⟨[],by rw[z,bc]⟩
    ·obtain⟨zs,hz⟩:=ls y hy;exact⟨zs,by rw[az z];exact hz⟩
  ·rintro σ H13 ⟨kp,_,v6,v7,v8,v9,v10,rfl⟩;exact hn _ _ ⟨kp,_,_,_,_,_,Z⟩
 rintro σ' H13 ⟨kp,v6',v7',v8',v9',v10',rfl⟩;have hpa:H13 pa=some (.lst (L.map λx=>V.ref x.1)):=kp _ _ (λx hx=>(pt12.2 x hx).2.2.symm) pt12.1;refine ca (λσ' H'=>H'=upd H13 pa (.lst [])/\σ'=[some (.ref a),some (.ref p),some (.ref c),some (.ref o),some (.ref hd),some (.ref pa),v6',v7',v8',v9',v10',some (.ref pk)]) (λnx hn=>?_) ?_
 ·refine⟨.inl ⟨rfl,_,.of hpa⟩,?_⟩;exact⟨pa,_,rfl,rfl,hpa,hn _ _ ⟨rfl,rfl⟩⟩
 rintro σ' H14 ⟨e14,rfl⟩;have s714:aj H7 H14:=λb u hb=>by
  rw[e14,az (aN hb fpa)];exact kp b u (λx hx=>aN hb (fL x hx).2) (s1012 _ _ (s810 _ _ (s8 _ _ hb)))
 have hpk:H14 pk=some (.lst (L2.map λx=>V.ref x.1)):=by
  rw[e14,az (aN (s11 _ _ pt10.1) g12.nw).symm];exact kp _ _ (λx hx=>(aN (s11 _ _ (pt10.2 x hx).2.1) g12.nw).symm) g12.at_
 have hL14:∀x∈L2,H14 x.1=some (.tup [.str x.2.2.1,.ref x.2.1,x.2.2.2.2])/\H14 x.2.1=some (.lst (x.2.2.2.1.map V.int)):=λx hx=>by
  obtain⟨b1,b2,b3,b4⟩:=hL2 x hx;rw[e14,az (aN pt10.1 b3).symm,az (aN pt10.1 b4).symm];exact⟨kp _ _ (λy hy=>(aN (pt10.2 y hy).2.1 b3).symm) (g12.sm _ _ b1),kp _ _ (λy hy=>(aN (pt10.2 y hy).2.1 b4).symm) (g12.sm _ _ b2)⟩
 unfold sN tS fE;refine i4 (v:=.ref hd) (by rfl) ?_;refine i4 (v:=.ref c) (by rfl) ?_;refine gS (ns:=row) (ms:=row) (.of (s714 _ _ hd7)) (.of (s714 _ _ hc7)) ?_;refine ah (λ_=>?_) (λz=>absurd (by simp) z);refine cR o hd D row Z (tn7.mono s714) (.of (s714 _ _ hd7)) by0 l0 (λpb L3 H15 s15 pt15 _ _ eL3=>?_);have go2:∀x∈L2.map λx=>x.2.2,ji x:=by rw[e2];exact λx hx=>(good x hx).2
 have go3:∀x∈L3.map λx=>x.2.2,ji x:=by rw[eL3,<- eL];exact λx hx=>(good x hx).2
 have d2:=wb (K:=K) (H:=H15) L2 (λx hx=>⟨s15 _ _ (hL14 x hx).1,s15 _ _ (hL14 x hx).2⟩) λx hx=>go2 _ (Uu.mpr ⟨x,hx,rfl⟩);have d3:=wb (K:=K) (H:=H15) L3 (λx hx=>⟨(pt15.2 x hx).1,(pt15.2 x hx).2.1⟩) λx hx=>go3 _ (Uu.mpr ⟨x,hx,rfl⟩);have e23:L3.map (λx=>x.2.2)=L2.map λx=>x.2.2:=by rw[eL3,e2,eL]
 rw[e23]at d3;refine i4 (v:=.ref pk) (by rfl) ?_;refine⟨_,_,bq.lst (.of pt15.1) d3,bq.lst (.of (s15 _ _ hpk)) d2,Dt go2,Dt go2,?_⟩;exact cE (kq _) (Du _ go2).symm
end
end My
namespace My
open PySem L2
theorem bP{Pm:List Value->Prop}(h:∀x0,Pm [x0]):∀us:List Value,us.length=1->Pm us
 | [x0],_=>h x0
theorem bF{Pm:List Value->Prop}(h:∀x0 x1,Pm [x0,x1]):∀us:List Value,us.length=2->Pm us
 | [x0,x1],_=>h x0 x1
theorem cC{Pm:List Value->Prop}(h:∀x0 x1 x2,Pm [x0,x1,x2]):∀us:List Value,us.length=3->Pm us
 | [x0,x1,x2],_=>h x0 x1 x2
theorem Mh{Pm:List Value->Prop}(h:∀x0 x1 x2 x3,Pm [x0,x1,x2,x3]):∀us:List Value,us.length=4->Pm us
 | [x0,x1,x2,x3],_=>h x0 x1 x2 x3
theorem Mg{Pm:List Value->Prop}(h:∀x0 x1 x2 x3 x4 x5,Pm [x0,x1,x2,x3,x4,x5]):∀us:List Value,us.length=6->Pm us
 | [x0,x1,x2,x3,x4,x5],_=>h x0 x1 x2 x3 x4 x5
theorem T8{Pm:List Value->Prop}{ds:List Value}{ps:List Str}(h:∀x0,Pm [x0])(e:ps.length=1+ds.length:=by rfl):∀us:List Value,(us++ds).length=ps.length->Pm us:=λus hl=>by
 have hm:us.length=1:=(by rw[Ud,e]at hl;omega)
 match us,hm with
 |[x0],_=>exact h x0
theorem T9{Pm:List Value->Prop}{ds:List Value}{ps:List Str}(h:∀x0 x1,Pm [x0,x1])(e:ps.length=2+ds.length:=by rfl):∀us:List Value,(us++ds).length=ps.length->Pm us:=λus hl=>by
 have hm:us.length=2:=(by rw[Ud,e]at hl;omega)
 match us,hm with
 |[x0,x1],_=>exact h x0 x1
theorem Ua{Pm:List Value->Prop}{ds:List Value}{ps:List Str}(h:∀x0 x1 x2,Pm [x0,x1,x2])(e:ps.length=3+ds.length:=by rfl):∀us:List Value,(us++ds).length=ps.length->Pm us:=λus hl=>by
 have hm:us.length=3:=(by rw[Ud,e]at hl;omega)
 match us,hm with
 |[x0,x1,x2],_=>exact h x0 x1 x2
theorem Ub{Pm:List Value->Prop}{ds:List Value}{ps:List Str}(h:∀x0 x1 x2 x3,Pm [x0,x1,x2,x3])(e:ps.length=4+ds.length:=by rfl):∀us:List Value,(us++ds).length=ps.length->Pm us:=λus hl=>by
 have hm:us.length=4:=(by rw[Ud,e]at hl;omega)
 match us,hm with
 |[x0,x1,x2,x3],_=>exact h x0 x1 x2 x3
theorem txt_mk{w:World}{K:W.Frag}{h:Heap}{mg:Str->Option Value}(X:K.In h)(G:h.Ns mainGlobals mg)
 {a0 a1 a2 a3 a4 a5 a6 a7 ccPut dV7 a8 a9 dV9 a10 ccGoingReader dV10 a11 a12 a13 a14 a15 a16 a17 a18 a19 a20 a21 a22 a23 ccTongue a24 dV24 a25 dV25 a26 dV26 a27 dV27 a28 a29 a30 a31 a32 a33 a34 a35 ccLeadTongue dV35 a36 dV36 a37 dV37 a38 a39 a40 ccPairTongue dV40 a41 a42 a43 a44 a45 dV45 a46 dV46 a47 dV47 a48 a49 a50 ccShiftTongue a51 a52 dV52 a53 a54 dV54 a55 dV55 a56 a57 a58 a59 ccTableTongue a60 a61 dV61 a62 dV62 a63 dV63 a64 a65 a66 a67 a68 a69 a70 a71 a72 a73 a74 a75 a76 a77 a78 a79 a80 a81 a82 a83 a84 a85 ccReader ta2 ta2_0 ta2_1 ta2_0_0 ta2_0_1 ta2_0_2 ta2_0_3 ta2_0_4 ta2_1_0 ta2_1_1 ta2_1_2 ta2_1_3 ta2_1_4 ta14 ta18 ta18_0 ta18_1 ta18_2 ta18_3 ta18_4 ta19:Addr}{od0 an0 od1 an1 od2 an2 od3 an3 od4 an4 od5 an5 od6 an6 od7 an7 ddd7 od8 an8 od9 an9 ddd9 od10 an10 ddd10 od11 an11 od12 an12 od13 an13 od14 an14 od15 an15 od16 an16 od17 an17 od18 an18 od19 an19 od20 an20 od21 an21 od22 an22 od23 an23 od24 an24 ddd24 od25 an25 ddd25 od26 an26 ddd26 od27 an27 ddd27 od28 an28 od29 an29 od30 an30 od31 an31 od32 an32 od33 an33 od34 an34 od35 an35 ddd35 od36 an36 ddd36 od37 an37 ddd37 od38 an38 od39 an39 od40 an40 ddd40 od41 an41 od42 an42 od43 an43 od44 an44 od45 an45 ddd45 od46 an46 ddd46 od47 an47 ddd47 od48 an48 od49 an49 od50 an50 od51 an51 od52 an52 ddd52 od53 an53 od54 an54 ddd54 od55 an55 ddd55 od56 an56 od57 an57 od58 an58 od59 an59 od60 an60 od61 an61 ddd61 od62 an62 ddd62 od63 an63 ddd63 od64 an64 od65 an65 od66 an66 od67 an67 od68 an68 od69 an69 od70 an70 od71 an71 od72 an72 od73 an73 od74 an74 od75 an75 od76 an76 od77 an77 od78 an78 od79 an79 od80 an80 od81 an81 od82 an82 od83 an83 od84 an84 od85 an85:Option Addr}{sl0 sl1 sl2 sl3 sl4 sl5 sl6 sl7 dsl7 sl8 sl9 dsl9 sl10 dsl10 sl11 sl12 sl13 sl14 sl15 sl16 sl17 sl18 sl19 sl20 sl21 sl22 sl23 sl24 dsl24 sl25 dsl25 sl26 dsl26 sl27 dsl27 sl28 sl29 sl30 sl31 sl32 sl33 sl34 sl35 dsl35 sl36 dsl36 sl37 dsl37 sl38 sl39 sl40 dsl40 sl41 sl42 sl43 sl44 sl45 dsl45 sl46 dsl46 sl47 dsl47 sl48 sl49 sl50 sl51 sl52 dsl52 sl53 sl54 dsl54 sl55 dsl55 sl56 sl57 sl58 sl59 sl60 sl61 dsl61 sl62 dsl62 sl63 dsl63 sl64 sl65 sl66 sl67 sl68 sl69 sl70 sl71 sl72 sl73 sl74 sl75 sl76 sl77 sl78 sl79 sl80 sl81 sl82 sl83 sl84 sl85 ts2_0 ts2_1 ts2_0_0 ts2_0_1 ts2_0_2 ts2_0_3 ts2_0_4 ts2_1_0 ts2_1_1 ts2_1_2 ts2_1_3 ts2_1_4 ts14 ts18_0 ts18_1 ts18_2 ts18_3 ts18_4 ts19:Array (Option Value)}{oc0 kV0 dc0 pm0 cd0 ct0 oc1 kV1 dc1 pm1 cd1 ct1 oc2 kV2 dc2 pm2 cd2 ct2 oc3 kV3 dc3 pm3 cd3 ct3 oc4 kV4 dc4 pm4 cd4 ct4 oc5 kV5 dc5 pm5 cd5 ct5 oc6 kV6 dc6 pm6 cd6 ct6 oc7 kV7 dc7 pm7 cd7 ct7 ddc7 oc8 kV8 dc8 pm8 cd8 ct8 oc9 kV9 dc9 pm9 cd9 ct9 ddc9 oc10 kV10 dc10 pm10 cd10 ct10 ddc10 oc11 kV11 dc11 pm11 cd11 ct11 oc12 kV12 dc12 pm12 cd12 ct12 oc13 kV13 dc13 pm13 cd13 ct13 oc14 kV14 dc14 pm14 cd14 ct14 oc15 kV15 dc15 pm15 cd15 ct15 oc16 kV16 dc16 pm16 cd16 ct16 oc17 kV17 dc17 pm17 cd17 ct17 oc18 kV18 dc18 pm18 cd18 ct18 oc19 kV19 dc19 pm19 cd19 ct19 oc20 kV20 dc20 pm20 cd20 ct20 oc21 kV21 dc21 pm21 cd21 ct21 oc22 kV22 dc22 pm22 cd22 ct22 oc23 kV23 dc23 pm23 cd23 ct23 oc24 kV24 dc24 pm24 cd24 ct24 ddc24 oc25 kV25 dc25 pm25 cd25 ct25 ddc25 oc26 kV26 dc26 pm26 cd26 ct26 ddc26 oc27 kV27 dc27 pm27 cd27 ct27 ddc27 oc28 kV28 dc28 pm28 cd28 ct28 oc29 kV29 dc29 pm29 cd29 ct29 oc30 kV30 dc30 pm30 cd30 ct30 oc31 kV31 dc31 pm31 cd31 ct31 oc32 kV32 dc32 pm32 cd32 ct32 oc33 kV33 dc33 pm33 cd33 ct33 oc34 kV34 dc34 pm34 cd34 ct34 oc35 kV35 dc35 pm35 cd35 ct35 ddc35 oc36 kV36 dc36 pm36 cd36 ct36 ddc36 oc37 kV37 dc37 pm37 cd37 ct37 ddc37 oc38 kV38 dc38 pm38 cd38 ct38 oc39 kV39 dc39 pm39 cd39 ct39 oc40 kV40 dc40 pm40 cd40 ct40 ddc40 oc41 kV41 dc41 pm41 cd41 ct41 oc42 kV42 dc42 pm42 cd42 ct42 oc43 kV43 dc43 pm43 cd43 ct43 oc44 kV44 dc44 pm44 cd44 ct44 oc45 kV45 dc45 pm45 cd45 ct45 ddc45 oc46 kV46 dc46 pm46 cd46 ct46 ddc46 oc47 kV47 dc47 pm47 cd47 ct47 ddc47 oc48 kV48 dc48 pm48 cd48 ct48 oc49 kV49 dc49 pm49 cd49 ct49 oc50 kV50 dc50 pm50 cd50 ct50 oc51 kV51 dc51 pm51 cd51 ct51 oc52 kV52 dc52 pm52 cd52 ct52 ddc52 oc53 kV53 dc53 pm53 cd53 ct53 oc54 kV54 dc54 pm54 cd54 ct54 ddc54 oc55 kV55 dc55 pm55 cd55 ct55 ddc55 oc56 kV56 dc56 pm56 cd56 ct56 oc57 kV57 dc57 pm57 cd57 ct57 oc58 kV58 dc58 pm58 cd58 ct58 oc59 kV59 dc59 pm59 cd59 ct59 oc60 kV60 dc60 pm60 cd60 ct60 oc61 kV61 dc61 pm61 cd61 ct61 ddc61 oc62 kV62 dc62 pm62 cd62 ct62 ddc62 oc63 kV63 dc63 pm63 cd63 ct63 ddc63 oc64 kV64 dc64 pm64 cd64 ct64 oc65 kV65 dc65 pm65 cd65 ct65 oc66 kV66 dc66 pm66 cd66 ct66 oc67 kV67 dc67 pm67 cd67 ct67 oc68 kV68 dc68 pm68 cd68 ct68 oc69 kV69 dc69 pm69 cd69 ct69 oc70 kV70 dc70 pm70 cd70 ct70 oc71 kV71 dc71 pm71 cd71 ct71 oc72 kV72 dc72 pm72 cd72 ct72 oc73 kV73 dc73 pm73 cd73 ct73 oc74 kV74 dc74 pm74 cd74 ct74 oc75 kV75 dc75 pm75 cd75 ct75 oc76 kV76 dc76 pm76 cd76 ct76 oc77 kV77 dc77 pm77 cd77 ct77 oc78 kV78 dc78 pm78 cd78 ct78 oc79 kV79 dc79 pm79 cd79 ct79 oc80 kV80 dc80 pm80 cd80 ct80 oc81 kV81 dc81 pm81 cd81 ct81 oc82 kV82 dc82 pm82 cd82 ct82 oc83 kV83 dc83 pm83 cd83 ct83 oc84 kV84 dc84 pm84 cd84 ct84 oc85 kV85 dc85 pm85 cd85 ct85:Value}{ddn7 ddn9 ddn10 ddn24 ddn25 ddn26 ddn27 ddn35 ddn36 ddn37 ddn40 ddn45 ddn46 ddn47 ddn52 ddn54 ddn55 ddn61 ddn62 ddn63 ep2 tn2_0 tn2_1 tn2_0_0 tn2_0_1 tn2_0_2 tn2_0_3 tn2_0_4 tn2_1_0 tn2_1_1 tn2_1_2 tn2_1_3 tn2_1_4 tn14 ep18 tn18_0 tn18_1 tn18_2 tn18_3 tn18_4 tn19:Nat}{ud7_0 ud9_0 ud10_0 ud24_0 ud25_0 ud26_0 ud27_0 ud35_0 ud36_0 ud37_0 ud40_0 ud45_0 ud46_0 ud47_0 ud52_0 ud54_0 ud55_0 ud61_0 ud62_0 ud63_0 u0 u1 u3 u4 u5 u6 u7 u8 u9 u10 u11 u12 u13 u15 u16 u17:Tok}{es2 es18:Array DictEntry}{th2_0 th2_1:Int}{ti2_0 ti2_1 ti2_0_0 ti2_0_1 ti2_0_2 ti2_0_3 ti2_0_4 ti2_1_0 ti2_1_1 ti2_1_2 ti2_1_3 ti2_1_4 ti14 ti18_0 ti18_1 ti18_2 ti18_3 ti18_4 ti19:Array Value}
 (h0a:W.nsIn K mainGlobals "is_number" = some (some (.ref a0)))
 (h0l:K.lookup a0=some ⟨oc0,od0,.func (W.fnOf "is_number" "is_number" (aJ kK) (aH kK) (ak kK) .none kV0 dc0 pm0 an0 cd0 ct0),sl0⟩)
 (h0c:W.codeIn K cd0 "is_number" = true)
 (h0k:W.keepIn K (.ref a0)=true)
 (h1a:W.nsIn K mainGlobals "is_byte" = some (some (.ref a1)))
 (h1l:K.lookup a1=some ⟨oc1,od1,.func (W.fnOf "is_byte" "is_byte" (aJ kN) (aH kN) (ak kN) .none kV1 dc1 pm1 an1 cd1 ct1),sl1⟩)
 (h1c:W.codeIn K cd1 "is_byte" = true)
 (h1k:W.keepIn K (.ref a1)=true)
 (h2a:W.nsIn K mainGlobals "is_head" = some (some (.ref a2)))
 (h2l:K.lookup a2=some ⟨oc2,od2,.func (W.fnOf "is_head" "is_head" (aJ kL) (aH kL) (ak kL) .none kV2 dc2 pm2 an2 cd2 ct2),sl2⟩)
 (h2c:W.codeIn K cd2 "is_head" = true)
 (h2k:W.keepIn K (.ref a2)=true)
 (h3a:W.nsIn K mainGlobals "is_tail" = some (some (.ref a3)))
 (h3l:K.lookup a3=some ⟨oc3,od3,.func (W.fnOf "is_tail" "is_tail" (aJ kH) (aH kH) (ak kH) .none kV3 dc3 pm3 an3 cd3 ct3),sl3⟩)
 (h3c:W.codeIn K cd3 "is_tail" = true)
 (h3k:W.keepIn K (.ref a3)=true)
 (h4a:W.nsIn K mainGlobals "is_seen_byte" = some (some (.ref a4)))
 (h4l:K.lookup a4=some ⟨oc4,od4,.func (W.fnOf "is_seen_byte" "is_seen_byte" (aJ kJ) (aH kJ) (ak kJ) .none kV4 dc4 pm4 an4 cd4 ct4),sl4⟩)
 (h4c:W.codeIn K cd4 "is_seen_byte" = true)
 (h4k:W.keepIn K (.ref a4)=true)
 (h5a:W.nsIn K mainGlobals "is_sign" = some (some (.ref a5)))
 (h5l:K.lookup a5=some ⟨oc5,od5,.func (W.fnOf "is_sign" "is_sign" (aJ kI) (aH kI) (ak kI) .none kV5 dc5 pm5 an5 cd5 ct5),sl5⟩)
 (h5c:W.codeIn K cd5 "is_sign" = true)
 (h5k:W.keepIn K (.ref a5)=true)
 (h6a:W.nsIn K mainGlobals "is_row" = some (some (.ref a6)))
 (h6l:K.lookup a6=some ⟨oc6,od6,.func (W.fnOf "is_row" "is_row" (aJ ju) (aH ju) (ak ju) .none kV6 dc6 pm6 an6 cd6 ct6),sl6⟩)
 (h6c:W.codeIn K cd6 "is_row" = true)
 (h6k:W.keepIn K (.ref a6)=true)
 (xw:W.nsIn K mainGlobals "Put" = some (some (.ref ccPut)))
 (qX:W.plainGet K ccPut Str.empty=true)
 (rA:W.hasDictIn K ccPut=true)
 (rj:W.plainOver K ccPut=true)
 (qQ:W.findIn K (.ref ccPut) "__setattr__" = some (some (.builtin "object.__setattr__")))
 (w5:W.makesIn K ccPut=true)
 (xj:W.keepIn K (.ref ccPut)=true)
 (wD:W.findIn K (.ref ccPut) "__class__" = some (some (.builtin "object.__class__")))
 (wv:W.specialIn K (.builtin "object.__class__") "__get__" = some (some (.builtin "getset_descriptor.__get__")))
 (wg:W.takesIn K (.builtin "object.__class__")=some true)
 (cw_Put:W.mroIn K ccPut (.type "object")=some true)
 (wN:W.findIn K (.ref ccPut) "sign" = some none)
 (h7a:W.findIn K (.ref ccPut) "__init__" = some (some (.ref a7)))
 (h7f:W.isFn K (.ref a7)=true)
 (h7l:K.lookup a7=some ⟨oc7,od7,.func (W.fnOf "__init__" "Put.__init__" (aJ lT) (aH lT) (ak lT) (.ref dV7) kV7 dc7 pm7 an7 cd7 ct7),sl7⟩)
 (h7c:W.codeIn K cd7 "Put.__init__" = true)
 (h7k:W.keepIn K (.ref a7)=true)
 (h7d:K.lookup dV7=some ⟨ddc7,ddd7,.seq ([.int 65533 ud7_0]:List Value).toArray ddn7,dsl7⟩)
 (h8a:W.findIn K (.ref ccPut) "told" = some (some (.ref a8)))
 (h8f:W.isFn K (.ref a8)=true)
 (h8l:K.lookup a8=some ⟨oc8,od8,.func (W.fnOf "told" "Put.told" (aJ lS) (aH lS) (ak lS) .none kV8 dc8 pm8 an8 cd8 ct8),sl8⟩)
 (h8c:W.codeIn K cd8 "Put.told" = true)
 (h8k:W.keepIn K (.ref a8)=true)
 (h9l:K.lookup a9=some ⟨oc9,od9,.func (W.fnOf "__init__" "Reader.__init__" (aJ lO) (aH lO) (ak lO) (.ref dV9) kV9 dc9 pm9 an9 cd9 ct9),sl9⟩)
 (h9c:W.codeIn K cd9 "Reader.__init__" = true)
 (h9k:W.keepIn K (.ref a9)=true)
 (h9d:K.lookup dV9=some ⟨ddc9,ddd9,.seq ([.int 0 ud9_0]:List Value).toArray ddn9,dsl9⟩)
 (xz:W.nsIn K mainGlobals "GoingReader" = some (some (.ref ccGoingReader)))
 (q8:W.plainGet K ccGoingReader Str.empty=true)
 (rD:W.hasDictIn K ccGoingReader=true)
 (rn:W.plainOver K ccGoingReader=true)
 (qT:W.findIn K (.ref ccGoingReader) "__setattr__" = some (some (.builtin "object.__setattr__")))
 (xa:W.makesIn K ccGoingReader=true)
 (xn:W.keepIn K (.ref ccGoingReader)=true)
 (wG:W.findIn K (.ref ccGoingReader) "__class__" = some (some (.builtin "object.__class__")))
 (wz:W.specialIn K (.builtin "object.__class__") "__get__" = some (some (.builtin "getset_descriptor.__get__")))
 (wn:W.takesIn K (.builtin "object.__class__")=some true)
 (cw_GoingReader:W.mroIn K ccGoingReader (.type "object")=some true)
 (wW:W.findIn K (.ref ccGoingReader) "at_page" = some none)
 (wV:W.findIn K (.ref ccGoingReader) "begun" = some none)
 (wU:W.findIn K (.ref ccGoingReader) "ended" = some none)
 (wT:W.findIn K (.ref ccGoingReader) "many" = some none)
 (wS:W.findIn K (.ref ccGoingReader) "met" = some none)
 (wR:W.findIn K (.ref ccGoingReader) "place" = some none)
 (wQ:W.findIn K (.ref ccGoingReader) "tongue" = some none)
 (wP:W.findIn K (.ref ccGoingReader) "way" = some none)
 (h10a:W.findIn K (.ref ccGoingReader) "__init__" = some (some (.ref a10)))
 (h10f:W.isFn K (.ref a10)=true)
 (h10l:K.lookup a10=some ⟨oc10,od10,.func (W.fnOf "__init__" "GoingReader.__init__" (aJ mh) (aH mh) (ak mh) (.ref dV10) kV10 dc10 pm10 an10 cd10 ct10),sl10⟩)
 (h10c:W.codeIn K cd10 "GoingReader.__init__" = true)
 (h10k:W.keepIn K (.ref a10)=true)
 (h10d:K.lookup dV10=some ⟨ddc10,ddd10,.seq ([.int 0 ud10_0]:List Value).toArray ddn10,dsl10⟩)
 (h11a:W.findIn K (.ref ccGoingReader) "meet" = some (some (.ref a11)))
 (h11f:W.isFn K (.ref a11)=true)
 (h11l:K.lookup a11=some ⟨oc11,od11,.func (W.fnOf "meet" "GoingReader.meet" (aJ mf) (aH mf) (ak mf) .none kV11 dc11 pm11 an11 cd11 ct11),sl11⟩)
 (h11c:W.codeIn K cd11 "GoingReader.meet" = true)
 (h11k:W.keepIn K (.ref a11)=true)
 (h12a:W.findIn K (.ref ccGoingReader) "faults" = some (some (.ref a12)))
 (h12f:W.isFn K (.ref a12)=true)
 (h12l:K.lookup a12=some ⟨oc12,od12,.func (W.fnOf "faults" "Reader.faults" (aJ lQ) (aH lQ) (ak lQ) .none kV12 dc12 pm12 an12 cd12 ct12),sl12⟩)
 (h12c:W.codeIn K cd12 "Reader.faults" = true)
 (h12k:W.keepIn K (.ref a12)=true)
 (h13a:W.findIn K (.ref ccGoingReader) "feed" = some (some (.ref a13)))
 (h13f:W.isFn K (.ref a13)=true)
 (h13l:K.lookup a13=some ⟨oc13,od13,.func (W.fnOf "feed" "Reader.feed" (aJ lP) (aH lP) (ak lP) .none kV13 dc13 pm13 an13 cd13 ct13),sl13⟩)
 (h13c:W.codeIn K cd13 "Reader.feed" = true)
 (h13k:W.keepIn K (.ref a13)=true)
 (h14a:W.findIn K (.ref ccGoingReader) "end" = some (some (.ref a14)))
 (h14f:W.isFn K (.ref a14)=true)
 (h14l:K.lookup a14=some ⟨oc14,od14,.func (W.fnOf "end" "Reader.end" (aJ lR) (aH lR) (ak lR) .none kV14 dc14 pm14 an14 cd14 ct14),sl14⟩)
 (h14c:W.codeIn K cd14 "Reader.end" = true)
 (h14k:W.keepIn K (.ref a14)=true)
 (h15a:W.findIn K (.ref ccGoingReader) "take" = some (some (.ref a15)))
 (h15f:W.isFn K (.ref a15)=true)
 (h15l:K.lookup a15=some ⟨oc15,od15,.func (W.fnOf "take" "Reader.take" (aJ lJ) (aH lJ) (ak lJ) .none kV15 dc15 pm15 an15 cd15 ct15),sl15⟩)
 (h15c:W.codeIn K cd15 "Reader.take" = true)
 (h15k:W.keepIn K (.ref a15)=true)
 (h16a:W.findIn K (.ref ccGoingReader) "look_at_begun" = some (some (.ref a16)))
 (h16f:W.isFn K (.ref a16)=true)
 (h16l:K.lookup a16=some ⟨oc16,od16,.func (W.fnOf "look_at_begun" "Reader.look_at_begun" (aJ lN) (aH lN) (ak lN) .none kV16 dc16 pm16 an16 cd16 ct16),sl16⟩)
 (h16c:W.codeIn K cd16 "Reader.look_at_begun" = true)
 (h16k:W.keepIn K (.ref a16)=true)
 (h17a:W.findIn K (.ref ccGoingReader) "meet_none" = some (some (.ref a17)))
 (h17f:W.isFn K (.ref a17)=true)
 (h17l:K.lookup a17=some ⟨oc17,od17,.func (W.fnOf "meet_none" "Reader.meet_none" (aJ lM) (aH lM) (ak lM) .none kV17 dc17 pm17 an17 cd17 ct17),sl17⟩)
 (h17c:W.codeIn K cd17 "Reader.meet_none" = true)
 (h17k:W.keepIn K (.ref a17)=true)
 (h18a:W.findIn K (.ref ccGoingReader) "note" = some (some (.ref a18)))
 (h18f:W.isFn K (.ref a18)=true)
 (h18l:K.lookup a18=some ⟨oc18,od18,.func (W.fnOf "note" "Reader.note" (aJ lK) (aH lK) (ak lK) .none kV18 dc18 pm18 an18 cd18 ct18),sl18⟩)
 (h18c:W.codeIn K cd18 "Reader.note" = true)
 (h18k:W.keepIn K (.ref a18)=true)
 (h19a:W.nsIn K mainGlobals "parts_of" = some (some (.ref a19)))
 (h19l:K.lookup a19=some ⟨oc19,od19,.func (W.fnOf "parts_of" "parts_of" (aJ kz) (aH kz) (ak kz) .none kV19 dc19 pm19 an19 cd19 ct19),sl19⟩)
 (h19c:W.codeIn K cd19 "parts_of" = true)
 (h19k:W.keepIn K (.ref a19)=true)
 (h20a:W.nsIn K mainGlobals "check_room" = some (some (.ref a20)))
 (h20l:K.lookup a20=some ⟨oc20,od20,.func (W.fnOf "check_room" "check_room" (aJ kR) (aH kR) (ak kR) .none kV20 dc20 pm20 an20 cd20 ct20),sl20⟩)
 (h20c:W.codeIn K cd20 "check_room" = true)
 (h20k:W.keepIn K (.ref a20)=true)
 (h21a:W.nsIn K mainGlobals "parted" = some (some (.ref a21)))
 (h21l:K.lookup a21=some ⟨oc21,od21,.func (W.fnOf "parted" "parted" (aJ kD) (aH kD) (ak kD) .none kV21 dc21 pm21 an21 cd21 ct21),sl21⟩)
 (h21c:W.codeIn K cd21 "parted" = true)
 (h21k:W.keepIn K (.ref a21)=true)
 (h22a:W.nsIn K mainGlobals "together" = some (some (.ref a22)))
 (h22l:K.lookup a22=some ⟨oc22,od22,.func (W.fnOf "together" "together" (aJ ku) (aH ku) (ak ku) .none kV22 dc22 pm22 an22 cd22 ct22),sl22⟩)
 (h22c:W.codeIn K cd22 "together" = true)
 (h22k:W.keepIn K (.ref a22)=true)
 (xr:W.nsIn K mainGlobals "Tongue" = some (some (.ref ccTongue)))
 (qU:W.plainGet K ccTongue Str.empty=true)
 (ro:W.hasDictIn K ccTongue=true)
 (rg:W.plainOver K ccTongue=true)
 (qN:W.findIn K (.ref ccTongue) "__setattr__" = some (some (.builtin "object.__setattr__")))
 (wX:W.makesIn K ccTongue=true)
 (xg:W.keepIn K (.ref ccTongue)=true)
 (xo:W.findIn K (.ref ccTongue) "__init__" = some (some (.builtin "object.__init__")))
 (wA:W.findIn K (.ref ccTongue) "__class__" = some (some (.builtin "object.__class__")))
 (wr:W.specialIn K (.builtin "object.__class__") "__get__" = some (some (.builtin "getset_descriptor.__get__")))
 (wc:W.takesIn K (.builtin "object.__class__")=some true)
 (cw_Tongue:W.mroIn K ccTongue (.type "object")=some true)
 (h23a:W.findIn K (.ref ccTongue) "unit" = some (some (.ref a23)))
 (h23f:W.isFn K (.ref a23)=true)
 (h23l:K.lookup a23=some ⟨oc23,od23,.func (W.fnOf "unit" "Tongue.unit" (aJ kW) (aH kW) (ak kW) .none kV23 dc23 pm23 an23 cd23 ct23),sl23⟩)
 (h23c:W.codeIn K cd23 "Tongue.unit" = true)
 (h23k:W.keepIn K (.ref a23)=true)
 (h24a:W.findIn K (.ref ccTongue) "spell" = some (some (.ref a24)))
 (h24f:W.isFn K (.ref a24)=true)
 (h24l:K.lookup a24=some ⟨oc24,od24,.func (W.fnOf "spell" "Tongue.spell" (aJ kX) (aH kX) (ak kX) (.ref dV24) kV24 dc24 pm24 an24 cd24 ct24),sl24⟩)
 (h24c:W.codeIn K cd24 "Tongue.spell" = true)
 (h24k:W.keepIn K (.ref a24)=true)
 (h24d:K.lookup dV24=some ⟨ddc24,ddd24,.seq ([.int 0 ud24_0]:List Value).toArray ddn24,dsl24⟩)
 (h25a:W.findIn K (.ref ccTongue) "whole" = some (some (.ref a25)))
 (h25f:W.isFn K (.ref a25)=true)
 (h25l:K.lookup a25=some ⟨oc25,od25,.func (W.fnOf "whole" "Tongue.whole" (aJ kU) (aH kU) (ak kU) (.ref dV25) kV25 dc25 pm25 an25 cd25 ct25),sl25⟩)
 (h25c:W.codeIn K cd25 "Tongue.whole" = true)
 (h25k:W.keepIn K (.ref a25)=true)
 (h25d:K.lookup dV25=some ⟨ddc25,ddd25,.seq ([.int 0 ud25_0]:List Value).toArray ddn25,dsl25⟩)
 (h26a:W.findIn K (.ref ccTongue) "fill" = some (some (.ref a26)))
 (h26f:W.isFn K (.ref a26)=true)
 (h26l:K.lookup a26=some ⟨oc26,od26,.func (W.fnOf "fill" "Tongue.fill" (aJ kZ) (aH kZ) (ak kZ) (.ref dV26) kV26 dc26 pm26 an26 cd26 ct26),sl26⟩)
 (h26c:W.codeIn K cd26 "Tongue.fill" = true)
 (h26k:W.keepIn K (.ref a26)=true)
 (h26d:K.lookup dV26=some ⟨ddc26,ddd26,.seq ([.int 0 ud26_0]:List Value).toArray ddn26,dsl26⟩)
 (h27a:W.findIn K (.ref ccTongue) "look" = some (some (.ref a27)))
 (h27f:W.isFn K (.ref a27)=true)
 (h27l:K.lookup a27=some ⟨oc27,od27,.func (W.fnOf "look" "Tongue.look" (aJ kY) (aH kY) (ak kY) (.ref dV27) kV27 dc27 pm27 an27 cd27 ct27),sl27⟩)
 (h27c:W.codeIn K cd27 "Tongue.look" = true)
 (h27k:W.keepIn K (.ref a27)=true)
 (h27d:K.lookup dV27=some ⟨ddc27,ddd27,.seq ([.int 0 ud27_0]:List Value).toArray ddn27,dsl27⟩)
 (h28a:W.nsIn K mainGlobals "length_of" = some (some (.ref a28)))
 (h28l:K.lookup a28=some ⟨oc28,od28,.func (W.fnOf "length_of" "length_of" (aJ kF) (aH kF) (ak kF) .none kV28 dc28 pm28 an28 cd28 ct28),sl28⟩)
 (h28c:W.codeIn K cd28 "length_of" = true)
 (h28k:W.keepIn K (.ref a28)=true)
 (h29a:W.nsIn K mainGlobals "lead_row" = some (some (.ref a29)))
 (h29l:K.lookup a29=some ⟨oc29,od29,.func (W.fnOf "lead_row" "lead_row" (aJ js) (aH js) (ak js) .none kV29 dc29 pm29 an29 cd29 ct29),sl29⟩)
 (h29c:W.codeIn K cd29 "lead_row" = true)
 (h29k:W.keepIn K (.ref a29)=true)
 (h30a:W.nsIn K mainGlobals "length_behind" = some (some (.ref a30)))
 (h30l:K.lookup a30=some ⟨oc30,od30,.func (W.fnOf "length_behind" "length_behind" (aJ kG) (aH kG) (ak kG) .none kV30 dc30 pm30 an30 cd30 ct30),sl30⟩)
 (h30c:W.codeIn K cd30 "length_behind" = true)
 (h30k:W.keepIn K (.ref a30)=true)
 (h31a:W.nsIn K mainGlobals "bounds_behind" = some (some (.ref a31)))
 (h31l:K.lookup a31=some ⟨oc31,od31,.func (W.fnOf "bounds_behind" "bounds_behind" (aJ kS) (aH kS) (ak kS) .none kV31 dc31 pm31 an31 cd31 ct31),sl31⟩)
 (h31c:W.codeIn K cd31 "bounds_behind" = true)
 (h31k:W.keepIn K (.ref a31)=true)
 (h32a:W.nsIn K mainGlobals "fits_behind" = some (some (.ref a32)))
 (h32l:K.lookup a32=some ⟨oc32,od32,.func (W.fnOf "fits_behind" "fits_behind" (aJ kO) (aH kO) (ak kO) .none kV32 dc32 pm32 an32 cd32 ct32),sl32⟩)
 (h32c:W.codeIn K cd32 "fits_behind" = true)
 (h32k:W.keepIn K (.ref a32)=true)
 (h33a:W.nsIn K mainGlobals "missing" = some (some (.ref a33)))
 (h33l:K.lookup a33=some ⟨oc33,od33,.func (W.fnOf "missing" "missing" (aJ kE) (aH kE) (ak kE) .none kV33 dc33 pm33 an33 cd33 ct33),sl33⟩)
 (h33c:W.codeIn K cd33 "missing" = true)
 (h33k:W.keepIn K (.ref a33)=true)
 (h34a:W.nsIn K mainGlobals "carried" = some (some (.ref a34)))
 (h34l:K.lookup a34=some ⟨oc34,od34,.func (W.fnOf "carried" "carried" (aJ jv) (aH jv) (ak jv) .none kV34 dc34 pm34 an34 cd34 ct34),sl34⟩)
 (h34c:W.codeIn K cd34 "carried" = true)
 (h34k:W.keepIn K (.ref a34)=true)
 (xy:W.nsIn K mainGlobals "LeadTongue" = some (some (.ref ccLeadTongue)))
 (qZ:W.plainGet K ccLeadTongue Str.empty=true)
 (rC:W.hasDictIn K ccLeadTongue=true)
 (rm:W.plainOver K ccLeadTongue=true)
 (qS:W.findIn K (.ref ccLeadTongue) "__setattr__" = some (some (.builtin "object.__setattr__")))
 (w9:W.makesIn K ccLeadTongue=true)
 (xm:W.keepIn K (.ref ccLeadTongue)=true)
 (xp:W.findIn K (.ref ccLeadTongue) "__init__" = some (some (.builtin "object.__init__")))
 (wF:W.findIn K (.ref ccLeadTongue) "__class__" = some (some (.builtin "object.__class__")))
 (wx:W.specialIn K (.builtin "object.__class__") "__get__" = some (some (.builtin "getset_descriptor.__get__")))
 (wl:W.takesIn K (.builtin "object.__class__")=some true)
 (cw_LeadTongue:W.mroIn K ccLeadTongue (.type "object")=some true)
 (h35a:W.findIn K (.ref ccLeadTongue) "spell" = some (some (.ref a35)))
 (h35f:W.isFn K (.ref a35)=true)
 (h35l:K.lookup a35=some ⟨oc35,od35,.func (W.fnOf "spell" "LeadTongue.spell" (aJ me) (aH me) (ak me) (.ref dV35) kV35 dc35 pm35 an35 cd35 ct35),sl35⟩)
 (h35c:W.codeIn K cd35 "LeadTongue.spell" = true)
 (h35k:W.keepIn K (.ref a35)=true)
 (h35d:K.lookup dV35=some ⟨ddc35,ddd35,.seq ([.int 0 ud35_0]:List Value).toArray ddn35,dsl35⟩)
 (h36a:W.findIn K (.ref ccLeadTongue) "whole" = some (some (.ref a36)))
 (h36f:W.isFn K (.ref a36)=true)
 (h36l:K.lookup a36=some ⟨oc36,od36,.func (W.fnOf "whole" "LeadTongue.whole" (aJ ma) (aH ma) (ak ma) (.ref dV36) kV36 dc36 pm36 an36 cd36 ct36),sl36⟩)
 (h36c:W.codeIn K cd36 "LeadTongue.whole" = true)
 (h36k:W.keepIn K (.ref a36)=true)
 (h36d:K.lookup dV36=some ⟨ddc36,ddd36,.seq ([.int 0 ud36_0]:List Value).toArray ddn36,dsl36⟩)
 (h37a:W.findIn K (.ref ccLeadTongue) "fill" = some (some (.ref a37)))
 (h37f:W.isFn K (.ref a37)=true)
 (h37l:K.lookup a37=some ⟨oc37,od37,.func (W.fnOf "fill" "LeadTongue.fill" (aJ jx) (aH jx) (ak jx) (.ref dV37) kV37 dc37 pm37 an37 cd37 ct37),sl37⟩)
 (h37c:W.codeIn K cd37 "LeadTongue.fill" = true)
 (h37k:W.keepIn K (.ref a37)=true)
 (h37d:K.lookup dV37=some ⟨ddc37,ddd37,.seq ([.int 0 ud37_0]:List Value).toArray ddn37,dsl37⟩)
 (h38a:W.nsIn K mainGlobals "units_of" = some (some (.ref a38)))
 (h38l:K.lookup a38=some ⟨oc38,od38,.func (W.fnOf "units_of" "units_of" (aJ kr) (aH kr) (ak kr) .none kV38 dc38 pm38 an38 cd38 ct38),sl38⟩)
 (h38c:W.codeIn K cd38 "units_of" = true)
 (h38k:W.keepIn K (.ref a38)=true)
 (h39a:W.nsIn K mainGlobals "sign_of" = some (some (.ref a39)))
 (h39l:K.lookup a39=some ⟨oc39,od39,.func (W.fnOf "sign_of" "sign_of" (aJ kx) (aH kx) (ak kx) .none kV39 dc39 pm39 an39 cd39 ct39),sl39⟩)
 (h39c:W.codeIn K cd39 "sign_of" = true)
 (h39k:W.keepIn K (.ref a39)=true)
 (xx:W.nsIn K mainGlobals "PairTongue" = some (some (.ref ccPairTongue)))
 (qY:W.plainGet K ccPairTongue Str.empty=true)
 (rB:W.hasDictIn K ccPairTongue=true)
 (rk:W.plainOver K ccPairTongue=true)
 (qR:W.findIn K (.ref ccPairTongue) "__setattr__" = some (some (.builtin "object.__setattr__")))
 (w6:W.makesIn K ccPairTongue=true)
 (xk:W.keepIn K (.ref ccPairTongue)=true)
 (wE:W.findIn K (.ref ccPairTongue) "__class__" = some (some (.builtin "object.__class__")))
 (ww:W.specialIn K (.builtin "object.__class__") "__get__" = some (some (.builtin "getset_descriptor.__get__")))
 (wj:W.takesIn K (.builtin "object.__class__")=some true)
 (cw_PairTongue:W.mroIn K ccPairTongue (.type "object")=some true)
 (wO:W.findIn K (.ref ccPairTongue) "order" = some none)
 (h40a:W.findIn K (.ref ccPairTongue) "__init__" = some (some (.ref a40)))
 (h40f:W.isFn K (.ref a40)=true)
 (h40l:K.lookup a40=some ⟨oc40,od40,.func (W.fnOf "__init__" "PairTongue.__init__" (aJ lZ) (aH lZ) (ak lZ) (.ref dV40) kV40 dc40 pm40 an40 cd40 ct40),sl40⟩)
 (h40c:W.codeIn K cd40 "PairTongue.__init__" = true)
 (h40k:W.keepIn K (.ref a40)=true)
 (h40d:K.lookup dV40=some ⟨ddc40,ddd40,.seq ([.str "high" ud40_0]:List Value).toArray ddn40,dsl40⟩)
 (h41a:W.findIn K (.ref ccPairTongue) "unit" = some (some (.ref a41)))
 (h41f:W.isFn K (.ref a41)=true)
 (h41l:K.lookup a41=some ⟨oc41,od41,.func (W.fnOf "unit" "PairTongue.unit" (aJ lV) (aH lV) (ak lV) .none kV41 dc41 pm41 an41 cd41 ct41),sl41⟩)
 (h41c:W.codeIn K cd41 "PairTongue.unit" = true)
 (h41k:W.keepIn K (.ref a41)=true)
 (h42a:W.findIn K (.ref ccPairTongue) "turned" = some (some (.ref a42)))
 (h42f:W.isFn K (.ref a42)=true)
 (h42l:K.lookup a42=some ⟨oc42,od42,.func (W.fnOf "turned" "PairTongue.turned" (aJ lW) (aH lW) (ak lW) .none kV42 dc42 pm42 an42 cd42 ct42),sl42⟩)
 (h42c:W.codeIn K cd42 "PairTongue.turned" = true)
 (h42k:W.keepIn K (.ref a42)=true)
 (h43a:W.findIn K (.ref ccPairTongue) "row_of" = some (some (.ref a43)))
 (h43f:W.isFn K (.ref a43)=true)
 (h43l:K.lookup a43=some ⟨oc43,od43,.func (W.fnOf "row_of" "PairTongue.row_of" (aJ lY) (aH lY) (ak lY) .none kV43 dc43 pm43 an43 cd43 ct43),sl43⟩)
 (h43c:W.codeIn K cd43 "PairTongue.row_of" = true)
 (h43k:W.keepIn K (.ref a43)=true)
 (h44a:W.findIn K (.ref ccPairTongue) "units_in" = some (some (.ref a44)))
 (h44f:W.isFn K (.ref a44)=true)
 (h44l:K.lookup a44=some ⟨oc44,od44,.func (W.fnOf "units_in" "PairTongue.units_in" (aJ jw) (aH jw) (ak jw) .none kV44 dc44 pm44 an44 cd44 ct44),sl44⟩)
 (h44c:W.codeIn K cd44 "PairTongue.units_in" = true)
 (h44k:W.keepIn K (.ref a44)=true)
 (h45a:W.findIn K (.ref ccPairTongue) "spell" = some (some (.ref a45)))
 (h45f:W.isFn K (.ref a45)=true)
 (h45l:K.lookup a45=some ⟨oc45,od45,.func (W.fnOf "spell" "PairTongue.spell" (aJ lX) (aH lX) (ak lX) (.ref dV45) kV45 dc45 pm45 an45 cd45 ct45),sl45⟩)
 (h45c:W.codeIn K cd45 "PairTongue.spell" = true)
 (h45k:W.keepIn K (.ref a45)=true)
 (h45d:K.lookup dV45=some ⟨ddc45,ddd45,.seq ([.int 0 ud45_0]:List Value).toArray ddn45,dsl45⟩)
 (h46a:W.findIn K (.ref ccPairTongue) "whole" = some (some (.ref a46)))
 (h46f:W.isFn K (.ref a46)=true)
 (h46l:K.lookup a46=some ⟨oc46,od46,.func (W.fnOf "whole" "PairTongue.whole" (aJ lU) (aH lU) (ak lU) (.ref dV46) kV46 dc46 pm46 an46 cd46 ct46),sl46⟩)
 (h46c:W.codeIn K cd46 "PairTongue.whole" = true)
 (h46k:W.keepIn K (.ref a46)=true)
 (h46d:K.lookup dV46=some ⟨ddc46,ddd46,.seq ([.int 0 ud46_0]:List Value).toArray ddn46,dsl46⟩)
 (h47a:W.findIn K (.ref ccPairTongue) "fill" = some (some (.ref a47)))
 (h47f:W.isFn K (.ref a47)=true)
 (h47l:K.lookup a47=some ⟨oc47,od47,.func (W.fnOf "fill" "PairTongue.fill" (aJ l7) (aH l7) (ak l7) (.ref dV47) kV47 dc47 pm47 an47 cd47 ct47),sl47⟩)
 (h47c:W.codeIn K cd47 "PairTongue.fill" = true)
 (h47k:W.keepIn K (.ref a47)=true)
 (h47d:K.lookup dV47=some ⟨ddc47,ddd47,.seq ([.int 0 ud47_0]:List Value).toArray ddn47,dsl47⟩)
 (h48a:W.nsIn K mainGlobals "begins" = some (some (.ref a48)))
 (h48l:K.lookup a48=some ⟨oc48,od48,.func (W.fnOf "begins" "begins" (aJ kT) (aH kT) (ak kT) .none kV48 dc48 pm48 an48 cd48 ct48),sl48⟩)
 (h48c:W.codeIn K cd48 "begins" = true)
 (h48k:W.keepIn K (.ref a48)=true)
 (h49a:W.nsIn K mainGlobals "places_in" = some (some (.ref a49)))
 (h49l:K.lookup a49=some ⟨oc49,od49,.func (W.fnOf "places_in" "places_in" (aJ ky) (aH ky) (ak ky) .none kV49 dc49 pm49 an49 cd49 ct49),sl49⟩)
 (h49c:W.codeIn K cd49 "places_in" = true)
 (h49k:W.keepIn K (.ref a49)=true)
 (xu:W.nsIn K mainGlobals "ShiftTongue" = some (some (.ref ccShiftTongue)))
 (qW:W.plainGet K ccShiftTongue Str.empty=true)
 (rq:W.hasDictIn K ccShiftTongue=true)
 (ri:W.plainOver K ccShiftTongue=true)
 (qP:W.findIn K (.ref ccShiftTongue) "__setattr__" = some (some (.builtin "object.__setattr__")))
 (wZ:W.makesIn K ccShiftTongue=true)
 (xi:W.keepIn K (.ref ccShiftTongue)=true)
 (wC:W.findIn K (.ref ccShiftTongue) "__class__" = some (some (.builtin "object.__class__")))
 (wu:W.specialIn K (.builtin "object.__class__") "__get__" = some (some (.builtin "getset_descriptor.__get__")))
 (wf:W.takesIn K (.builtin "object.__class__")=some true)
 (cw_ShiftTongue:W.mroIn K ccShiftTongue (.type "object")=some true)
 (wM:W.findIn K (.ref ccShiftTongue) "lists" = some none)
 (wL:W.findIn K (.ref ccShiftTongue) "places" = some none)
 (wK:W.findIn K (.ref ccShiftTongue) "shifted" = some none)
 (h50a:W.findIn K (.ref ccShiftTongue) "__init__" = some (some (.ref a50)))
 (h50f:W.isFn K (.ref a50)=true)
 (h50l:K.lookup a50=some ⟨oc50,od50,.func (W.fnOf "__init__" "ShiftTongue.__init__" (aJ lH) (aH lH) (ak lH) .none kV50 dc50 pm50 an50 cd50 ct50),sl50⟩)
 (h50c:W.codeIn K cd50 "ShiftTongue.__init__" = true)
 (h50k:W.keepIn K (.ref a50)=true)
 (h51a:W.findIn K (.ref ccShiftTongue) "row_beyond" = some (some (.ref a51)))
 (h51f:W.isFn K (.ref a51)=true)
 (h51l:K.lookup a51=some ⟨oc51,od51,.func (W.fnOf "row_beyond" "ShiftTongue.row_beyond" (aJ lG) (aH lG) (ak lG) .none kV51 dc51 pm51 an51 cd51 ct51),sl51⟩)
 (h51c:W.codeIn K cd51 "ShiftTongue.row_beyond" = true)
 (h51k:W.keepIn K (.ref a51)=true)
 (h52a:W.findIn K (.ref ccShiftTongue) "spell" = some (some (.ref a52)))
 (h52f:W.isFn K (.ref a52)=true)
 (h52l:K.lookup a52=some ⟨oc52,od52,.func (W.fnOf "spell" "ShiftTongue.spell" (aJ lD) (aH lD) (ak lD) (.ref dV52) kV52 dc52 pm52 an52 cd52 ct52),sl52⟩)
 (h52c:W.codeIn K cd52 "ShiftTongue.spell" = true)
 (h52k:W.keepIn K (.ref a52)=true)
 (h52d:K.lookup dV52=some ⟨ddc52,ddd52,.seq ([.int 0 ud52_0]:List Value).toArray ddn52,dsl52⟩)
 (h53a:W.findIn K (.ref ccShiftTongue) "sign_of" = some (some (.ref a53)))
 (h53f:W.isFn K (.ref a53)=true)
 (h53l:K.lookup a53=some ⟨oc53,od53,.func (W.fnOf "sign_of" "ShiftTongue.sign_of" (aJ lE) (aH lE) (ak lE) .none kV53 dc53 pm53 an53 cd53 ct53),sl53⟩)
 (h53c:W.codeIn K cd53 "ShiftTongue.sign_of" = true)
 (h53k:W.keepIn K (.ref a53)=true)
 (h54a:W.findIn K (.ref ccShiftTongue) "whole" = some (some (.ref a54)))
 (h54f:W.isFn K (.ref a54)=true)
 (h54l:K.lookup a54=some ⟨oc54,od54,.func (W.fnOf "whole" "ShiftTongue.whole" (aJ lC) (aH lC) (ak lC) (.ref dV54) kV54 dc54 pm54 an54 cd54 ct54),sl54⟩)
 (h54c:W.codeIn K cd54 "ShiftTongue.whole" = true)
 (h54k:W.keepIn K (.ref a54)=true)
 (h54d:K.lookup dV54=some ⟨ddc54,ddd54,.seq ([.int 0 ud54_0]:List Value).toArray ddn54,dsl54⟩)
 (h55a:W.findIn K (.ref ccShiftTongue) "fill" = some (some (.ref a55)))
 (h55f:W.isFn K (.ref a55)=true)
 (h55l:K.lookup a55=some ⟨oc55,od55,.func (W.fnOf "fill" "ShiftTongue.fill" (aJ lI) (aH lI) (ak lI) (.ref dV55) kV55 dc55 pm55 an55 cd55 ct55),sl55⟩)
 (h55c:W.codeIn K cd55 "ShiftTongue.fill" = true)
 (h55k:W.keepIn K (.ref a55)=true)
 (h55d:K.lookup dV55=some ⟨ddc55,ddd55,.seq ([.int 0 ud55_0]:List Value).toArray ddn55,dsl55⟩)
 (h56a:W.nsIn K mainGlobals "is_entry" = some (some (.ref a56)))
 (h56l:K.lookup a56=some ⟨oc56,od56,.func (W.fnOf "is_entry" "is_entry" (aJ kM) (aH kM) (ak kM) .none kV56 dc56 pm56 an56 cd56 ct56),sl56⟩)
 (h56c:W.codeIn K cd56 "is_entry" = true)
 (h56k:W.keepIn K (.ref a56)=true)
 (h57a:W.nsIn K mainGlobals "collide" = some (some (.ref a57)))
 (h57l:K.lookup a57=some ⟨oc57,od57,.func (W.fnOf "collide" "collide" (aJ kP) (aH kP) (ak kP) .none kV57 dc57 pm57 an57 cd57 ct57),sl57⟩)
 (h57c:W.codeIn K cd57 "collide" = true)
 (h57k:W.keepIn K (.ref a57)=true)
 (h58a:W.nsIn K mainGlobals "check_table" = some (some (.ref a58)))
 (h58l:K.lookup a58=some ⟨oc58,od58,.func (W.fnOf "check_table" "check_table" (aJ kQ) (aH kQ) (ak kQ) .none kV58 dc58 pm58 an58 cd58 ct58),sl58⟩)
 (h58c:W.codeIn K cd58 "check_table" = true)
 (h58k:W.keepIn K (.ref a58)=true)
 (xt:W.nsIn K mainGlobals "TableTongue" = some (some (.ref ccTableTongue)))
 (qV:W.plainGet K ccTableTongue Str.empty=true)
 (rp:W.hasDictIn K ccTableTongue=true)
 (rh:W.plainOver K ccTableTongue=true)
 (qO:W.findIn K (.ref ccTableTongue) "__setattr__" = some (some (.builtin "object.__setattr__")))
 (wY:W.makesIn K ccTableTongue=true)
 (xh:W.keepIn K (.ref ccTableTongue)=true)
 (wB:W.findIn K (.ref ccTableTongue) "__class__" = some (some (.builtin "object.__class__")))
 (wt:W.specialIn K (.builtin "object.__class__") "__get__" = some (some (.builtin "getset_descriptor.__get__")))
 (we:W.takesIn K (.builtin "object.__class__")=some true)
 (cw_TableTongue:W.mroIn K ccTableTongue (.type "object")=some true)
 (wJ:W.findIn K (.ref ccTableTongue) "rest_by_row" = some none)
 (wI:W.findIn K (.ref ccTableTongue) "row_by_sign" = some none)
 (wH:W.findIn K (.ref ccTableTongue) "sign_by_row" = some none)
 (h59a:W.findIn K (.ref ccTableTongue) "__init__" = some (some (.ref a59)))
 (h59f:W.isFn K (.ref a59)=true)
 (h59l:K.lookup a59=some ⟨oc59,od59,.func (W.fnOf "__init__" "TableTongue.__init__" (aJ lh) (aH lh) (ak lh) .none kV59 dc59 pm59 an59 cd59 ct59),sl59⟩)
 (h59c:W.codeIn K cd59 "TableTongue.__init__" = true)
 (h59k:W.keepIn K (.ref a59)=true)
 (h60a:W.findIn K (.ref ccTableTongue) "enter" = some (some (.ref a60)))
 (h60f:W.isFn K (.ref a60)=true)
 (h60l:K.lookup a60=some ⟨oc60,od60,.func (W.fnOf "enter" "TableTongue.enter" (aJ lj) (aH lj) (ak lj) .none kV60 dc60 pm60 an60 cd60 ct60),sl60⟩)
 (h60c:W.codeIn K cd60 "TableTongue.enter" = true)
 (h60k:W.keepIn K (.ref a60)=true)
 (h61a:W.findIn K (.ref ccTableTongue) "spell" = some (some (.ref a61)))
 (h61f:W.isFn K (.ref a61)=true)
 (h61l:K.lookup a61=some ⟨oc61,od61,.func (W.fnOf "spell" "TableTongue.spell" (aJ lg) (aH lg) (ak lg) (.ref dV61) kV61 dc61 pm61 an61 cd61 ct61),sl61⟩)
 (h61c:W.codeIn K cd61 "TableTongue.spell" = true)
 (h61k:W.keepIn K (.ref a61)=true)
 (h61d:K.lookup dV61=some ⟨ddc61,ddd61,.seq ([.int 0 ud61_0]:List Value).toArray ddn61,dsl61⟩)
 (h62a:W.findIn K (.ref ccTableTongue) "whole" = some (some (.ref a62)))
 (h62f:W.isFn K (.ref a62)=true)
 (h62l:K.lookup a62=some ⟨oc62,od62,.func (W.fnOf "whole" "TableTongue.whole" (aJ lf) (aH lf) (ak lf) (.ref dV62) kV62 dc62 pm62 an62 cd62 ct62),sl62⟩)
 (h62c:W.codeIn K cd62 "TableTongue.whole" = true)
 (h62k:W.keepIn K (.ref a62)=true)
 (h62d:K.lookup dV62=some ⟨ddc62,ddd62,.seq ([.int 0 ud62_0]:List Value).toArray ddn62,dsl62⟩)
 (h63a:W.findIn K (.ref ccTableTongue) "fill" = some (some (.ref a63)))
 (h63f:W.isFn K (.ref a63)=true)
 (h63l:K.lookup a63=some ⟨oc63,od63,.func (W.fnOf "fill" "TableTongue.fill" (aJ li) (aH li) (ak li) (.ref dV63) kV63 dc63 pm63 an63 cd63 ct63),sl63⟩)
 (h63c:W.codeIn K cd63 "TableTongue.fill" = true)
 (h63k:W.keepIn K (.ref a63)=true)
 (h63d:K.lookup dV63=some ⟨ddc63,ddd63,.seq ([.int 0 ud63_0]:List Value).toArray ddn63,dsl63⟩)
 (h64a:W.nsIn K mainGlobals "_law_drawn" = some (some (.ref a64)))
 (h64l:K.lookup a64=some ⟨oc64,od64,.func (W.fnOf "_law_drawn" "_law_drawn" (aJ km) (aH km) (ak km) .none kV64 dc64 pm64 an64 cd64 ct64),sl64⟩)
 (h64c:W.codeIn K cd64 "_law_drawn" = true)
 (h64k:W.keepIn K (.ref a64)=true)
 (h65a:W.nsIn K mainGlobals "_law_is_number" = some (some (.ref a65)))
 (h65l:K.lookup a65=some ⟨oc65,od65,.func (W.fnOf "_law_is_number" "_law_is_number" (aJ kj) (aH kj) (ak kj) .none kV65 dc65 pm65 an65 cd65 ct65),sl65⟩)
 (h65c:W.codeIn K cd65 "_law_is_number" = true)
 (h65k:W.keepIn K (.ref a65)=true)
 (h66a:W.nsIn K mainGlobals "_law_mixed" = some (some (.ref a66)))
 (h66l:K.lookup a66=some ⟨oc66,od66,.func (W.fnOf "_law_mixed" "_law_mixed" (aJ kg) (aH kg) (ak kg) .none kV66 dc66 pm66 an66 cd66 ct66),sl66⟩)
 (h66c:W.codeIn K cd66 "_law_mixed" = true)
 (h66k:W.keepIn K (.ref a66)=true)
 (h67a:W.nsIn K mainGlobals "_law_gapped" = some (some (.ref a67)))
 (h67l:K.lookup a67=some ⟨oc67,od67,.func (W.fnOf "_law_gapped" "_law_gapped" (aJ kl) (aH kl) (ak kl) .none kV67 dc67 pm67 an67 cd67 ct67),sl67⟩)
 (h67c:W.codeIn K cd67 "_law_gapped" = true)
 (h67k:W.keepIn K (.ref a67)=true)
 (h68a:W.nsIn K mainGlobals "_law_as_sign" = some (some (.ref a68)))
 (h68l:K.lookup a68=some ⟨oc68,od68,.func (W.fnOf "_law_as_sign" "_law_as_sign" (aJ ko) (aH ko) (ak ko) .none kV68 dc68 pm68 an68 cd68 ct68),sl68⟩)
 (h68c:W.codeIn K cd68 "_law_as_sign" = true)
 (h68k:W.keepIn K (.ref a68)=true)
 (h69a:W.nsIn K mainGlobals "_law_lists" = some (some (.ref a69)))
 (h69l:K.lookup a69=some ⟨oc69,od69,.func (W.fnOf "_law_lists" "_law_lists" (aJ iW) (aH iW) (ak iW) .none kV69 dc69 pm69 an69 cd69 ct69),sl69⟩)
 (h69c:W.codeIn K cd69 "_law_lists" = true)
 (h69k:W.keepIn K (.ref a69)=true)
 (h70a:W.nsIn K mainGlobals "_law_table" = some (some (.ref a70)))
 (h70l:K.lookup a70=some ⟨oc70,od70,.func (W.fnOf "_law_table" "_law_table" (aJ jp) (aH jp) (ak jp) .none kV70 dc70 pm70 an70 cd70 ct70),sl70⟩)
 (h70c:W.codeIn K cd70 "_law_table" = true)
 (h70k:W.keepIn K (.ref a70)=true)
 (h71a:W.nsIn K mainGlobals "_law_model" = some (some (.ref a71)))
 (h71l:K.lookup a71=some ⟨oc71,od71,.func (W.fnOf "_law_model" "_law_model" (aJ kf) (aH kf) (ak kf) .none kV71 dc71 pm71 an71 cd71 ct71),sl71⟩)
 (h71c:W.codeIn K cd71 "_law_model" = true)
 (h71k:W.keepIn K (.ref a71)=true)
 (h72a:W.nsIn K mainGlobals "_law_tongue" = some (some (.ref a72)))
 (h72l:K.lookup a72=some ⟨oc72,od72,.func (W.fnOf "_law_tongue" "_law_tongue" (aJ jo) (aH jo) (ak jo) .none kV72 dc72 pm72 an72 cd72 ct72),sl72⟩)
 (h72c:W.codeIn K cd72 "_law_tongue" = true)
 (h72k:W.keepIn K (.ref a72)=true)
 (h73a:W.nsIn K mainGlobals "_law_unit" = some (some (.ref a73)))
 (h73l:K.lookup a73=some ⟨oc73,od73,.func (W.fnOf "_law_unit" "_law_unit" (aJ j8) (aH j8) (ak j8) .none kV73 dc73 pm73 an73 cd73 ct73),sl73⟩)
 (h73c:W.codeIn K cd73 "_law_unit" = true)
 (h73k:W.keepIn K (.ref a73)=true)
 (h74a:W.nsIn K mainGlobals "_law_lead_row" = some (some (.ref a74)))
 (h74l:K.lookup a74=some ⟨oc74,od74,.func (W.fnOf "_law_lead_row" "_law_lead_row" (aJ kh) (aH kh) (ak kh) .none kV74 dc74 pm74 an74 cd74 ct74),sl74⟩)
 (h74c:W.codeIn K cd74 "_law_lead_row" = true)
 (h74k:W.keepIn K (.ref a74)=true)
 (h75a:W.nsIn K mainGlobals "_law_pair_row" = some (some (.ref a75)))
 (h75l:K.lookup a75=some ⟨oc75,od75,.func (W.fnOf "_law_pair_row" "_law_pair_row" (aJ kc) (aH kc) (ak kc) .none kV75 dc75 pm75 an75 cd75 ct75),sl75⟩)
 (h75c:W.codeIn K cd75 "_law_pair_row" = true)
 (h75k:W.keepIn K (.ref a75)=true)
 (h76a:W.nsIn K mainGlobals "_law_spell" = some (some (.ref a76)))
 (h76l:K.lookup a76=some ⟨oc76,od76,.func (W.fnOf "_law_spell" "_law_spell" (aJ j9) (aH j9) (ak j9) .none kV76 dc76 pm76 an76 cd76 ct76),sl76⟩)
 (h76c:W.codeIn K cd76 "_law_spell" = true)
 (h76k:W.keepIn K (.ref a76)=true)
 (h77a:W.nsIn K mainGlobals "_law_text" = some (some (.ref a77)))
 (h77l:K.lookup a77=some ⟨oc77,od77,.func (W.fnOf "_law_text" "_law_text" (aJ iz) (aH iz) (ak iz) .none kV77 dc77 pm77 an77 cd77 ct77),sl77⟩)
 (h77c:W.codeIn K cd77 "_law_text" = true)
 (h77k:W.keepIn K (.ref a77)=true)
 (h78a:W.nsIn K mainGlobals "_law_lead_begun" = some (some (.ref a78)))
 (h78l:K.lookup a78=some ⟨oc78,od78,.func (W.fnOf "_law_lead_begun" "_law_lead_begun" (aJ ki) (aH ki) (ak ki) .none kV78 dc78 pm78 an78 cd78 ct78),sl78⟩)
 (h78c:W.codeIn K cd78 "_law_lead_begun" = true)
 (h78k:W.keepIn K (.ref a78)=true)
 (h79a:W.nsIn K mainGlobals "_law_pair_begun" = some (some (.ref a79)))
 (h79l:K.lookup a79=some ⟨oc79,od79,.func (W.fnOf "_law_pair_begun" "_law_pair_begun" (aJ ke) (aH ke) (ak ke) .none kV79 dc79 pm79 an79 cd79 ct79),sl79⟩)
 (h79c:W.codeIn K cd79 "_law_pair_begun" = true)
 (h79k:W.keepIn K (.ref a79)=true)
 (h80a:W.nsIn K mainGlobals "_law_begun" = some (some (.ref a80)))
 (h80l:K.lookup a80=some ⟨oc80,od80,.func (W.fnOf "_law_begun" "_law_begun" (aJ jr) (aH jr) (ak jr) .none kV80 dc80 pm80 an80 cd80 ct80),sl80⟩)
 (h80c:W.codeIn K cd80 "_law_begun" = true)
 (h80k:W.keepIn K (.ref a80)=true)
 (h81a:W.nsIn K mainGlobals "_law_row" = some (some (.ref a81)))
 (h81l:K.lookup a81=some ⟨oc81,od81,.func (W.fnOf "_law_row" "_law_row" (aJ ka) (aH ka) (ak ka) .none kV81 dc81 pm81 an81 cd81 ct81),sl81⟩)
 (h81c:W.codeIn K cd81 "_law_row" = true)
 (h81k:W.keepIn K (.ref a81)=true)
 (h82a:W.nsIn K mainGlobals "_law_kinds" = some (some (.ref a82)))
 (h82l:K.lookup a82=some ⟨oc82,od82,.func (W.fnOf "_law_kinds" "_law_kinds" (aJ jq) (aH jq) (ak jq) .none kV82 dc82 pm82 an82 cd82 ct82),sl82⟩)
 (h82c:W.codeIn K cd82 "_law_kinds" = true)
 (h82k:W.keepIn K (.ref a82)=true)
 (h83a:W.nsIn K mainGlobals "_law_units" = some (some (.ref a83)))
 (h83l:K.lookup a83=some ⟨oc83,od83,.func (W.fnOf "_law_units" "_law_units" (aJ j7) (aH j7) (ak j7) .none kV83 dc83 pm83 an83 cd83 ct83),sl83⟩)
 (h83c:W.codeIn K cd83 "_law_units" = true)
 (h83k:W.keepIn K (.ref a83)=true)
 (h84a:W.nsIn K mainGlobals "_law_page" = some (some (.ref a84)))
 (h84l:K.lookup a84=some ⟨oc84,od84,.func (W.fnOf "_law_page" "_law_page" (aJ iV) (aH iV) (ak iV) .none kV84 dc84 pm84 an84 cd84 ct84),sl84⟩)
 (h84c:W.codeIn K cd84 "_law_page" = true)
 (h84k:W.keepIn K (.ref a84)=true)
 (h85a:W.nsIn K mainGlobals "law" = some (some (.ref a85)))
 (h85l:K.lookup a85=some ⟨oc85,od85,.func (W.fnOf "law" "law" (aJ jt) (aH jt) (ak jt) .none kV85 dc85 pm85 an85 cd85 ct85),sl85⟩)
 (h85c:W.codeIn K cd85 "law" = true)
 (h85k:W.keepIn K (.ref a85)=true)
 (hi_LeadTongue_unit:W.findIn K (.ref ccLeadTongue) "unit" = some (some (.ref a23)))
 (hi_LeadTongue_look:W.findIn K (.ref ccLeadTongue) "look" = some (some (.ref a27)))
 (hi_PairTongue_look:W.findIn K (.ref ccPairTongue) "look" = some (some (.ref a27)))
 (hi_ShiftTongue_unit:W.findIn K (.ref ccShiftTongue) "unit" = some (some (.ref a23)))
 (hi_ShiftTongue_look:W.findIn K (.ref ccShiftTongue) "look" = some (some (.ref a27)))
 (hi_TableTongue_unit:W.findIn K (.ref ccTableTongue) "unit" = some (some (.ref a23)))
 (hi_TableTongue_look:W.findIn K (.ref ccTableTongue) "look" = some (some (.ref a27)))
 (xv:W.nsIn K mainGlobals "Reader" = some (some (.ref ccReader)))
 (xE:W.specialIn K (.ref ccReader) "__getattribute__" = some (some (.builtin "type.__getattribute__")))
 (xF:W.readsIn K ccReader (.type "type")=true)
 (xH:W.findCls K (.ref ccReader) (.type "type") "__init__" = some (.val (.ref a9)))
 (k0:W.nsIn K mainGlobals "BITS" = some (some (.int 6 u0)))
 (k1:W.nsIn K mainGlobals "BYTE_BITS" = some (some (.int 8 u1)))
 (k2:W.nsIn K mainGlobals "FILLS" = some (some (.ref ta2)))
 (kl2:K.lookup ta2=some ⟨.type "dict",none,.dict es2 ep2,#[]⟩)
 (kv2:i9 es2.toList=some [(th2_0,("high" : Str),ta2_0),(th2_1,("low" : Str),ta2_1)])
 (ks2:(ta2 == sysModules)=false)
 (kh2_0:th2_0=hashStr w "high")
 (kh2_1:th2_1=hashStr w "low")
 (kl2_0:K.lookup ta2_0=some ⟨.type "tuple",none,.seq ti2_0 tn2_0,ts2_0⟩)
 (kv2_0:hV ti2_0.toList=some [ta2_0_0,ta2_0_1,ta2_0_2,ta2_0_3,ta2_0_4])
 (kz2_0:Nat.ble ti2_0.size 1000=true)
 (kl2_0_0:K.lookup ta2_0_0=some ⟨.type "tuple",none,.seq ti2_0_0 tn2_0_0,ts2_0_0⟩)
 (kv2_0_0:c6 ([]:List Int) ti2_0_0.toList=true)
 (kz2_0_0:Nat.ble ti2_0_0.size 1000=true)
 (kl2_0_1:K.lookup ta2_0_1=some ⟨.type "tuple",none,.seq ti2_0_1 tn2_0_1,ts2_0_1⟩)
 (kv2_0_1:c6 ([0]:List Int) ti2_0_1.toList=true)
 (kz2_0_1:Nat.ble ti2_0_1.size 1000=true)
 (kl2_0_2:K.lookup ta2_0_2=some ⟨.type "tuple",none,.seq ti2_0_2 tn2_0_2,ts2_0_2⟩)
 (kv2_0_2:c6 ([0,0]:List Int) ti2_0_2.toList=true)
 (kz2_0_2:Nat.ble ti2_0_2.size 1000=true)
 (kl2_0_3:K.lookup ta2_0_3=some ⟨.type "tuple",none,.seq ti2_0_3 tn2_0_3,ts2_0_3⟩)
 (kv2_0_3:c6 ([220,0]:List Int) ti2_0_3.toList=true)
 (kz2_0_3:Nat.ble ti2_0_3.size 1000=true)
 (kl2_0_4:K.lookup ta2_0_4=some ⟨.type "tuple",none,.seq ti2_0_4 tn2_0_4,ts2_0_4⟩)
 (kv2_0_4:c6 ([0,220,0]:List Int) ti2_0_4.toList=true)
 (kz2_0_4:Nat.ble ti2_0_4.size 1000=true)
 (kl2_1:K.lookup ta2_1=some ⟨.type "tuple",none,.seq ti2_1 tn2_1,ts2_1⟩)
 (kv2_1:hV ti2_1.toList=some [ta2_1_0,ta2_1_1,ta2_1_2,ta2_1_3,ta2_1_4])
 (kz2_1:Nat.ble ti2_1.size 1000=true)
 (kl2_1_0:K.lookup ta2_1_0=some ⟨.type "tuple",none,.seq ti2_1_0 tn2_1_0,ts2_1_0⟩)
 (kv2_1_0:c6 ([]:List Int) ti2_1_0.toList=true)
 (kz2_1_0:Nat.ble ti2_1_0.size 1000=true)
 (kl2_1_1:K.lookup ta2_1_1=some ⟨.type "tuple",none,.seq ti2_1_1 tn2_1_1,ts2_1_1⟩)
 (kv2_1_1:c6 ([0]:List Int) ti2_1_1.toList=true)
 (kz2_1_1:Nat.ble ti2_1_1.size 1000=true)
 (kl2_1_2:K.lookup ta2_1_2=some ⟨.type "tuple",none,.seq ti2_1_2 tn2_1_2,ts2_1_2⟩)
 (kv2_1_2:c6 ([220]:List Int) ti2_1_2.toList=true)
 (kz2_1_2:Nat.ble ti2_1_2.size 1000=true)
 (kl2_1_3:K.lookup ta2_1_3=some ⟨.type "tuple",none,.seq ti2_1_3 tn2_1_3,ts2_1_3⟩)
 (kv2_1_3:c6 ([0,0]:List Int) ti2_1_3.toList=true)
 (kz2_1_3:Nat.ble ti2_1_3.size 1000=true)
 (kl2_1_4:K.lookup ta2_1_4=some ⟨.type "tuple",none,.seq ti2_1_4 tn2_1_4,ts2_1_4⟩)
 (kv2_1_4:c6 ([0,220]:List Int) ti2_1_4.toList=true)
 (kz2_1_4:Nat.ble ti2_1_4.size 1000=true)
 (k3:W.nsIn K mainGlobals "FIRST_BEHIND" = some (some (.int 128 u3)))
 (k4:W.nsIn K mainGlobals "FIRST_HEAD" = some (some (.int 55296 u4)))
 (k5:W.nsIn K mainGlobals "FIRST_SEEN" = some (some (.int 61184 u5)))
 (k6:W.nsIn K mainGlobals "FIRST_TAIL" = some (some (.int 56320 u6)))
 (k7:W.nsIn K mainGlobals "FIRST_WIDE" = some (some (.int 65536 u7)))
 (k8:W.nsIn K mainGlobals "HALF_BITS" = some (some (.int 10 u8)))
 (k9:W.nsIn K mainGlobals "LAST_BEHIND" = some (some (.int 191 u9)))
 (k10:W.nsIn K mainGlobals "LAST_BYTE" = some (some (.int 255 u10)))
 (k11:W.nsIn K mainGlobals "LAST_SEEN" = some (some (.int 61439 u11)))
 (k12:W.nsIn K mainGlobals "LAST_SIGN" = some (some (.int 1114111 u12)))
 (k13:W.nsIn K mainGlobals "LAST_TAIL" = some (some (.int 57343 u13)))
 (k14:W.nsIn K mainGlobals "LEADS" = some (some (.ref ta14)))
 (kl14:K.lookup ta14=some ⟨.type "tuple",none,.seq ti14 tn14,ts14⟩)
 (kv14:c6 ([0,0,192,224,240]:List Int) ti14.toList=true)
 (kz14:Nat.ble ti14.size 1000=true)
 (k15:W.nsIn K mainGlobals "MOST_BYTES" = some (some (.int 6 u15)))
 (k16:W.nsIn K mainGlobals "MOST_SIGNS" = some (some (.int 250 u16)))
 (k17:W.nsIn K mainGlobals "MOST_TUPLES" = some (some (.int 64 u17)))
 (k18:W.nsIn K mainGlobals "SECONDS" = some (some (.ref ta18)))
 (kl18:K.lookup ta18=some ⟨.type "dict",none,.dict es18 ep18,#[]⟩)
 (kv18:iN es18.toList=some [(224,ta18_0),(237,ta18_1),(238,ta18_2),(240,ta18_3),(244,ta18_4)])
 (ks18:(ta18 == sysModules)=false)
 (kl18_0:K.lookup ta18_0=some ⟨.type "tuple",none,.seq ti18_0 tn18_0,ts18_0⟩)
 (kv18_0:c6 ([160,191]:List Int) ti18_0.toList=true)
 (kz18_0:Nat.ble ti18_0.size 1000=true)
 (kl18_1:K.lookup ta18_1=some ⟨.type "tuple",none,.seq ti18_1 tn18_1,ts18_1⟩)
 (kv18_1:c6 ([128,159]:List Int) ti18_1.toList=true)
 (kz18_1:Nat.ble ti18_1.size 1000=true)
 (kl18_2:K.lookup ta18_2=some ⟨.type "tuple",none,.seq ti18_2 tn18_2,ts18_2⟩)
 (kv18_2:c6 ([128,187]:List Int) ti18_2.toList=true)
 (kz18_2:Nat.ble ti18_2.size 1000=true)
 (kl18_3:K.lookup ta18_3=some ⟨.type "tuple",none,.seq ti18_3 tn18_3,ts18_3⟩)
 (kv18_3:c6 ([144,191]:List Int) ti18_3.toList=true)
 (kz18_3:Nat.ble ti18_3.size 1000=true)
 (kl18_4:K.lookup ta18_4=some ⟨.type "tuple",none,.seq ti18_4 tn18_4,ts18_4⟩)
 (kv18_4:c6 ([128,143]:List Int) ti18_4.toList=true)
 (kz18_4:Nat.ble ti18_4.size 1000=true)
 (k19:W.nsIn K mainGlobals "SHIFTS" = some (some (.ref ta19)))
 (kl19:K.lookup ta19=some ⟨.type "tuple",none,.seq ti19 tn19,ts19⟩)
 (kv19:c6 ([254,255]:List Int) ti19.toList=true)
 (kz19:Nat.ble ti19.size 1000=true)
 (z0:W.nsIn K mainGlobals "all" = some none)
 (z1:W.nsIn K mainGlobals "any" = some none)
 (z2:W.nsIn K mainGlobals "bool" = some none)
 (z3:W.nsIn K mainGlobals "enumerate" = some none)
 (z4:W.nsIn K mainGlobals "int" = some none)
 (z5:W.nsIn K mainGlobals "isinstance" = some none)
 (z6:W.nsIn K mainGlobals "len" = some none)
 (z7:W.nsIn K mainGlobals "list" = some none)
 (z8:W.nsIn K mainGlobals "range" = some none)
 (z9:W.nsIn K mainGlobals "reversed" = some none)
 (z10:W.nsIn K mainGlobals "set" = some none)
 (z11:W.nsIn K mainGlobals "str" = some none)
 (z12:W.nsIn K mainGlobals "sum" = some none)
 (z13:W.nsIn K mainGlobals "tuple" = some none)
 (z14:W.nsIn K mainGlobals "zip" = some none):∃t,Txt w K mg t:=by
  have F0:=aZ (st:=kK) h0l h0c h0k;have b0:=F0.binds (ps:=["thing"]) (λ_ _ _ _ _ _=>bP λ_=>rfl);have F1:=aZ (st:=kN) h1l h1c h1k;have b1:=F1.binds (ps:=["thing"]) (λ_ _ _ _ _ _=>bP λ_=>rfl);have F2:=aZ (st:=kL) h2l h2c h2k;have b2:=F2.binds (ps:=["number"]) (λ_ _ _ _ _ _=>bP λ_=>rfl);have F3:=aZ (st:=kH) h3l h3c h3k;have b3:=F3.binds (ps:=["number"]) (λ_ _ _ _ _ _=>bP λ_=>rfl);have F4:=aZ (st:=kJ) h4l h4c h4k;have b4:=F4.binds (ps:=["thing"]) (λ_ _ _ _ _ _=>bP λ_=>rfl);have F5:=aZ (st:=kI) h5l h5c h5k;have b5:=F5.binds (ps:=["thing"]) (λ_ _ _ _ _ _=>bP λ_=>rfl);have F6:=aZ (st:=ju) h6l h6c h6k;have b6:=F6.binds (ps:=["thing"]) (λ_ _ _ _ _ _=>bP λ_=>rfl);have F7:=dS (st:=lT) h7l h7c h7k h7d;have bd7:=F7.binds (ps:=["self", "sign"]) (ds:=[.int 65533 ud7_0]) (λ_ _ _ _ _ _ _=>T8 λ_=>⟨_,rfl,rfl⟩);have b7:=F7.binds (ps:=["self", "sign"]) (ds:=[]) (λ_ _ _ _ _ _ _=>T9 λ_ _=>⟨_,rfl,rfl⟩);have F8:=aZ (st:=lS) h8l h8c h8k;have b8:=F8.binds (ps:=["self", "row"]) (λ_ _ _ _ _ _=>bF λ_ _=>rfl);have F9:=dS (st:=lO) h9l h9c h9k h9d;have bd9:=F9.binds (ps:=["self", "tongue", "place"]) (ds:=[.int 0 ud9_0]) (λ_ _ _ _ _ _ _=>T9 λ_ _=>⟨_,rfl,rfl⟩);have b9:=F9.binds (ps:=["self", "tongue", "place"]) (ds:=[]) (λ_ _ _ _ _ _ _=>Ua λ_ _ _=>⟨_,rfl,rfl⟩);have F10:=dS (st:=mh) h10l h10c h10k h10d;have bd10:=F10.binds (ps:=["self", "tongue", "way", "place"]) (ds:=[.int 0 ud10_0]) (λ_ _ _ _ _ _ _=>Ua λ_ _ _=>⟨_,rfl,rfl⟩);have b10:=F10.binds (ps:=["self", "tongue", "way", "place"]) (ds:=[]) (λ_ _ _ _ _ _ _=>Ub λ_ _ _ _=>⟨_,rfl,rfl⟩);have F11:=aZ (st:=mf) h11l h11c h11k;have b11:=F11.binds (ps:=["self", "length", "kind"]) (λ_ _ _ _ _ _=>cC λ_ _ _=>rfl);have F12:=aZ (st:=lQ) h12l h12c h12k;have b12:=F12.binds (ps:=["self"]) (λ_ _ _ _ _ _=>bP λ_=>rfl);have F13:=aZ (st:=lP) h13l h13c h13k;have b13:=F13.binds (ps:=["self", "row"]) (λ_ _ _ _ _ _=>bF λ_ _=>rfl);have F14:=aZ (st:=lR) h14l h14c h14k;have b14:=F14.binds (ps:=["self"]) (λ_ _ _ _ _ _=>bP λ_=>rfl);have F15:=aZ (st:=lJ) h15l h15c h15k;have b15:=F15.binds (ps:=["self", "byte"]) (λ_ _ _ _ _ _=>bF λ_ _=>rfl);have F16:=aZ (st:=lN) h16l h16c h16k;have b16:=F16.binds (ps:=["self"]) (λ_ _ _ _ _ _=>bP λ_=>rfl);have F17:=aZ (st:=lM) h17l h17c h17k;have b17:=F17.binds (ps:=["self"]) (λ_ _ _ _ _ _=>bP λ_=>rfl);have F18:=aZ (st:=lK) h18l h18c h18k;have b18:=F18.binds (ps:=["self", "length", "kind"]) (λ_ _ _ _ _ _=>cC λ_ _ _=>rfl);have F19:=aZ (st:=kz) h19l h19c h19k;have b19:=F19.binds (ps:=["tongue", "row"]) (λ_ _ _ _ _ _=>bF λ_ _=>rfl);have F20:=aZ (st:=kR) h20l h20c h20k;have b20:=F20.binds (ps:=["number", "bits"]) (λ_ _ _ _ _ _=>bF λ_ _=>rfl);have F21:=aZ (st:=kD) h21l h21c h21k;have b21:=F21.binds (ps:=["number", "bits", "many"]) (λ_ _ _ _ _ _=>cC λ_ _ _=>rfl);have F22:=aZ (st:=ku) h22l h22c h22k;have b22:=F22.binds (ps:=["parts", "bits"]) (λ_ _ _ _ _ _=>bF λ_ _=>rfl);have F23:=aZ (st:=kW) h23l h23c h23k;have b23:=F23.binds (ps:=["self"]) (λ_ _ _ _ _ _=>bP λ_=>rfl);have F24:=dS (st:=kX) h24l h24c h24k h24d;have bd24:=F24.binds (ps:=["self", "sign", "page"]) (ds:=[.int 0 ud24_0]) (λ_ _ _ _ _ _ _=>T9 λ_ _=>⟨_,rfl,rfl⟩);have b24:=F24.binds (ps:=["self", "sign", "page"]) (ds:=[]) (λ_ _ _ _ _ _ _=>Ua λ_ _ _=>⟨_,rfl,rfl⟩);have F25:=dS (st:=kU) h25l h25c h25k h25d;have bd25:=F25.binds (ps:=["self", "row", "page"]) (ds:=[.int 0 ud25_0]) (λ_ _ _ _ _ _ _=>T9 λ_ _=>⟨_,rfl,rfl⟩);have b25:=F25.binds (ps:=["self", "row", "page"]) (ds:=[]) (λ_ _ _ _ _ _ _=>Ua λ_ _ _=>⟨_,rfl,rfl⟩);have F26:=dS (st:=kZ) h26l h26c h26k h26d;have bd26:=F26.binds (ps:=["self", "row", "page"]) (ds:=[.int 0 ud26_0]) (λ_ _ _ _ _ _ _=>T9 λ_ _=>⟨_,rfl,rfl⟩);have b26:=F26.binds (ps:=["self", "row", "page"]) (ds:=[]) (λ_ _ _ _ _ _ _=>Ua λ_ _ _=>⟨_,rfl,rfl⟩);have F27:=dS (st:=kY) h27l h27c h27k h27d;have bd27:=F27.binds (ps:=["self", "begun", "page"]) (ds:=[.int 0 ud27_0]) (λ_ _ _ _ _ _ _=>T9 λ_ _=>⟨_,rfl,rfl⟩);have b27:=F27.binds (ps:=["self", "begun", "page"]) (ds:=[]) (λ_ _ _ _ _ _ _=>Ua λ_ _ _=>⟨_,rfl,rfl⟩);have F28:=aZ (st:=kF) h28l h28c h28k;have b28:=F28.binds (ps:=["sign"]) (λ_ _ _ _ _ _=>bP λ_=>rfl);have F29:=aZ (st:=js) h29l h29c h29k;have b29:=F29.binds (ps:=["sign"]) (λ_ _ _ _ _ _=>bP λ_=>rfl);have F30:=aZ (st:=kG) h30l h30c h30k;have b30:=F30.binds (ps:=["first"]) (λ_ _ _ _ _ _=>bP λ_=>rfl);have F31:=aZ (st:=kS) h31l h31c h31k;have b31:=F31.binds (ps:=["row", "place"]) (λ_ _ _ _ _ _=>bF λ_ _=>rfl);have F32:=aZ (st:=kO) h32l h32c h32k;have b32:=F32.binds (ps:=["row"]) (λ_ _ _ _ _ _=>bP λ_=>rfl);have F33:=aZ (st:=kE) h33l h33c h33k;have b33:=F33.binds (ps:=["row"]) (λ_ _ _ _ _ _=>bP λ_=>rfl);have F34:=aZ (st:=jv) h34l h34c h34k;have b34:=F34.binds (ps:=["row"]) (λ_ _ _ _ _ _=>bP λ_=>rfl);have F35:=dS (st:=me) h35l h35c h35k h35d;have bd35:=F35.binds (ps:=["self", "sign", "page"]) (ds:=[.int 0 ud35_0]) (λ_ _ _ _ _ _ _=>T9 λ_ _=>⟨_,rfl,rfl⟩);have b35:=F35.binds (ps:=["self", "sign", "page"]) (ds:=[]) (λ_ _ _ _ _ _ _=>Ua λ_ _ _=>⟨_,rfl,rfl⟩);have F36:=dS (st:=ma) h36l h36c h36k h36d;have bd36:=F36.binds (ps:=["self", "row", "page"]) (ds:=[.int 0 ud36_0]) (λ_ _ _ _ _ _ _=>T9 λ_ _=>⟨_,rfl,rfl⟩);have b36:=F36.binds (ps:=["self", "row", "page"]) (ds:=[]) (λ_ _ _ _ _ _ _=>Ua λ_ _ _=>⟨_,rfl,rfl⟩);have F37:=dS (st:=jx) h37l h37c h37k h37d;have bd37:=F37.binds (ps:=["self", "row", "page"]) (ds:=[.int 0 ud37_0]) (λ_ _ _ _ _ _ _=>T9 λ_ _=>⟨_,rfl,rfl⟩);have b37:=F37.binds (ps:=["self", "row", "page"]) (ds:=[]) (λ_ _ _ _ _ _ _=>Ua λ_ _ _=>⟨_,rfl,rfl⟩);have F38:=aZ (st:=kr) h38l h38c h38k;have b38:=F38.binds (ps:=["sign"]) (λ_ _ _ _ _ _=>bP λ_=>rfl);have F39:=aZ (st:=kx) h39l h39c h39k;have b39:=F39.binds (ps:=["units"]) (λ_ _ _ _ _ _=>bP λ_=>rfl);have F40:=dS (st:=lZ) h40l h40c h40k h40d;have bd40:=F40.binds (ps:=["self", "order"]) (ds:=[.str "high" ud40_0]) (λ_ _ _ _ _ _ _=>T8 λ_=>⟨_,rfl,rfl⟩);have b40:=F40.binds (ps:=["self", "order"]) (ds:=[]) (λ_ _ _ _ _ _ _=>T9 λ_ _=>⟨_,rfl,rfl⟩);have F41:=aZ (st:=lV) h41l h41c h41k;have b41:=F41.binds (ps:=["self"]) (λ_ _ _ _ _ _=>bP λ_=>rfl);have F42:=aZ (st:=lW) h42l h42c h42k;have b42:=F42.binds (ps:=["self", "pair"]) (λ_ _ _ _ _ _=>bF λ_ _=>rfl);have F43:=aZ (st:=lY) h43l h43c h43k;have b43:=F43.binds (ps:=["self", "units"]) (λ_ _ _ _ _ _=>bF λ_ _=>rfl);have F44:=aZ (st:=jw) h44l h44c h44k;have b44:=F44.binds (ps:=["self", "row"]) (λ_ _ _ _ _ _=>bF λ_ _=>rfl);have F45:=dS (st:=lX) h45l h45c h45k h45d;have bd45:=F45.binds (ps:=["self", "sign", "page"]) (ds:=[.int 0 ud45_0]) (λ_ _ _ _ _ _ _=>T9 λ_ _=>⟨_,rfl,rfl⟩);have b45:=F45.binds (ps:=["self", "sign", "page"]) (ds:=[]) (λ_ _ _ _ _ _ _=>Ua λ_ _ _=>⟨_,rfl,rfl⟩);have F46:=dS (st:=lU) h46l h46c h46k h46d;have bd46:=F46.binds (ps:=["self", "row", "page"]) (ds:=[.int 0 ud46_0]) (λ_ _ _ _ _ _ _=>T9 λ_ _=>⟨_,rfl,rfl⟩);have b46:=F46.binds (ps:=["self", "row", "page"]) (ds:=[]) (λ_ _ _ _ _ _ _=>Ua λ_ _ _=>⟨_,rfl,rfl⟩);have F47:=dS (st:=l7) h47l h47c h47k h47d;have bd47:=F47.binds (ps:=["self", "row", "page"]) (ds:=[.int 0 ud47_0]) (λ_ _ _ _ _ _ _=>T9 λ_ _=>⟨_,rfl,rfl⟩);have b47:=F47.binds (ps:=["self", "row", "page"]) (ds:=[]) (λ_ _ _ _ _ _ _=>Ua λ_ _ _=>⟨_,rfl,rfl⟩);have F48:=aZ (st:=kT) h48l h48c h48k;have b48:=F48.binds (ps:=["one", "other"]) (λ_ _ _ _ _ _=>bF λ_ _=>rfl);have F49:=aZ (st:=ky) h49l h49c h49k;have b49:=F49.binds (ps:=["signs", "which"]) (λ_ _ _ _ _ _=>bF λ_ _=>rfl);have F50:=aZ (st:=lH) h50l h50c h50k;have b50:=F50.binds (ps:=["self", "first", "second"]) (λ_ _ _ _ _ _=>cC λ_ _ _=>rfl);have F51:=aZ (st:=lG) h51l h51c h51k;have b51:=F51.binds (ps:=["self", "page"]) (λ_ _ _ _ _ _=>bF λ_ _=>rfl);have F52:=dS (st:=lD) h52l h52c h52k h52d;have bd52:=F52.binds (ps:=["self", "sign", "page"]) (ds:=[.int 0 ud52_0]) (λ_ _ _ _ _ _ _=>T9 λ_ _=>⟨_,rfl,rfl⟩);have b52:=F52.binds (ps:=["self", "sign", "page"]) (ds:=[]) (λ_ _ _ _ _ _ _=>Ua λ_ _ _=>⟨_,rfl,rfl⟩);have F53:=aZ (st:=lE) h53l h53c h53k;have b53:=F53.binds (ps:=["self", "byte", "page"]) (λ_ _ _ _ _ _=>cC λ_ _ _=>rfl);have F54:=dS (st:=lC) h54l h54c h54k h54d;have bd54:=F54.binds (ps:=["self", "row", "page"]) (ds:=[.int 0 ud54_0]) (λ_ _ _ _ _ _ _=>T9 λ_ _=>⟨_,rfl,rfl⟩);have b54:=F54.binds (ps:=["self", "row", "page"]) (ds:=[]) (λ_ _ _ _ _ _ _=>Ua λ_ _ _=>⟨_,rfl,rfl⟩);have F55:=dS (st:=lI) h55l h55c h55k h55d;have bd55:=F55.binds (ps:=["self", "row", "page"]) (ds:=[.int 0 ud55_0]) (λ_ _ _ _ _ _ _=>T9 λ_ _=>⟨_,rfl,rfl⟩);have b55:=F55.binds (ps:=["self", "row", "page"]) (ds:=[]) (λ_ _ _ _ _ _ _=>Ua λ_ _ _=>⟨_,rfl,rfl⟩);have F56:=aZ (st:=kM) h56l h56c h56k;have b56:=F56.binds (ps:=["thing"]) (λ_ _ _ _ _ _=>bP λ_=>rfl);have F57:=aZ (st:=kP) h57l h57c h57k;have b57:=F57.binds (ps:=["one", "other"]) (λ_ _ _ _ _ _=>bF λ_ _=>rfl);have F58:=aZ (st:=kQ) h58l h58c h58k;have b58:=F58.binds (ps:=["rows"]) (λ_ _ _ _ _ _=>bP λ_=>rfl);have F59:=aZ (st:=lh) h59l h59c h59k;have b59:=F59.binds (ps:=["self", "rows"]) (λ_ _ _ _ _ _=>bF λ_ _=>rfl);have F60:=aZ (st:=lj) h60l h60c h60k;have b60:=F60.binds (ps:=["self", "sign", "row"]) (λ_ _ _ _ _ _=>cC λ_ _ _=>rfl);have F61:=dS (st:=lg) h61l h61c h61k h61d;have bd61:=F61.binds (ps:=["self", "sign", "page"]) (ds:=[.int 0 ud61_0]) (λ_ _ _ _ _ _ _=>T9 λ_ _=>⟨_,rfl,rfl⟩);have b61:=F61.binds (ps:=["self", "sign", "page"]) (ds:=[]) (λ_ _ _ _ _ _ _=>Ua λ_ _ _=>⟨_,rfl,rfl⟩);have F62:=dS (st:=lf) h62l h62c h62k h62d;have bd62:=F62.binds (ps:=["self", "row", "page"]) (ds:=[.int 0 ud62_0]) (λ_ _ _ _ _ _ _=>T9 λ_ _=>⟨_,rfl,rfl⟩);have b62:=F62.binds (ps:=["self", "row", "page"]) (ds:=[]) (λ_ _ _ _ _ _ _=>Ua λ_ _ _=>⟨_,rfl,rfl⟩);have F63:=dS (st:=li) h63l h63c h63k h63d;have bd63:=F63.binds (ps:=["self", "row", "page"]) (ds:=[.int 0 ud63_0]) (λ_ _ _ _ _ _ _=>T9 λ_ _=>⟨_,rfl,rfl⟩);have b63:=F63.binds (ps:=["self", "row", "page"]) (ds:=[]) (λ_ _ _ _ _ _ _=>Ua λ_ _ _=>⟨_,rfl,rfl⟩);have F64:=aZ (st:=km) h64l h64c h64k;have b64:=F64.binds (ps:=["_law_script", "_law_at"]) (λ_ _ _ _ _ _=>bF λ_ _=>rfl);have F65:=aZ (st:=kj) h65l h65c h65k;have b65:=F65.binds (ps:=["_law_found"]) (λ_ _ _ _ _ _=>bP λ_=>rfl);have F66:=aZ (st:=kg) h66l h66c h66k;have b66:=F66.binds (ps:=["_law_number", "_law_k"]) (λ_ _ _ _ _ _=>bF λ_ _=>rfl);have F67:=aZ (st:=kl) h67l h67c h67k;have b67:=F67.binds (ps:=["_law_number"]) (λ_ _ _ _ _ _=>bP λ_=>rfl);have F68:=aZ (st:=ko) h68l h68c h68k;have b68:=F68.binds (ps:=["_law_number"]) (λ_ _ _ _ _ _=>bP λ_=>rfl);have F69:=aZ (st:=iW) h69l h69c h69k;have b69:=F69.binds (ps:=["_law_number"]) (λ_ _ _ _ _ _=>bP λ_=>rfl);have F70:=aZ (st:=jp) h70l h70c h70k;have b70:=F70.binds (ps:=["_law_number"]) (λ_ _ _ _ _ _=>bP λ_=>rfl);have F71:=aZ (st:=kf) h71l h71c h71k;have b71:=F71.binds (ps:=["_law_cell"]) (λ_ _ _ _ _ _=>bP λ_=>rfl);have F72:=aZ (st:=jo) h72l h72c h72k;have b72:=F72.binds (ps:=["_law_model_here"]) (λ_ _ _ _ _ _=>bP λ_=>rfl);have F73:=aZ (st:=j8) h73l h73c h73k;have b73:=F73.binds (ps:=["_law_model_here"]) (λ_ _ _ _ _ _=>bP λ_=>rfl);have F74:=aZ (st:=kh) h74l h74c h74k;have b74:=F74.binds (ps:=["_law_sign"]) (λ_ _ _ _ _ _=>bP λ_=>rfl);have F75:=aZ (st:=kc) h75l h75c h75k;have b75:=F75.binds (ps:=["_law_sign", "_law_word"]) (λ_ _ _ _ _ _=>bF λ_ _=>rfl);have F76:=aZ (st:=j9) h76l h76c h76k;have b76:=F76.binds (ps:=["_law_model_here", "_law_sign", "_law_page_here"]) (λ_ _ _ _ _ _=>cC λ_ _ _=>rfl);have F77:=aZ (st:=iz) h77l h77c h77k;have b77:=F77.binds (ps:=["_law_model_here", "_law_cells"]) (λ_ _ _ _ _ _=>bF λ_ _=>rfl);have F78:=aZ (st:=ki) h78l h78c h78k;have b78:=F78.binds (ps:=["_law_kept"]) (λ_ _ _ _ _ _=>bP λ_=>rfl);have F79:=aZ (st:=ke) h79l h79c h79k;have b79:=F79.binds (ps:=["_law_kept", "_law_word"]) (λ_ _ _ _ _ _=>bF λ_ _=>rfl);have F80:=aZ (st:=jr) h80l h80c h80k;have b80:=F80.binds (ps:=["_law_model_here", "_law_kept", "_law_page_here"]) (λ_ _ _ _ _ _=>cC λ_ _ _=>rfl);have F81:=aZ (st:=ka) h81l h81c h81k;have b81:=F81.binds (ps:=["_law_model_here", "_law_cells"]) (λ_ _ _ _ _ _=>bF λ_ _=>rfl);have F82:=aZ (st:=jq) h82l h82c h82k;have b82:=F82.binds (ps:=["_law_told", "_law_row_here"]) (λ_ _ _ _ _ _=>bF λ_ _=>rfl);have F83:=aZ (st:=j7) h83l h83c h83k;have b83:=F83.binds (ps:=["_law_model_here", "_law_part", "_law_page_here"]) (λ_ _ _ _ _ _=>cC λ_ _ _=>rfl);have F84:=aZ (st:=iV) h84l h84c h84k;have b84:=F84.binds (ps:=["_law_model_here", "_law_word", "_law_part", "_law_thing", "_law_page_here", "_law_next_unit"]) (λ_ _ _ _ _ _=>Mg λ_ _ _ _ _ _=>rfl);have F85:=aZ (st:=jt) h85l h85c h85k;have b85:=F85.binds (ps:=["_law_script"]) (λ_ _ _ _ _ _=>bP λ_=>rfl)
  exact⟨⟨a0,_,a1,_,a2,_,a3,_,a4,_,a5,_,a6,_,a7,_,ud7_0,a8,_,a9,_,ud9_0,a10,_,ud10_0,a11,_,a12,_,a13,_,a14,_,a15,_,a16,_,a17,_,a18,_,a19,_,a20,_,a21,_,a22,_,a23,_,a24,_,ud24_0,a25,_,ud25_0,a26,_,ud26_0,a27,_,ud27_0,a28,_,a29,_,a30,_,a31,_,a32,_,a33,_,a34,_,a35,_,ud35_0,a36,_,ud36_0,a37,_,ud37_0,a38,_,a39,_,a40,_,ud40_0,a41,_,a42,_,a43,_,a44,_,a45,_,ud45_0,a46,_,ud46_0,a47,_,ud47_0,a48,_,a49,_,a50,_,a51,_,a52,_,ud52_0,a53,_,a54,_,ud54_0,a55,_,ud55_0,a56,_,a57,_,a58,_,a59,_,a60,_,a61,_,ud61_0,a62,_,ud62_0,a63,_,ud63_0,a64,_,a65,_,a66,_,a67,_,a68,_,a69,_,a70,_,a71,_,a72,_,a73,_,a74,_,a75,_,a76,_,a77,_,a78,_,a79,_,a80,_,a81,_,a82,_,a83,_,a84,_,a85,_,ccPut,ccGoingReader,ccTongue,ccLeadTongue,ccPairTongue,ccShiftTongue,ccTableTongue,ccReader,u0,u1,ta2,th2_0,ta2_0,ta2_0_0,ta2_0_1,ta2_0_2,ta2_0_3,ta2_0_4,th2_1,ta2_1,ta2_1_0,ta2_1_1,ta2_1_2,ta2_1_3,ta2_1_4,u3,u4,u5,u6,u7,u8,u9,u10,u11,u12,u13,ta14,u15,u16,u17,ta18,ta18_0,ta18_1,ta18_2,ta18_3,ta18_4,ta19⟩,⟨F0,b0,W.mg_of X G h0a,F1,b1,W.mg_of X G h1a,F2,b2,W.mg_of X G h2a,F3,b3,W.mg_of X G h3a,F4,b4,W.mg_of X G h4a,F5,b5,W.mg_of X G h5a,F6,b6,W.mg_of X G h6a,F7,bd7,b7,F8,b8,F9,bd9,b9,F10,bd10,b10,F11,b11,F12,b12,F13,b13,F14,b14,F15,b15,F16,b16,F17,b17,F18,b18,F19,b19,W.mg_of X G h19a,F20,b20,W.mg_of X G h20a,F21,b21,W.mg_of X G h21a,F22,b22,W.mg_of X G h22a,F23,b23,F24,bd24,b24,F25,bd25,b25,F26,bd26,b26,F27,bd27,b27,F28,b28,W.mg_of X G h28a,F29,b29,W.mg_of X G h29a,F30,b30,W.mg_of X G h30a,F31,b31,W.mg_of X G h31a,F32,b32,W.mg_of X G h32a,F33,b33,W.mg_of X G h33a,F34,b34,W.mg_of X G h34a,F35,bd35,b35,F36,bd36,b36,F37,bd37,b37,F38,b38,W.mg_of X G h38a,F39,b39,W.mg_of X G h39a,F40,bd40,b40,F41,b41,F42,b42,F43,b43,F44,b44,F45,bd45,b45,F46,bd46,b46,F47,bd47,b47,F48,b48,W.mg_of X G h48a,F49,b49,W.mg_of X G h49a,F50,b50,F51,b51,F52,bd52,b52,F53,b53,F54,bd54,b54,F55,bd55,b55,F56,b56,W.mg_of X G h56a,F57,b57,W.mg_of X G h57a,F58,b58,W.mg_of X G h58a,F59,b59,F60,b60,F61,bd61,b61,F62,bd62,b62,F63,bd63,b63,F64,b64,W.mg_of X G h64a,F65,b65,W.mg_of X G h65a,F66,b66,W.mg_of X G h66a,F67,b67,W.mg_of X G h67a,F68,b68,W.mg_of X G h68a,F69,b69,W.mg_of X G h69a,F70,b70,W.mg_of X G h70a,F71,b71,W.mg_of X G h71a,F72,b72,W.mg_of X G h72a,F73,b73,W.mg_of X G h73a,F74,b74,W.mg_of X G h74a,F75,b75,W.mg_of X G h75a,F76,b76,W.mg_of X G h76a,F77,b77,W.mg_of X G h77a,F78,b78,W.mg_of X G h78a,F79,b79,W.mg_of X G h79a,F80,b80,W.mg_of X G h80a,F81,b81,W.mg_of X G h81a,F82,b82,W.mg_of X G h82a,F83,b83,W.mg_of X G h83a,F84,b84,W.mg_of X G h84a,F85,b85,W.mg_of X G h85a,W.mg_of X G xw,⟨qX,rA,rj,qQ⟩,⟨w5,h7a,h7f,xj⟩,⟨h8a,h8f,h8k⟩,wN,λH a dx fs e=>.ins e ⟨qX,rA,rj,qQ⟩ wD wv wg cw_Put,W.mg_of X G xz,⟨q8,rD,rn,qT⟩,⟨xa,h10a,h10f,xn⟩,⟨h11a,h11f,h11k⟩,⟨h12a,h12f,h12k⟩,⟨h13a,h13f,h13k⟩,⟨h14a,h14f,h14k⟩,⟨h15a,h15f,h15k⟩,⟨h16a,h16f,h16k⟩,⟨h17a,h17f,h17k⟩,⟨h18a,h18f,h18k⟩,wW,wV,wU,wT,wS,wR,wQ,wP,λH a dx fs e=>.ins e ⟨q8,rD,rn,qT⟩ wG wz wn cw_GoingReader,W.mg_of X G xr,⟨qU,ro,rg,qN⟩,⟨wX,xo,xg⟩,⟨h23a,h23f,h23k⟩,⟨h24a,h24f,h24k⟩,⟨h25a,h25f,h25k⟩,⟨h26a,h26f,h26k⟩,⟨h27a,h27f,h27k⟩,λH a dx fs e=>.ins e ⟨qU,ro,rg,qN⟩ wA wr wc cw_Tongue,W.mg_of X G xy,⟨qZ,rC,rm,qS⟩,⟨w9,xp,xm⟩,⟨h35a,h35f,h35k⟩,⟨h36a,h36f,h36k⟩,⟨h37a,h37f,h37k⟩,⟨hi_LeadTongue_unit,h23f,h23k⟩,⟨hi_LeadTongue_look,h27f,h27k⟩,λH a dx fs e=>.ins e ⟨qZ,rC,rm,qS⟩ wF wx wl cw_LeadTongue,W.mg_of X G xx,⟨qY,rB,rk,qR⟩,⟨w6,h40a,h40f,xk⟩,⟨h41a,h41f,h41k⟩,⟨h42a,h42f,h42k⟩,⟨h43a,h43f,h43k⟩,⟨h44a,h44f,h44k⟩,⟨h45a,h45f,h45k⟩,⟨h46a,h46f,h46k⟩,⟨h47a,h47f,h47k⟩,⟨hi_PairTongue_look,h27f,h27k⟩,wO,λH a dx fs e=>.ins e ⟨qY,rB,rk,qR⟩ wE ww wj cw_PairTongue,W.mg_of X G xu,⟨qW,rq,ri,qP⟩,⟨wZ,h50a,h50f,xi⟩,⟨h51a,h51f,h51k⟩,⟨h52a,h52f,h52k⟩,⟨h53a,h53f,h53k⟩,⟨h54a,h54f,h54k⟩,⟨h55a,h55f,h55k⟩,⟨hi_ShiftTongue_unit,h23f,h23k⟩,⟨hi_ShiftTongue_look,h27f,h27k⟩,wM,wL,wK,λH a dx fs e=>.ins e ⟨qW,rq,ri,qP⟩ wC wu wf cw_ShiftTongue,W.mg_of X G xt,⟨qV,rp,rh,qO⟩,⟨wY,h59a,h59f,xh⟩,⟨h60a,h60f,h60k⟩,⟨h61a,h61f,h61k⟩,⟨h62a,h62f,h62k⟩,⟨h63a,h63f,h63k⟩,⟨hi_TableTongue_unit,h23f,h23k⟩,⟨hi_TableTongue_look,h27f,h27k⟩,wJ,wI,wH,λH a dx fs e=>.ins e ⟨qV,rp,rh,qO⟩ wB wt we cw_TableTongue,W.mg_of X G xv,⟨xE,xF,xH⟩,W.mg_of X G k0,W.mg_of X G k1,W.mg_of X G k2,⟨⟨_,_,kl2,kv2⟩,Xj.mpr ⟨kh2_0,Xj.mpr ⟨kh2_1,λ_ z=>nomatch z⟩⟩,(show List.Nodup (["high", "low"]:List Str) by decide +kernel),ks2⟩,zB kl2_0 kv2_0 (UI kz2_0),eK kl2_0_0 kv2_0_0 (UI kz2_0_0),eK kl2_0_1 kv2_0_1 (UI kz2_0_1),eK kl2_0_2 kv2_0_2 (UI kz2_0_2),eK kl2_0_3 kv2_0_3 (UI kz2_0_3),eK kl2_0_4 kv2_0_4 (UI kz2_0_4),zB kl2_1 kv2_1 (UI kz2_1),eK kl2_1_0 kv2_1_0 (UI kz2_1_0),eK kl2_1_1 kv2_1_1 (UI kz2_1_1),eK kl2_1_2 kv2_1_2 (UI kz2_1_2),eK kl2_1_3 kv2_1_3 (UI kz2_1_3),eK kl2_1_4 kv2_1_4 (UI kz2_1_4),W.mg_of X G k3,W.mg_of X G k4,W.mg_of X G k5,W.mg_of X G k6,W.mg_of X G k7,W.mg_of X G k8,W.mg_of X G k9,W.mg_of X G k10,W.mg_of X G k11,W.mg_of X G k12,W.mg_of X G k13,W.mg_of X G k14,eK kl14 kv14 (UI kz14),⟨_,kl14,rfl,rfl⟩,W.mg_of X G k15,W.mg_of X G k16,W.mg_of X G k17,W.mg_of X G k18,⟨⟨_,_,kl18,kv18⟩,(show List.Nodup ([224,237,238,240,244]:List Int) by decide),ks18⟩,eK kl18_0 kv18_0 (UI kz18_0),eK kl18_1 kv18_1 (UI kz18_1),eK kl18_2 kv18_2 (UI kz18_2),eK kl18_3 kv18_3 (UI kz18_3),eK kl18_4 kv18_4 (UI kz18_4),W.mg_of X G k19,eK kl19 kv19 (UI kz19),⟨_,kl19,rfl,rfl⟩,W.mg_none_of X G z0,W.mg_none_of X G z1,W.mg_none_of X G z2,W.mg_none_of X G z3,W.mg_none_of X G z4,W.mg_none_of X G z5,W.mg_none_of X G z6,W.mg_none_of X G z7,W.mg_none_of X G z8,W.mg_none_of X G z9,W.mg_none_of X G z10,W.mg_none_of X G z11,W.mg_none_of X G z12,W.mg_none_of X G z13,W.mg_none_of X G z14⟩⟩
theorem walk {l:PySem.W.OpenLaw} {q:Program} {loose:List Str} {XP:(Str->Option Value)->Heap->Prop} {YP:World->Heap->Prop} {d:DefRec} {K:Params->PySem.W.Frag} (hn:l.most=some 63) (hdf:d.params.defaults=[]) (hnm:d.name = "law")
 (hY:∀(w:World) (h:Heap),YP w h->(K w.params).In h)
 (F:∀(w:World) (mg:Str->Option Value) (h:Heap),(K w.params).In h->h.Ns mainGlobals mg->∃t,Txt w (K w.params) mg t) :
 PySem.W.WalkO q loose XP YP l.row.toRowW d [] (λf vs=>PySem.call f vs):=by
 refine L2.walk_of (n:=63) (k:=15) (x := "_law_script") (CX:=λ_=>bR) (sp:=λw=>sU (K w.params)) hn (by decide) hdf ⟨rfl,by decide,by decide⟩ hY (λw mg fa h KX G hmg=>?_) (λ_ _ a ns hl _ hS=>⟨a,rfl,ns,hS,hl,λ_=>rfl⟩) λ_ _ _ _ _ z=>z;obtain⟨t,T⟩:=F w mg h KX G;rw[hnm]at hmg;have e:=hmg.symm.trans T.CY;cases e;obtain⟨oc,od,kV,doc,pm,an,cdv,ct,osl,e1,lk,hcd⟩:=T.zf.ex;refine⟨t.qw,λs u=>?_,λbase _ _=>(ND (P:=l.prog) (w:=w) (base:=base) T).ok⟩;rw[e1];exact .of_eq Z
end My
structure PySem.W.Fast:Prop where
 (tw10074577033090798320 tw10091203152378973439 tw10109489007571701689 tw10129063497861622148 tw10182573688448274853 tw10182695488528998812 tw10187624237225721781 tw10210024711394194662 tw10303549199232252931 tw10304550419866408590 tw10334894446565137546 tw10372318055960184311 tw10395374231436147629 tw10405418702688754875 tw10441660828813752472 tw10459240748402411965 tw10462726576806818517 tw10543247289586635784 tw10564906274401173071 tw10568004547356269300 tw10568768282174016848 tw10570521704526923017 tw10693988459242654141 tw10753543114443390140 tw10756918836442395945 tw10758880656452681261 tw1076838356709913599 tw10784006493218846457 tw10787768220065245630 tw10817656791346762128 tw10820200449016940770 tw10842955128670273027 tw10861432788286328821 tw10867285094806747361 tw10927198409287930965 tw10946419229926017741 tw10964706681676481801 tw10997142395552290524 tw11012292663516463951 tw11020918173216371079 tw11044679325511200414 tw11079720247768127218 tw11115633745377163033 tw11136611881946584271 tw11138137000637525061 tw11153963361604863251 tw11160604189149159719 tw11185413293383825457 tw11202663396630454408 tw11210628607796959353 tw11211123697842289380 tw11217409632925938617 tw11230701973948676564 tw11270151138878786366 tw11292220791259281073 tw11295428334504083385 tw11367234828992082281 tw114071274979751986 tw11409020666150386898 tw11417538079136875505 tw11485574490485435790 tw11616446897105037247 tw11660544041283018555 tw11726671063618781999 tw11739641992693588279 tw11762641667931808773 tw11831280222039763222 tw1185175905251577884 tw11865433686373548540 tw1188685832890159016 tw119123363369255096 tw11913071063276686080 tw11917384508480899169 tw11950248275262178579 tw11956877703736613870 tw12002451083124147422 tw12010469890317725785 tw12041817988388928844 tw12066729833563986334 tw12078212698251410174 tw12083240238855032655 tw1211228350076199718 tw12124449131626678404 tw1213480935694186245 tw12190780325056847427 tw12199783647659162381 tw12231525462931329410 tw12244566686433329297 tw12272936725528213446 tw12278876041832588200 tw12315261286035870830 tw12315692654374790176 tw12327475765404589041 tw12394182246820312318 tw12410714979227612381 tw1242477172307414219 tw12480011545949963949 tw12480797032090527933 tw12516662692938078804 tw1259443592045076145 tw12594659237896948314 tw12617163173358414796 tw12617672542220965721 tw12661399826397662367 tw12676303229408752068 tw12682997601366779916 tw12797799514593737823 tw1280156693596683928 tw12828816656310079717 tw12860284268681928103 tw1287097328935628743 tw12880354740334323403 tw13049685201034833764 tw13060186059924595051 tw13187597161515249085 tw13219779619592109658 tw132262031930161554 tw13251854645540512619 tw13289779963117747292 tw13309137635117551529 tw13440369710153954693 tw13462286737478715228 tw13464277233656999445 tw1354047521186500726 tw13572425365140983544 tw13601946609651582247 tw13612757300994390566 tw13680746709660968020 tw1368399359485302083 tw13704481138181144258 tw13724489979736267171 tw13736778349279755488 tw13747856828402062604 tw13750586116936949299 tw13772428453744112911 tw13834220403609611819 tw13850035885504284121 tw13866460923572330605 tw13914604006708804253 tw13985539155491111642 tw13999065726787226297 tw14005521557040643880 tw14022887563311336861 tw14091079933304600138 tw14135613230894235905 tw14151299568320427198 tw1416389815745296482 tw14186212027556250998 tw14247828926999082450 tw14264497296778815589 tw14264565116416171944 tw14373560888016165987 tw1438200081095210284 tw1439721224136985516 tw14401529672604068485 tw14413087339524961340 tw14448394856385500798 tw14540803856603012150 tw14597158413240100116 tw14623217176944367931 tw14693137501818584981 tw14718207180040212253 tw14744097932636130344 tw14747607621349164705 tw14747725313184349803 tw14748696346011332262 tw14796926331021117474 tw1479944319950181661 tw14803157188454334924 tw14820733740758157257 tw1485683637395935219 tw14868648456301277988 tw14917615272888215752 tw14920030661785004380 tw15034284531758929464 tw15045594511681412008 tw15071550877531076607 tw15078237313809881816 tw15146334593480805991 tw151813547110832183 tw15226370320914485632 tw15264614640195004566 tw1531143037700674225 tw15318247880837866684 tw15319667815576923032 tw15321907543003365419 tw15392071533856289884 tw15451067659327380869 tw1545249657115885208 tw15480771989676997798 tw15536757681129405201 tw15546061681096643779 tw15574650358062239445 tw15610015348473543857 tw15644728560587406085 tw15696099066498208806 tw15752037190664125949 tw15756461181539261598 tw15761549208208713844 tw15847953533713180645 tw15861714309971816588 tw1592125706937724224 tw1595260350544148576 tw15993974346608458866 tw16007754770939863511 tw1614738793231829675 tw16231114355434693025 tw16245868979424222063 tw16320089054702426552 tw16322068324889222651 tw16417080125691874938 tw16418321181365145548 tw16420206150464645786 tw16478659658372631162 tw16539350749778439531 tw1654077371375831070 tw16569014399906561345 tw16631349744622519320 tw16661657455583707404 tw16705406251821747506 tw16752127436214640609 tw16818855385955923518 tw1683335655109190019 tw16851211805609194742 tw16941495607045437760 tw16953510612655442098 tw16960317868396939010 tw16989912420350368244 tw16992993853250829732 tw170446605669476475 tw17056662495651945305 tw17066786256750819162 tw17080259112170309424 tw17086667407908895664 tw17255116234064860853 tw17272193281152090381 tw17312474714579970396 tw17333526020833507819 tw17410883497945438846 tw17436776155670875064 tw17462140261864508093 tw17465678711687448667 tw17545021445304952161 tw17579416321868265742 tw17626535758158178077 tw17681623455690290263 tw17686030912680415085 tw17783903309087356205 tw17785299964153199559 tw17852476401628055699 tw1789771868437068577 tw17903240707653775301 tw17906225040431826724 tw17923295370549009118 tw17925531368354300109 tw17934845683123787819 tw17964968103824859317 tw17988292338122002650 tw18044227637255376528 tw18046841576772281820 tw18096267901481075466 tw18102777679213207780 tw18110349806074000030 tw18115877268465272171 tw1812244938947524846 tw18155417351314526633 tw18203999230055982781 tw18257984172108774755 tw18284484796872394496 tw18323147130880112445 tw18335240654944463410 tw18396117818180365954 tw18408831580784601617 tw18422477261613727325 tw1881700131164301261 tw1931562423651557230 tw2067051144510347689 tw2091658271983224232 tw2101697264077906972 tw2126859617522109034 tw2129143506525089911 tw2155391287745322232 tw2174367616713073828 tw2183953493849726686 tw2215536911304158216 tw2252812217005991395 tw2310159817083661247 tw2318185516437788338 tw23896933736714630 tw2471457793295003243 tw2477245188715206755 tw2485115600004812648 tw2526000260929231622 tw2533862788063154486 tw2537680516013377436 tw2546649881222926991 tw2700663438934239067 tw2708903299107953975 tw2720616490635693387 tw2775002114948516318 tw2784425546757163226 tw2800074407956513026 tw2827166440004390964 tw2889384890485390442 tw2893065273466056227 tw2894073438327696828 tw2946052755184198642 tw2961934781914034520 tw2986672200501548079 tw3004782314868357784 tw3109902794644384570 tw3129190365750621359 tw3159407694676095872 tw316070093539310447 tw3209502608446417439 tw3217009486570324804 tw3309761126353885557 tw3355343573682234108 tw3390712569537956789 tw341744488092359449 tw3435571492877151967 tw3446526701124646104 tw3454766426293668654 tw3471045245999073021 tw3503288055194425283 tw3504103787393358679 tw3510646186490177377 tw3557466448847008588 tw3579971028061442269 tw3630857918594819036 tw3632903763808138089 tw3635206029701442888 tw3701378675705774955 tw3744337898775675901 tw3751615565780646330 tw376326593478728189 tw3771431458739665236 tw3782779950932531731 tw3788571376235667625 tw3820169689588099170 tw3841731343710099901 tw3843124257290927197 tw3852709463661092586 tw3900441876148372729 tw3907534720848310750 tw3928526313072974141 tw4027246530437370128 tw4031809232898265447 tw4075912197003446952 tw4115374376479288433 tw4118999217221091649 tw4152239844035614870 tw4231492502735382923 tw4264212465106503996 tw433157250529423526 tw4445376889768815022 tw4448228343950699003 tw4501085765445352224 tw4566939666173128308 tw458406184565500079 tw4585353681144535154 tw4602844864046003023 tw4650606863020224961 tw4670191831217002473 tw4672172337671959651 tw4735056372834710629 tw4780197746579578381 tw478503385425372753 tw4803424682199563285 tw4832162831968445248 tw4848299003575971482 tw4852969021238195510 tw4862362742609815325 tw4876585564330180577 tw4903162167193005542 tw4994104682737864601 tw5041288361870387185 tw506926405929123406 tw5093062200067966343 tw512837177437161398 tw5233114333121381087 tw5261755802484343242 tw5281588681523893503 tw5299596933404218498 tw5307837076364303319 tw5338340734529475023 tw5360986299151833073 tw5435569862021975115 tw5494995285455716311 tw5517473483864287271 tw5533996146711735408 tw5574089337648860392 tw5601280470169768632 tw5620836537445060875 tw5671671529044961864 tw5675052306736512203 tw5675295236588386620 tw5720955900802268335 tw572252293120140400 tw5764385835361567201 tw5808130685166412401 tw5868017625789026854 tw5891333703609861552 tw5892542380884463265 tw5914767785604872519 tw5931265057740040198 tw5980997315922300581 tw5993611610029372367 tw6073490166098604908 tw6093666741146993681 tw6113332782051877006 tw6113993604520488740 tw611865562516781372 tw616844735748857839 tw623946903272396437 tw6326204715571971519 tw6327394718472529060 tw6330537476213314064 tw63329321922601157 tw6340603125444632810 tw6388962753372984745 tw6461196657030406806 tw6647250062990283968 tw6648409779733080033 tw6650974523261629404 tw6653807226992214584 tw6660517098465151506 tw6735587557586718063 tw6750099980987531882 tw6751338879246146618 tw6804411660941362483 tw6845410318473920396 tw6851385479427541896 tw6853870503700596755 tw6888784707418559903 tw6889365950360457571 tw6945771859111537379 tw6997006396386630822 tw7001786047987204321 tw7033406219440358412 tw7085819177883442873 tw7166059009654577800 tw7180420781861313148 tw718949269217769514 tw7196902698368395460 tw7219986249369936705 tw7233571978484645356 tw7259663535128589021 tw728837217079098648 tw7288391325784420023 tw7299336598515666855 tw730501325272496255 tw7335361320776553482 tw7428903100610258650 tw7439020365617994445 tw748957090877394925 tw750346054813741694 tw7547786400818800057 tw7588748859890373 tw7604717669813307211 tw7674432787583522415 tw7690944004351965414 tw7717894041516459248 tw772182594202240511 tw7723691977075149924 tw7804008839331870231 tw7807357233450573453 tw7873868522660928580 tw7914938163115481307 tw791835658811185593 tw800025423477698043 tw8089796411154197350 tw8134451670838299528 tw8182204334702661123 tw8204423778484162286 tw824134322756692465 tw8268641929845161470 tw8278981210082796442 tw8300824409622246492 tw8340148935766431104 tw8355611244873396160 tw8360864844761457348 tw83891306188951208 tw8392425110760886665 tw8401401524927713088 tw8496098671959579174 tw8527723443099132755 tw8559713189865720345 tw8652681335158758209 tw8654290835859577261 tw8664160573450880566 tw8664762878133852520 tw8667711221278704264 tw8675549571468029749 tw8676996635670043880 tw8678853273537565796 tw87243476542805797 tw8727685221256571391 tw872853151839492994 tw8835337765070009981 tw8837792730054876072 tw890769959369024711 tw8945681376438163393 tw8946315801899692402 tw8982831748513761577 tw901519142862337030 tw9022723856128836844 tw9103441217072191639 tw9181824499539596256 tw9209924442753071418 tw9220146842778398351 tw9224588324318397341 tw9259032928212798345 tw9275708693631346537 tw9276529964506597928 tw9295476828981652730 tw9315243828771238170 tw9319449081758614115 tw9325488680679265584 tw9412376992307423677 tw9426173261385397940 tw9566461416440530347 tw961919021039566753 tw965523371592226052 tw9671959040060007946 tw9679050623774876954 tw9738701437715087742 tw9766964797913769010 tw979974877242175576 tw981832791163923879 tw9858445423542075286 tw9871187423370700188 tw9973387684532262478 tw9975530602104778966:True)
open PySem PySem.W PyProof.Rows
set_option maxRecDepth 100000 in
set_option maxHeartbeats 0 in
theorem PySem.Challenge.cw_bytetongue_k73_whole_parts_holds : PySem.Challenge.rw_bytetongue_k73_whole_parts.Holds := by
 w_on;o_law;k_head;(case hw=>w_witness2)
 k_fill
 refine My.walk (l:=PySem.Challenge.rw_bytetongue_k73_whole_parts) Z Z Z (λw h Y=>PySem.W.kIn_of Y) ?F
 case F =>
  intro w mg h KX G
  refine' My.txt_mk KX G ?h0a ?h0l ?h0c ?h0k ?h1a ?h1l ?h1c ?h1k ?h2a ?h2l ?h2c ?h2k ?h3a ?h3l ?h3c ?h3k ?h4a ?h4l ?h4c ?h4k ?h5a ?h5l ?h5c ?h5k ?h6a ?h6l ?h6c ?h6k ?xw ?qX ?rA ?rj ?qQ ?w5 ?xj ?wD ?wv ?wg ?cw_Put ?wN ?h7a ?h7f ?h7l ?h7c ?h7k ?h7d ?h8a ?h8f ?h8l ?h8c ?h8k ?h9l ?h9c ?h9k ?h9d ?xz ?q8 ?rD ?rn ?qT ?xa ?xn ?wG ?wz ?wn ?cw_GoingReader ?wW ?wV ?wU ?wT ?wS ?wR ?wQ ?wP ?h10a ?h10f ?h10l ?h10c ?h10k ?h10d ?h11a ?h11f ?h11l ?h11c ?h11k ?h12a ?h12f ?h12l ?h12c ?h12k ?h13a ?h13f ?h13l ?h13c ?h13k ?h14a ?h14f ?h14l ?h14c ?h14k ?h15a ?h15f ?h15l ?h15c ?h15k ?h16a ?h16f ?h16l ?h16c ?h16k ?h17a ?h17f ?h17l ?h17c ?h17k ?h18a ?h18f ?h18l ?h18c ?h18k ?h19a ?h19l ?h19c ?h19k ?h20a ?h20l ?h20c ?h20k ?h21a ?h21l ?h21c ?h21k ?h22a ?h22l ?h22c ?h22k ?xr ?qU ?ro ?rg ?qN ?wX ?xg ?xo ?wA ?wr ?wc ?cw_Tongue ?h23a ?h23f ?h23l ?h23c ?h23k ?h24a ?h24f ?h24l ?h24c ?h24k ?h24d ?h25a ?h25f ?h25l ?h25c ?h25k ?h25d ?h26a ?h26f ?h26l ?h26c ?h26k ?h26d ?h27a ?h27f ?h27l ?h27c ?h27k ?h27d ?h28a ?h28l ?h28c ?h28k ?h29a ?h29l ?h29c ?h29k ?h30a ?h30l ?h30c ?h30k ?h31a ?h31l ?h31c ?h31k ?h32a ?h32l ?h32c ?h32k ?h33a ?h33l ?h33c ?h33k ?h34a ?h34l ?h34c ?h34k ?xy ?qZ ?rC ?rm ?qS ?w9 ?xm ?xp ?wF ?wx ?wl ?cw_LeadTongue ?h35a ?h35f ?h35l ?h35c ?h35k ?h35d ?h36a ?h36f ?h36l ?h36c ?h36k ?h36d ?h37a ?h37f ?h37l ?h37c ?h37k ?h37d ?h38a ?h38l ?h38c ?h38k ?h39a ?h39l ?h39c ?h39k ?xx ?qY ?rB ?rk ?qR ?w6 ?xk ?wE ?ww ?wj ?cw_PairTongue ?wO ?h40a ?h40f ?h40l ?h40c ?h40k ?h40d ?h41a ?h41f ?h41l ?h41c ?h41k ?h42a ?h42f ?h42l ?h42c ?h42k ?h43a ?h43f ?h43l ?h43c ?h43k ?h44a ?h44f ?h44l ?h44c ?h44k ?h45a ?h45f ?h45l ?h45c ?h45k ?h45d ?h46a ?h46f ?h46l ?h46c ?h46k ?h46d ?h47a ?h47f ?h47l ?h47c ?h47k ?h47d ?h48a ?h48l ?h48c ?h48k ?h49a ?h49l ?h49c ?h49k ?xu ?qW ?rq ?ri ?qP ?wZ ?xi ?wC ?wu ?wf ?cw_ShiftTongue ?wM ?wL ?wK ?h50a ?h50f ?h50l ?h50c ?h50k ?h51a ?h51f ?h51l ?h51c ?h51k ?h52a ?h52f ?h52l ?h52c ?h52k ?h52d ?h53a ?h53f ?h53l ?h53c ?h53k ?h54a ?h54f ?h54l ?h54c ?h54k ?h54d ?h55a ?h55f ?h55l ?h55c ?h55k ?h55d ?h56a ?h56l ?h56c ?h56k ?h57a ?h57l ?h57c ?h57k ?h58a ?h58l ?h58c ?h58k ?xt ?qV ?rp ?rh ?qO ?wY ?xh ?wB ?wt ?we ?cw_TableTongue ?wJ ?wI ?wH ?h59a ?h59f ?h59l ?h59c ?h59k ?h60a ?h60f ?h60l ?h60c ?h60k ?h61a ?h61f ?h61l ?h61c ?h61k ?h61d ?h62a ?h62f ?h62l ?h62c ?h62k ?h62d ?h63a ?h63f ?h63l ?h63c ?h63k ?h63d ?h64a ?h64l ?h64c ?h64k ?h65a ?h65l ?h65c ?h65k ?h66a ?h66l ?h66c ?h66k ?h67a ?h67l ?h67c ?h67k ?h68a ?h68l ?h68c ?h68k ?h69a ?h69l ?h69c ?h69k ?h70a ?h70l ?h70c ?h70k ?h71a ?h71l ?h71c ?h71k ?h72a ?h72l ?h72c ?h72k ?h73a ?h73l ?h73c ?h73k ?h74a ?h74l ?h74c ?h74k ?h75a ?h75l ?h75c ?h75k ?h76a ?h76l ?h76c ?h76k ?h77a ?h77l ?h77c ?h77k ?h78a ?h78l ?h78c ?h78k ?h79a ?h79l ?h79c ?h79k ?h80a ?h80l ?h80c ?h80k ?h81a ?h81l ?h81c ?h81k ?h82a ?h82l ?h82c ?h82k ?h83a ?h83l ?h83c ?h83k ?h84a ?h84l ?h84c ?h84k ?h85a ?h85l ?h85c ?h85k ?hi_LeadTongue_unit ?hi_LeadTongue_look ?hi_PairTongue_look ?hi_ShiftTongue_unit ?hi_ShiftTongue_look ?hi_TableTongue_unit ?hi_TableTongue_look ?xv ?xE ?xF ?xH ?k0 ?k1 ?k2 ?kl2 ?kv2 ?ks2 ?kh2_0 ?kh2_1 ?kl2_0 ?kv2_0 ?kz2_0 ?kl2_0_0 ?kv2_0_0 ?kz2_0_0 ?kl2_0_1 ?kv2_0_1 ?kz2_0_1 ?kl2_0_2 ?kv2_0_2 ?kz2_0_2 ?kl2_0_3 ?kv2_0_3 ?kz2_0_3 ?kl2_0_4 ?kv2_0_4 ?kz2_0_4 ?kl2_1 ?kv2_1 ?kz2_1 ?kl2_1_0 ?kv2_1_0 ?kz2_1_0 ?kl2_1_1 ?kv2_1_1 ?kz2_1_1 ?kl2_1_2 ?kv2_1_2 ?kz2_1_2 ?kl2_1_3 ?kv2_1_3 ?kz2_1_3 ?kl2_1_4 ?kv2_1_4 ?kz2_1_4 ?k3 ?k4 ?k5 ?k6 ?k7 ?k8 ?k9 ?k10 ?k11 ?k12 ?k13 ?k14 ?kl14 ?kv14 ?kz14 ?k15 ?k16 ?k17 ?k18 ?kl18 ?kv18 ?ks18 ?kl18_0 ?kv18_0 ?kz18_0 ?kl18_1 ?kv18_1 ?kz18_1 ?kl18_2 ?kv18_2 ?kz18_2 ?kl18_3 ?kv18_3 ?kz18_3 ?kl18_4 ?kv18_4 ?kz18_4 ?k19 ?kl19 ?kv19 ?kz19 ?z0 ?z1 ?z2 ?z3 ?z4 ?z5 ?z6 ?z7 ?z8 ?z9 ?z10 ?z11 ?z12 ?z13 ?z14
  case xv|xE|xF|xH|h0a|h0l|h0c|h0k|h1a|h1l|h1c|h1k|h2a|h2l|h2c|h2k|h3a|h3l|h3c|h3k|h4a|h4l|h4c|h4k|h5a|h5l|h5c|h5k|h6a|h6l|h6c|h6k|xw|qX|rA|rj|qQ|w5|xj|wD|wv|wg|cw_Put|wN|h7a|h7f|h7l|h7c|h7k|h7d|h8a|h8f|h8l|h8c|h8k|h9l|h9c|h9k|h9d|xz=>k_is
  case q8|rD|rn|qT|xa|xn|wG|wz|wn|cw_GoingReader|wW|wV|wU|wT|wS|wR|wQ|wP|h10a|h10f|h10l|h10c|h10k|h10d|h11a|h11f|h11l|h11c|h11k|h12a|h12f|h12l|h12c|h12k|h13a|h13f|h13l|h13c|h13k|h14a|h14f|h14l|h14c|h14k|h15a|h15f|h15l|h15c|h15k|h16a|h16f|h16l|h16c|h16k|h17a|h17f|h17l|h17c|h17k|h18a=>k_is
  case h18f|h18l|h18c|h18k|h19a|h19l|h19c|h19k|h20a|h20l|h20c|h20k|h21a|h21l|h21c|h21k|h22a|h22l|h22c|h22k|xr|qU|ro|rg|qN|wX|xg|xo|wA|wr|wc|cw_Tongue|h23a|h23f|h23l|h23c|h23k|h24a|h24f|h24l|h24c|h24k|h24d|h25a|h25f|h25l|h25c|h25k|h25d|h26a|h26f|h26l|h26c|h26k|h26d|h27a|h27f|h27l|h27c|h27k=>k_is
  case h27d|h28a|h28l|h28c|h28k|h29a|h29l|h29c|h29k|h30a|h30l|h30c|h30k|h31a|h31l|h31c|h31k|h32a|h32l|h32c|h32k|h33a|h33l|h33c|h33k|h34a|h34l|h34c|h34k|xy|qZ|rC|rm|qS|w9|xm|xp|wF|wx|wl|cw_LeadTongue|h35a|h35f|h35l|h35c|h35k|h35d|h36a|h36f|h36l|h36c|h36k|h36d|h37a|h37f|h37l|h37c|h37k|h37d|h38a=>k_is
  case h38l|h38c|h38k|h39a|h39l|h39c|h39k|xx|qY|rB|rk|qR|w6|xk|wE|ww|wj|cw_PairTongue|wO|h40a|h40f|h40l|h40c|h40k|h40d|h41a|h41f|h41l|h41c|h41k|h42a|h42f|h42l|h42c|h42k|h43a|h43f|h43l|h43c|h43k|h44a|h44f|h44l|h44c|h44k|h45a|h45f|h45l|h45c|h45k|h45d|h46a|h46f|h46l|h46c|h46k|h46d|h47a|h47f|h47l=>k_is
  case h47c|h47k|h47d|h48a|h48l|h48c|h48k|h49a|h49l|h49c|h49k|xu|qW|rq|ri|qP|wZ|xi|wC|wu|wf|cw_ShiftTongue|wM|wL|wK|h50a|h50f|h50l|h50c|h50k|h51a|h51f|h51l|h51c|h51k|h52a|h52f|h52l|h52c|h52k|h52d|h53a|h53f|h53l|h53c|h53k|h54a|h54f|h54l|h54c|h54k|h54d|h55a|h55f|h55l|h55c|h55k|h55d|h56a|h56l=>k_is
  case h56c|h56k|h57a|h57l|h57c|h57k|h58a|h58l|h58c|h58k|xt|qV|rp|rh|qO|wY|xh|wB|wt|we|cw_TableTongue|wJ|wI|wH|h59a|h59f|h59l|h59c|h59k|h60a|h60f|h60l|h60c|h60k|h61a|h61f|h61l|h61c|h61k|h61d|h62a|h62f|h62l|h62c|h62k|h62d|h63a|h63f|h63l|h63c|h63k|h63d|h64a|h64l|h64c|h64k|h65a|h65l|h65c|h65k=>k_is
  case h66a|h66l|h66c|h66k|h67a|h67l|h67c|h67k|h68a|h68l|h68c|h68k|h69a|h69l|h69c|h69k|h70a|h70l|h70c|h70k|h71a|h71l|h71c|h71k|h72a|h72l|h72c|h72k|h73a|h73l|h73c|h73k|h74a|h74l|h74c|h74k|h75a|h75l|h75c|h75k|h76a|h76l|h76c|h76k|h77a|h77l|h77c|h77k|h78a|h78l|h78c|h78k|h79a|h79l|h79c|h79k|h80a|h80l|h80c|h80k=>k_is
  case h81a|h81l|h81c|h81k|h82a|h82l|h82c|h82k|h83a|h83l|h83c|h83k|h84a|h84l|h84c|h84k|h85a|h85l|h85c|h85k|hi_LeadTongue_unit|hi_LeadTongue_look|hi_PairTongue_look|hi_ShiftTongue_unit|hi_ShiftTongue_look|hi_TableTongue_unit|hi_TableTongue_look|k0|k1|k2|kl2=>k_is
  (case kv2=>rfl)
  (case ks2=>rfl)
  (case kh2_0=>rfl)
  (case kh2_1=>rfl)
  case kl2_0=>k_is
  (case kv2_0=>rfl)
  (case kz2_0=>rfl)
  case kl2_0_0=>k_is
  (case kv2_0_0=>rfl)
  (case kz2_0_0=>rfl)
  case kl2_0_1=>k_is
  (case kv2_0_1=>rfl)
  (case kz2_0_1=>rfl)
  case kl2_0_2=>k_is
  (case kv2_0_2=>rfl)
  (case kz2_0_2=>rfl)
  case kl2_0_3=>k_is
  (case kv2_0_3=>rfl)
  (case kz2_0_3=>rfl)
  case kl2_0_4=>k_is
  (case kv2_0_4=>rfl)
  (case kz2_0_4=>rfl)
  case kl2_1=>k_is
  (case kv2_1=>rfl)
  (case kz2_1=>rfl)
  case kl2_1_0=>k_is
  (case kv2_1_0=>rfl)
  (case kz2_1_0=>rfl)
  case kl2_1_1=>k_is
  (case kv2_1_1=>rfl)
  (case kz2_1_1=>rfl)
  case kl2_1_2=>k_is
  (case kv2_1_2=>rfl)
  (case kz2_1_2=>rfl)
  case kl2_1_3=>k_is
  (case kv2_1_3=>rfl)
  (case kz2_1_3=>rfl)
  case kl2_1_4=>k_is
  (case kv2_1_4=>rfl)
  (case kz2_1_4=>rfl)
  case k3|k4|k5|k6|k7|k8|k9|k10|k11|k12|k13|k14|kl14=>k_is
  (case kv14=>rfl)
  (case kz14=>rfl)
  case k15|k16|k17|k18|kl18=>k_is
  (case kv18=>rfl)
  (case ks18=>rfl)
  case kl18_0=>k_is
  (case kv18_0=>rfl)
  (case kz18_0=>rfl)
  case kl18_1=>k_is
  (case kv18_1=>rfl)
  (case kz18_1=>rfl)
  case kl18_2=>k_is
  (case kv18_2=>rfl)
  (case kz18_2=>rfl)
  case kl18_3=>k_is
  (case kv18_3=>rfl)
  (case kz18_3=>rfl)
  case kl18_4=>k_is
  (case kv18_4=>rfl)
  (case kz18_4=>rfl)
  case k19|kl19=>k_is
  (case kv19=>rfl)
  (case kz19=>rfl)
  case z0|z1|z2|z3|z4|z5|z6|z7|z8|z9|z10|z11|z12|z13|z14=>k_is
