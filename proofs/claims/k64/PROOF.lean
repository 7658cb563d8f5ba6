import PyProof.Rows.All
import Wide.All
import Wide.FinOn
import KE.KDictOf
import KE.RegKIsAll
import KE.KEqDeep
import KE.KRevIter
import KE.KEqDict
import KE.RegKTryMore
import KE.KItem
import KE.KTurns
import KE.KFromBytes
import KE.KEqText
import PySem.Challenge.RW_bytetongue_k64_whole_read_or_shown
set_option Elab.async false
set_option linter.all false
set_option maxRecDepth 100000
theorem Z{α:Sort _}{a:α}:a=a:=rfl
def To:=@List.length_map
def Tp:=@Nat.le_refl
def Tq:=@List.length_append
def Tr:=@PySem.Heap.lt_size
def Ts:=@Nat.lt_of_lt_of_le
def Tu:=@PySem.Heap.get?_push_of_some
def Tv:=@List.getElem?_map
def Tw:=@PySem.boot_len
def Tx:=@Nat.ne_of_lt
def TyZ:=@List.length_take
def Tz:=@List.getElem?_eq_some_iff
def TB:=@List.size_toArray
def TC:=@Bool.false_ne_true
def TD:=@List.append_nil
def TF:=@List.mem_cons
def TH:=@Nat.le_trans
def TJ:=@Nat.zero_le
def TK:=@List.take_length
def TL:=@List.mem_append
def TM:=@List.mem_append_right
def TQ:=@Nat.le_of_ble_eq_true
def TR:=@Nat.lt_succ_self
def TU:=@List.mem_singleton
def TV:=@List.mem_cons_self
def TW:=@List.mem_cons_of_mem
def TX:=@List.length_cons
def TY:=@List.mem_of_getElem?
def TZ:=@List.map_append
def T0:=@List.mem_map
def T2:=@Array.length_toList
def T4:=@List.getElem?_eq_getElem
def T5:=@PyProof.Rows.boot_list
def T6:=@PySem.Heap.get?_push_size
def T7:=@Bool.and_eq_true
def T8:=@List.append_assoc
def T9:=@Option.some.inj
def Ua:=@Nat.lt_irrefl
def Ub:=@List.mem_append_left
def Uc:=@List.map_cons
def Ud:=@List.lookup_cons
def Ue:=@List.find?_eq_none
def Uf:=@PySem.F.plainAttrs_list
def Ug:=@List.find?_cons
def Uh:=@Bool.false_eq_true
def Ui:=@Nat.min_eq_left
def Uj:=@List.take_of_length_le
def Uk:=@List.length_range
def Ul:=@PyProof.Rows.boot_int
def Um:=@List.mem_of_mem_take
def Uo:=@List.any_eq_true
def Up:=@Nat.succ.inj
def Uq:=@PyProof.Rows.boot_isinstance
def Ur:=@Nat.mod_one
def Us:=@List.mem_range
def Ut:=@Nat.ne_of_gt
def Uu:=@PyProof.Rows.callWith_type1
def Uv:=@List.length_drop
def Uw:=@PySem.Heap.get?_update_other
def Ux:=@List.find?_some
def Uy:=@PySem.Heap.SameBut.refl
def Uz:=@List.getElem?_eq_none
def UA:=@Nat.lt_or_ge
def UB:=@PySem.F.slot_list_append
def UC:=@PySem.F.type_list_append
def UD:=@Bool.eq_iff_iff
def UE:=@PySem.Heap.size_push
def UF:=@Nat.le_succ
def UG:=@List.getElem?_append_right
def UH:=@List.getElem?_append_left
def UI:=@List.any_cons
def UJ:=@Option.map_some
def UK:=@PyProof.Rows.slot_tuple_getitem
def UL:=@List.replicate_succ
def UM:=@List.foldl_cons
def UN:=@Bool.not_true
def UO:=@Option.map_eq_some_iff
def UP:=@List.pairwise_iff_getElem
def UQ:=@List.take_append_drop
def UR:=@List.mem_of_find?_eq_some
def US:=@List.take_append_of_le_length
def UT:=@PySem.Heap.get?_none_of_le
def UU:=@Nat.le_of_eq
def UV:=@List.nodup_cons
def UW:=@PySem.mem_of_lookup
def UX:=@PySem.F.slot_dict_get
def UY:=@List.all_eq_true
def UZ:=@List.mem_of_mem_drop
def U0:=@Option.bind_eq_some_iff
def U1:=@List.map_map
def U2:=@PySem.Heap.get?_update_self
def U3:=@PySem.F.slot_list_index
def U4:=@Nat.zero_add
def U5:=@List.eq_nil_of_length_eq_zero
def U6:=@PySem.Heap.SameBut.update
def U7:=@List.getD_eq_getElem?_getD
def U8:=@List.getElem?_range
def U9:=@List.take_left
def Va:=@List.not_mem_nil
def Vb:=@Nat.dvd_of_mod_eq_zero
def Vc:=@List.filterMap_cons
def Vd:=@List.getElem?_set_self
def Ve:=@List.getElem?_set_ne
def Vf:=@List.getElem?_take_of_lt
def Vg:=@List.length_nil
def Vh:=@Option.isSome_map
def Vi:=@List.flatten_cons
def Vj:=@Int.toNat_natCast
def Vk:=@Array.getElem?_eq_some_iff
def Vl:=@List.take_take
def Vm:=@List.take_nil
def Vn:=@Bool.or_eq_true
def Vo:=@PySem.Heap.size_after_update
def Vp:=@Nat.not_lt_zero
def Vq:=@Array.size_map
def Vr:=@Bool.not_eq_true
def Vs:=@List.exists_cons_of_length_eq_add_one
def Vt:=@List.mem_iff_getElem
def Vu:=@PyProof.Rows.boot_tuple
def Vv:=@List.length_pos_iff
def Vw:=@PySem.F.type_list_index
def Vx:=@Nat.div_mul_cancel
def Vy:=@Int.zero_lt_one
def Vz:=@Nat.le_of_lt
def VA:=@List.of_mem_zip
def VB:=@Option.isSome_iff_exists
def VC:=@List.length_replicate
def VD:=@List.cons_append
def VE:=@PySem.F.entry_dict_get
def VF:=@Option.getD_none
def VG:=@Bool.and_false
def VH:=@List.nil_append
def VI:=@Array.size_extract
def VJ:=@Nat.le_add_right
def VL:=@List.getElem_mem
def VM:=@Int.toNat_of_nonneg
def VN:=@Nat.min_eq_right
def VO:=@Int.add_mul
def VP:=@List.foldl_append
def VQ:=@List.take_add_one
def VR:=@Option.bind_some
def VS:=@Array.getD_eq_getD_getElem?
def VT:=@List.flatMap_cons
def VU:=@Nat.zero_lt_one
def VV:=@PyProof.Rows.boot_all
def VW:=@Nat.mod_eq_of_lt
def VX:=@Nat.mod_self
def VY:=@Nat.zero_mul
def VZ:=@List.take_zero
def V0:=@PyProof.noPylong_small
def V1:=@List.getElem?_replicate
def V2:=@PyProof.Rows.callWith_builtin1
def V3:=@PySem.F.args_dict_get_2
def V4:=@PySem.F.plainAttrs_dict
def V5:=@PySem.F.type_dict_get
def V6:=@List.length_reverse
def V7:=@Nat.add_sub_cancel_left
def V8:=@List.drop_eq_nil_of_le
def V9:=@Nat.ble_eq_true_of_le
def Wa:=@Array.mem_toList_iff
def Wb:=@Array.size_setIfInBounds
def Wc:=@PySem.F.excBase_ValueError
def Wd:=@Array.getElem?_eq_getElem
def We:=@Array.getElem?_setIfInBounds
def Wf:=@PySem.Heap.get?_update_ne
def Wg:=@Array.getElem?_toList
def Wh:=@List.length_eraseIdx_of_lt
def Wi:=@PySem.MeetsSeq2.wpAny_forIn_array
def Wj:=@Array.toList_extract
def Wk:=@List.getElem?_of_mem
def Wl:=@Int.natAbs_of_nonneg
def Wm:=@PyProof.Rows.boot_bool
def Wn:=@List.filter_eq_nil_iff
def Wo:=@List.getElem?_eq_none_iff
def Wp:=@Option.isSome_eq_false_iff
def Wq:=@Option.isNone_iff_eq_none
def Wr:=@List.mem_iff_getElem?
def Ws:=@PySem.W.ke_canLayAll0
def Wt:=@List.take_length_add_append
def Wu:=@List.forall_mem_cons
def kb:=@PySem.wpAny_bind
def on:=@PySem.wpAny_pure
def Wv:=@if_neg
def Ww:=@if_pos
def Wx:=@absurd
def Wz:=@of_decide_eq_true
def WA:=@decide_eq_true
def WB:=@decide_eq_false
abbrev e7:=List Int
abbrev fy:=PySem.Shared
namespace L2
open PySem PySem.Spec PyProof.Rows
abbrev aQ:=Sum Int Str
def lU:aQ->Value->Bool
 | .inl k,v=>Value.isInt k v
 | .inr x,v=>Value.isStrOf x v
def Mc(w:World):aQ->Int
 | .inl k=>hashInt k
 | .inr x=>hashStr w x
theorem io:∀ {k:aQ} {v:Value},lU k v=true->(∃i t,k=Sum.inl i/\v=Value.int i t)\/(∃x t,k=Sum.inr x/\v=Value.str x t)
 | .inl i,v,h=>by
  obtain⟨t,e⟩:=Value.isInt_shape (k:=i) (v:=v) h;exact .inl ⟨i,t,Z,e⟩
 | .inr x,v,h=>by
  obtain⟨t,e⟩:=Value.isStrOf_shape (x:=x) (v:=v) h;exact .inr ⟨x,t,Z,e⟩
def Mb(i:Int)(t:Tok):lU (.inl i) (.int i t)=true:=by simp[lU,Value.isInt]
def Ma(x:Str)(t:Tok):lU (.inr x) (.str x t)=true:=by simp[lU,Value.isStrOf]
def L9(a b:Int):decide ((Sum.inl a:aQ)=Sum.inl b)=(a == b):=by
 by_cases e:a=b
 ·subst e;simp
 ·have h:¬(Sum.inl a:aQ)=Sum.inl b:=λq=>e (Sum.inl.inj q);rw[WB h];exact (beq_eq_false_iff_ne.mpr e).symm
def L6(a b:Str):decide ((Sum.inr a:aQ)=Sum.inr b)=decide (a=b):=by
 by_cases e:a=b
 ·subst e;simp
 ·have h:¬(Sum.inr a:aQ)=Sum.inr b:=λq=>e (Sum.inr.inj q);rw[WB h,WB e]
def L8(a:Int)(b:Str):decide ((Sum.inl a:aQ)=Sum.inr b)=false:=WB (λq=>nomatch q)
def L7(a:Str)(b:Int):decide ((Sum.inr a:aQ)=Sum.inl b)=false:=WB (λq=>nomatch q)
def cA(prog:Program)(w:World):PySem.KeyKind prog w aQ where
 is:=lU
 hash:=Mc w
 inj:=λv a b d hb=>by
  rcases io d with ⟨i,t,rfl,rfl⟩|⟨x,t,rfl,rfl⟩
  ·rcases io hb with ⟨j,u,rfl,e⟩|⟨y,u,rfl,e⟩
   ·injection e with e1 _;rw[e1]
   ·exact nomatch e
  ·rcases io hb with ⟨j,u,rfl,e⟩|⟨y,u,rfl,e⟩
   ·exact nomatch e
   ·injection e with e1 _;rw[e1]
 byValue:=λk v h=>by
  rcases io h with ⟨i,t,rfl,rfl⟩|⟨x,t,rfl,rfl⟩<;>rfl
 pyHash:=λc h=>by
  rcases io c with ⟨i,t,rfl,rfl⟩|⟨x,t,rfl,rfl⟩
  ·exact wpAny_pyHash_int h
  ·exact wpAny_pyHash_str h
 eqBool:=λf c h=>by
  rcases io f with ⟨i,t,rfl,rfl⟩|⟨x,t,rfl,rfl⟩
  ·rcases io c with ⟨j,u,rfl,rfl⟩|⟨y,u,rfl,rfl⟩
   ·rw[L9]at h;exact wpAny_eqBool_int h
   ·rw[L8]at h;exact SeqAt.EqAt.int_str i t y u _ _ _ _ h
  ·rcases io c with ⟨j,u,rfl,rfl⟩|⟨y,u,rfl,rfl⟩
   ·rw[L7]at h;exact SeqAt.EqAt.str_int x t j u _ _ _ _ h
   ·rw[L6]at h;exact wpAny_eqBool_str h
 «strs»:=λk x t v h=>by
  rcases io h with ⟨i,u,rfl,e⟩|⟨y,u,rfl,e⟩
  ·exact nomatch e
  ·injection e with e1 _
   subst e1;cases v<;>rfl
def Bj(prog:Program)(w:World)(i:Int)(t:Tok):(cA prog w).is (.inl i) (.int i t)=true:=Mb i t
def Bi(prog:Program)(w:World)(x:Str)(t:Tok):(cA prog w).is (.inr x) (.str x t)=true:=Ma x t
inductive V where
 | non|bl (b:Bool)|int (i:Int)|str (x:Str)|byt (b:Array UInt8)|flt (b:UInt64)|ref (a:Addr)|ty (n:String)
 deriving DecidableEq
def aO:V->Value->Prop
 | .non,u=>u=Value.none
 | .bl b,u=>u=Value.bool b
 | .int i,u=>∃t,u=Value.int i t
 | .str x,u=>∃t,u=Value.str x t
 | .byt b,u=>∃t,u=Value.bytes b t
 | .flt b,u=>∃t,u=Value.float b t
 | .ref a,u=>u=Value.ref a
 | .ty n,u=>u=Value.type n
abbrev aJ:List V->List Value->Prop:=Paired aO
def aJ.length{xs:List V}{us:List Value}(r:aJ xs us):xs.length=us.length:=Paired.length r
theorem aJ.get:∀ {xs:List V} {us:List Value} {i:Nat} {x:V},aJ xs us->xs[i]? = some x->∃u,us[i]? = some u/\aO x u
 | _,_,_,_,.nil,e=>by simp at e
 | _,_,0,_,.cons r _,e=>by simp at e;subst e;exact⟨_,Z,r⟩
 | _,_,i+1,x,.cons _ t,e=>by
  obtain⟨u,b,a⟩:=aJ.get (i:=i) (x:=x) t (by simpa using e);exact⟨u,by simpa using b,a⟩
theorem aJ.append:∀ {xs b:List V} {us a:List Value},aJ xs us->aJ b a->aJ (xs++b) (us++a)
 | _,_,_,_,.nil,s=>s
 | _,_,_,_,.cons r t,s=>.cons r (aJ.append t s)
theorem aJ.take:∀ {xs:List V} {us:List Value} (n:Nat),aJ xs us->aJ (xs.take n) (us.take n)
 | _,_,0,_=>.nil
 | _,_,_+1,.nil=>.nil
 | _,_,n+1,.cons r t=>.cons r (aJ.take n t)
theorem aJ.drop:∀ {xs:List V} {us:List Value} (n:Nat),aJ xs us->aJ (xs.drop n) (us.drop n)
 | _,_,0,r=>r
 | _,_,_+1,.nil=>.nil
 | _,_,n+1,.cons _ t=>aJ.drop n t
def dl:Option V->Option Value->Prop
 | some v,some u=>aO v u
 | none,none=>True
 | _,_=>False
def KV{κ:Type}:List (κ × V)->List (κ × Value)->Prop:=Paired λ(p:κ × V) (q:κ × Value)=>p.1=q.1/\aO p.2 q.2
def kV:aQ->V
 | .inl i=>.int i
 | .inr x=>.str x
inductive HO where
 | lst (xs:List V)
 | tup (xs:List V)
 | dK (kvs:List (aQ × V))|dT (kvs:List (List aQ × V))
 | set (S:Int->Bool) (n:Nat)
 | ins (C dx:Addr) (fs:List (Str × V))
 | own (x:Addr)
 | xd (fs:List (Str × V))
 | met (f x:Addr)
 | rng (lo hi:Int)
 | frz (o:Obj) (u:HO)
 | tbl (ps:Array Value)
 | ext (φ:Heap->Prop)
abbrev Hp:=Addr->Option HO
def upd(H:Hp)(a:Addr)(o:HO):Hp:=λb=>if b=a then some o else H b
def aV{H:Hp}{a:Addr}{o:HO}:upd H a o a=some o:=by unfold upd;rw[Ww rfl]
def au{H:Hp}{a b:Addr}{o:HO}(h:b≠a):upd H a o b=H b:=by unfold upd;rw[Wv h]
def KI{H:Hp}{a b:Addr}{o u:HO}(h:H a=some o)(h':H b=some u)(d:o≠u):a≠b:=by
 intro e;subst e;rw[h]at h';exact d (T9 h')
def ba{H:Hp}{a b:Addr}{o:HO}(h:H a=some o)(h':H b=none):a≠b:=by
 intro e;subst e;rw[h]at h';cases h'
section
variable (P:Program)(w:World)
def bI(H:Hp)(h:Heap)(a:Addr):HO->Prop
 | .lst xs=>xs.length<=sizeLine/\∃(b:List Value) (n:Nat),aJ xs b/\h.get? a=some { cls:=.type "list",data:=.seq b.toArray n }
 | .tup xs=>xs.length<=sizeLine/\∃b:List Value,aJ xs b/\IsTup h a b.toArray
 | .dK kvs=>kvs.length<=sizeLine/\(a == sysModules)=false/\∃vs,KV kvs vs/\h.DictOf (cA P w) a vs
 | .dT kvs=>kvs.length<=sizeLine/\(a == sysModules)=false/\∃xs:List (List aQ × Addr × Value),
  Paired (λ(p:List aQ × V) (q:List aQ × Addr × Value)=>p.1=q.1/\H q.2.1=some (.tup (p.1.map kV))/\aO p.2 q.2.2) kvs xs /\
  ∃o es ep,h.get? a=some o/\o.ExactDict/\o.data=.dict es ep/\es.toList=xs.map (entryOfKey (tupleKind (cA P w)))/\(xs.map (·.1)).Nodup
 | .set S n=>h.SetOf (intKind P w) a S n
 | .ins C dx fs=>H dx=some (.own a)/\fs.length<=1000/\dx≠a/\h.get? a=some (W.instObj C dx) /\
  ∃mA,h.Ns1 dx mA/\(∀f,dl (fs.lookup f) (mA f))/\PySem.Within mA (fs.map (·.1))
 | .own _=>∃o,h.get? a=some o
 | .xd fs=>∃mA,h.Ns1 a mA/\∀f,dl (fs.lookup f) (mA f)
 | .rng lo hi=>∃t u v,h.get? a=some { cls:=.type "range",data:=.fields #[.int lo t,.int hi u,.int 1 v] }
 | .frz o u=>h.get? a=some o/\bI H h a u
 | .tbl ps=>h.get? a=some { cls:=.none,data:=.fields ps }
 | .met f x=>h.get? a=some (W.methodObj (.ref f) (.ref x))
 | .ext φ=>φ h/\(∃o,h.get? a=some o)/\∀h1 h2:Heap,φ h1->(∀o,h1.get? a=some o->h2.get? a=some o)->φ h2
def bK(H:Hp)(h:Heap):Prop:=∀a o,H a=some o->bI P w H h a o
end
section
variable {P:Program}{w:World}{H H':Hp}{h h':Heap}{a:Addr}{o:HO}
def bI.lt(x:bI P w H h a o):a<h.objs.size:=by
 cases o with
 | lst xs=>obtain⟨_,_,_,_,e⟩:=x;exact Tr e
 | tup xs=>obtain⟨_,_,_,p⟩:=x;exact p.lt
 | dK kvs=>obtain⟨_,_,_,_,o,_,_,e,_⟩:=x;exact Tr e
 | dT kvs=>obtain⟨_,_,_,_,o,_,_,e,_⟩:=x;exact Tr e
 | set S n=>obtain⟨o,_,_,_,e,_⟩:=x;exact Tr e
 | ins C dx fs=>obtain⟨_,_,_,e,_⟩:=x;exact Tr e
 | own y=>obtain⟨_,e⟩:=x;exact Tr e
 | xd fs=>obtain⟨_,⟨_,_,_,e,_⟩,_⟩:=x;exact Tr e
 | rng lo hi=>obtain⟨_,_,_,e⟩:=x;exact Tr e
 | frz ob u=>obtain⟨e,_⟩:=x;exact Tr e
 | tbl ps=>exact Tr (show h.get? a=some _ from x)
 | met f y=>exact Tr (show h.get? a=some _ from x)
 | ext φ=>obtain⟨_,⟨_,e⟩,_⟩:=x;exact Tr e
theorem Paired.mapP{α β:Type}{F G:α->β->Prop}:∀ {c:List α} {d:List β},Paired F c d->(∀a b,F a b->G a b)->Paired G c d
 | _,_,.nil,_=>.nil
 | _,_,.cons r t,f=>.cons (f _ _ r) (Paired.mapP t f)
def bI.stay(x:bI P w H h a o)(k:∀b u,(b=a\/H b=some (.own a))->h.get? b=some u->h'.get? b=some u)
 (ho:∀b,H b=some (.own a)->H' b=some (.own a)) (s:∀b xs,H b=some (.tup xs)->H' b=some (.tup xs)):bI P w H' h' a o:=by
 induction o with
 | lst xs=>obtain⟨z,j,n,r,e⟩:=x;exact⟨z,j,n,r,k _ _ (.inl Z) e⟩
 | tup xs=>obtain⟨z,j,r,g,e,c⟩:=x;exact⟨z,j,r,g,k _ _ (.inl Z) e,c⟩
 | dK kvs=>obtain⟨z,y,vs,r,g,es,i,e,c⟩:=x;exact⟨z,y,vs,r,g,es,i,k _ _ (.inl Z) e,c⟩
 | dT kvs =>
  obtain⟨z,y,xs,r,g,es,i,e,c⟩:=x;exact⟨z,y,xs,Paired.mapP r λp q z=>⟨z.1,s _ _ z.2.1,z.2.2⟩,g,es,i,k _ _ (.inl Z) e,c⟩
 | set S n=>obtain⟨g,es,i,t,e,c⟩:=x;exact⟨g,es,i,t,k _ _ (.inl Z) e,c⟩
 | ins C dx fs =>
  obtain⟨d,z,ne,e,mA,⟨l,es,i,m,c⟩,r⟩:=x;exact⟨ho _ d,z,ne,k _ _ (.inl Z) e,mA,⟨l,es,i,k _ _ (.inr d) m,c⟩,r⟩
 | own y=>obtain⟨g,e⟩:=x;exact⟨g,k _ _ (.inl Z) e⟩
 | xd fs=>obtain⟨mA,⟨l,es,i,e,c⟩,r⟩:=x;exact⟨mA,⟨l,es,i,k _ _ (.inl Z) e,c⟩,r⟩
 | rng lo hi=>obtain⟨t,u,v,e⟩:=x;exact⟨t,u,v,k _ _ (.inl Z) e⟩
 | frz g u ih=>obtain⟨e,q⟩:=x;exact⟨k _ _ (.inl Z) e,ih q⟩
 | tbl ps =>
  have e:h.get? a=some { cls:=.none,data:=.fields ps }:=x;show h'.get? a=some { cls:=.none,data:=.fields ps };exact k a _ (.inl Z) e
 | met f y =>
  have e:h.get? a=some (W.methodObj (.ref f) (.ref y)):=x;show h'.get? a=some (W.methodObj (.ref f) (.ref y));exact k a _ (.inl Z) e
 | ext φ=>obtain⟨p,⟨o,e⟩,st⟩:=x;exact⟨st _ _ p λo q=>k _ _ (.inl Z) q,⟨o,k _ _ (.inl Z) e⟩,st⟩
def bK.lt(x:bK P w H h)(e:H a=some o):a<h.objs.size:=(x a o e).lt
def bK.fresh(x:bK P w H h)(e:h.objs.size<=a):H a=none:=by
 cases q:H a with
 | none=>rfl
 | some u=>exact Wx (Ts (x.lt q) e) (Ua _)
def bK.kept(x:bK P w H h)(k:∀b u,h.get? b=some u->h'.get? b=some u):bK P w H h':=λa o e =>
 (x a o e).stay (λb u _ q=>k b u q) (λ_ q=>q) λ_ _ q=>q
def bK.laid(x:bK P w H h)(k:∀b u,h.get? b=some u->h'.get? b=some u)(f:h.objs.size<=a)(new:bI P w (upd H a o) h' a o):bK P w (upd H a o) h':=λb u e=>by
 have d:=x.fresh f;by_cases hb:b=a
 ·subst hb;rw[aV]at e;cases e;exact new
 ·rw[au hb]at e;exact (x b u e).stay (λc v _ q=>k c v q) (λc q=>by rw[au (ba q d)];exact q) λc xs q=>by rw[au (ba q d)];exact q
end
def Rd(H:Hp)(a:Addr)(u:HO):Prop:=H a=some u\/∃o,H a=some (.frz o u)
def Rd.ok{P:Program}{w:World}{H:Hp}{h:Heap}{a:Addr}{u:HO}(r:Rd H a u)(x:bK P w H h):bI P w H h a u:=by
 rcases r with r|⟨o,r⟩
 ·exact x a u r
 ·obtain⟨_,q⟩:=x a _ r;exact q
def ol:Option HO->Prop
 | some (.lst _)=>True
 | some (.dK _)=>True
 | some (.dT _)=>True
 | some (.set _ _)=>True
 | some (.ins _ _ _)=>True
 | some (.ext _)=>True
 | _=>False
section
variable {P:Program}{w:World}{H:Hp}{h h':Heap}{x e:Addr}{o':HO}
def bK.write(ok:bK P w H h)(g:ol (H x))(l:e=x\/H e=some (.own x))(k:∀b u,b≠e->h.get? b=some u->h'.get? b=some u)(i:∃u,h'.get? e=some u)
 (new:bI P w (upd H x o') h' x o'):bK P w (upd H x o') h':=λb u q=>by
 have a:∀c y,H c=some (.own y)->c≠x:=λc y r z=>by subst z;rw[r]at g;exact g
 have d:∀c xs,H c=some (.tup xs)->c≠x:=λc xs r z=>by subst z;rw[r]at g;exact g
 by_cases hb:b=x
 ·subst hb;rw[aV]at q;cases q;exact new
 ·rw[au hb]at q;by_cases hbe:b=e
  ·have j:H b=some (.own x):=by
    rcases l with z|z
    ·exact Wx (hbe.trans z) hb
    ·rw[hbe];exact z
   rw[q]at j;cases j;obtain⟨v,m⟩:=i;exact⟨v,by rw[hbe];exact m⟩
  ·refine (ok b u q).stay (λc v f r=>k c v ?_ r) (λc r=>by rw[au (a c b r)];exact r) λc xs r=>by rw[au (d c xs r)];exact r
   rcases f with rfl|f
   ·exact hbe
   ·rintro rfl;rcases l with z|z
    ·exact a c b f z
    ·rw[f]at z;cases z;exact hb Z
end
structure Un (fs ex:List Addr) (H H':Hp) (h h':Heap):Prop where
 keep:∀b o,h.get? b=some o->H b=none->b∉fs->b∉ex->h'.get? b=some o
 slot:∀b o,h.get? b=some o->H b=none->b∈fs->b∉ex->∃sl,h'.get? b=some { o with slots:=sl }
 free:∀b o,h.get? b=some o->H b=none->b∉ex->H' b=none
 there:∀b o,h.get? b=some o->b∉ex->∃o',h'.get? b=some o'
 tups:∀b xs,H b=some (.tup xs)->H' b=some (.tup xs)
 frzs:∀b o u,H b=some (.frz o u)->H' b=some (.frz o u)
 tbls:∀b ps,H b=some (.tbl ps)->∃more,H' b=some (.tbl (ps++more))
section
variable {fs fs' ex ex':List Addr}{H H1 H2:Hp}{h h1 h2 h':Heap}{a x e:Addr}{o:HO}
def Un.any(u:Un fs ex H H1 h h1){b:Addr}{a:Obj}(q:h.get? b=some a)(n:H b=none)(hx:b∉ex):∃sl,h1.get? b=some { a with slots:=sl }:=by
 by_cases hb:b∈fs
 ·exact u.slot b a q n hb hx
 ·exact⟨a.slots,u.keep b a q n hb hx⟩
def Un.kept(k:∀b u,h.get? b=some u->h'.get? b=some u):Un fs ex H H h h' :=
 ⟨λb a q _ _ _=>k b a q,λb a q _ _ _=>⟨a.slots,k b a q⟩,λ_ _ _ n _=>n,λb a q _=>⟨a,k b a q⟩,λ_ _ q=>q,λ_ _ _ q=>q,λ_ ps q=>⟨#[],by rw[q];simp⟩⟩
def Un.refl:Un fs ex H H h h:=Un.kept λ_ _ q=>q
def Un.laid(k:∀b u,h.get? b=some u->h'.get? b=some u)(d:h.objs.size<=a)(c:H a=none):Un fs ex H (upd H a o) h h' where
 keep:=λb u q _ _ _=>k b u q
 slot:=λb u q _ _ _=>⟨u.slots,k b u q⟩
 free:=λb u q n _=>by rw[au (Tx (Ts (Tr q) d))];exact n
 there:=λb u q _=>⟨u,k b u q⟩
 tups:=λb xs q=>by rw[au (ba q c)];exact q
 frzs:=λb u xs q=>by rw[au (ba q c)];exact q
 tbls:=λb ps q=>⟨#[],by rw[au (ba q c),q];simp⟩
def Un.write(a:ol (H x))(g:e=x\/H e=some (.own x))(k:∀b u,b≠e->h.get? b=some u->h'.get? b=some u)(d:∃u,h'.get? e=some u):Un fs ex H (upd H x o) h h':=by
 have hx:∀b,H b=none->b≠x:=λb n z=>by subst z;rw[n]at a;exact a
 have hb:∀b,H b=none->b≠e:=λb n z=>by
  subst z;rcases g with r|r
  ·exact hx b n r
  ·rw[n]at r;cases r
 have c:∀b u,H b=some u->¬ol (some u)->b≠x:=λb u q f z=>by subst z;rw[q]at a;exact f a
 refine⟨λb u q n _ _=>k b u (hb b n) q,λb u q n _ _=>⟨u.slots,k b u (hb b n) q⟩,λb u q n _=>by rw[au (hx b n)];exact n,λb u q _=>?_,
  λb xs q=>by rw[au (c b _ q λz=>z)];exact q,λb u xs q=>by rw[au (c b _ q λz=>z)];exact q,λb ps q=>⟨#[],by rw[au (c b _ q λz=>z),q];simp⟩⟩
 by_cases hbe:b=e
 ·subst hbe;exact d
 ·exact⟨u,k b u hbe q⟩
end
def oG(h:Heap)(H:Hp):List Addr:=(List.range h.objs.size).filter λa=>(H a).isSome
def iq(h:Heap)(H:Hp):Heap:=W.hideAll h (oG h H)
def MC(h:Heap)(H:Hp):(iq h H).objs.size=h.objs.size:=W.hideAll_size _ _
def MD{h:Heap}{H:Hp}{b:Addr}{o:Obj}(e:h.get? b=some o)(n:H b=none):(iq h H).get? b=some o :=
 W.hideAll_get _ e λa=>by
  have q:(H b).isSome=true:=(List.mem_filter.mp a).2;rw[n]at q;simp at q
def KC{h:Heap}{H:Hp}{b:Addr}{o:Obj}(e:(iq h H).get? b=some o):h.get? b=some o/\H b=none:=by
 have a:h.get? b=some o:=W.of_hideAll (oG h H) e;refine⟨a,?_⟩;cases q:H b with
 | none=>rfl
 | some x =>
  have c:b∈oG h H:=List.mem_filter.mpr ⟨Us.mpr (Tr a),by simp[q]⟩;have z:(iq h H).get? b=none:=W.hideAll_none (oG h H) c;rw[z]at e;cases e
def RS(g h:Heap)(L:Addr):List (Addr × Obj):=(List.range h.objs.size).filterMap λa=>if a=L\/(g.get? a).isSome=true then none else (h.get? a).map λo=>(a,o)
def bJ(g h:Heap)(L d:Addr):List (Addr × Obj):=(RS g h L).filter λp=>decide (p.1≠d)
structure Mod (K:W.Frag) (mg:Str->Option Value) (base:Heap):Prop where
 kin:K.In base
 glob:base.Ns mainGlobals mg
 blt:∃mb,base.Ns builtinsNs mb/\∀x:Str,x ≠ "__name__"->mb x=bootBuiltins x
 nolimit:base.NoLimit
structure Cx where
 prog:Program
 w:World
 K:W.Frag
 mg:Str->Option Value
 base:Heap
 A:Around
 N:List Str
 s₀:fy
 H₀:Hp
 env:Env
 outer:List Env
 stack:List Env
 ex:List Addr
 fn:Str->Bool
 calm:Bool
 pn:List (Addr × Obj)
 xe:Value->fy->Prop
def cH(l:List Env):List Addr:=l.filterMap (·.frame)
abbrev Cx.fs(X:Cx):List Addr:=cH X.outer
def n5(a:Scope)(x:Str):Prop:=a.names.lookup x=some .local\/a.names.lookup x=some .cell\/a.names.lookup x=some .free
def iY(a:Scope)(x:Str):Prop:=a.names.lookup x=some .local\/a.names.lookup x=some .cell
def RZ(env:Env)(h:Heap)(m:Str->Option Value)(x:Str)(u:Value):Prop :=
 (env.kindOf x=some .local/\m x=some u)\/((env.kindOf x=some .cell\/env.kindOf x=some .free)/\∃c,env.cells.lookup x=some c/\h.IsCell c (some u))
structure Cx.Ok (X:Cx):Prop where
 mod:Mod X.K X.mg X.base
 kind:X.env.scope.kind=.function
 glob:X.env.globals=mainGlobals
 blt:X.env.builtins=builtinsNs
 above:X.s₀.heap.objs.size<=X.env.locals
 inj:∀x y c,X.env.cells.lookup x=some c->X.env.cells.lookup y=some c->x=y
 has:∀x,(X.env.kindOf x=some .cell\/X.env.kindOf x=some .free)->∃c,X.env.cells.lookup x=some c
 cab:∀x c,X.fn x=true->X.env.cells.lookup x=some c->X.s₀.heap.objs.size<=c
 hd:X.calm=true->X.A.handled=none
 frames:X.A.frames=some X.stack
 stk:X.stack=X.outer\/(X.stack=X.env::X.outer/\X.env.frame=some X.env.locals)
 exf:∀b∈X.ex,b≠X.env.locals/\∀x c,X.env.cells.lookup x=some c->c≠b
 bs:∀b o,X.base.get? b=some o->X.s₀.heap.get? b=some o/\X.H₀ b=none
 bsz:X.base.objs.size<=X.s₀.heap.objs.size
 noex:∀b o,X.base.get? b=some o->b∉X.ex
 exfs:∀b∈X.ex,b∉X.fs
 funs:X.s₀.heap.FunFrames X.base X.outer
 frf:∀b∈X.fs,X.H₀ b=none
structure af (X:Cx) (pins:List (Addr × Obj)) (σ:List (Option V)) (H:Hp) (s:fy):Prop where
 ok:X.Ok
 os:s.os=X.s₀.os
 bare:AllBare s.gens
 base:Un X.fs X.ex X.H₀ H X.s₀.heap s.heap
 loc:∃m,s.heap.Ns X.env.locals m/\∀(i:Nat) (x:Str) (v:V),X.N[i]? = some x->σ[i]? = some (some v)->n5 X.env.scope x->∃u,aO v u/\RZ X.env s.heap m x u
 cell:∀x c,X.env.cells.lookup x=some c->∃v,s.heap.IsCell c v
 free:H X.env.locals=none
 freeC:∀x c,X.env.cells.lookup x=some c->H c=none
 pin:∀p∈X.pn++pins,s.heap.get? p.1=some p.2/\H p.1=none/\p.1≠X.env.locals/\p.1∉X.fs/\∀v,p.2.data ≠ .cell v
 hok:bK X.prog X.w H s.heap
 len:σ.length=X.N.length
section
variable {X:Cx}{pins:List (Addr × Obj)}{σ:List (Option V)}{H H':Hp}{s:fy}{h':Heap}
def Cx.Ok.nofr(ok:X.Ok){b:Addr}{o:Obj}(e:X.base.get? b=some o):b∉X.fs:=λhb=>by
 have:=(ok.funs.mem hb).1;rw[e]at this;cases this
def af.bs(I:af X pins σ H s):∀b o,X.base.get? b=some o->s.heap.get? b=some o/\H b=none:=λb o e =>
 ⟨I.base.keep b o (I.ok.bs b o e).1 (I.ok.bs b o e).2 (I.ok.nofr e) (I.ok.noex b o e),I.base.free b o (I.ok.bs b o e).1 (I.ok.bs b o e).2 (I.ok.noex b o e)⟩
def af.bk(I:af X pins σ H s):∀b o,X.base.get? b=some o->s.heap.get? b=some o:=λb o e=>(I.bs b o e).1
def af.mod(I:af X pins σ H s):Mod X.K X.mg X.base:=I.ok.mod
def af.kIn(I:af X pins σ H s):X.K.In s.heap:=I.ok.mod.kin.keeps I.bk
def af.lt(I:af X pins σ H s):X.env.locals<s.heap.objs.size:=let ⟨_,hn,_⟩:=I.loc;hn.lt
def af.sz(I:af X pins σ H s):X.s₀.heap.objs.size<=s.heap.objs.size:=TH I.ok.above (Vz I.lt)
def af.nofs(I:af X pins σ H s){a:Addr}(h:s.heap.objs.size<=a):a∉X.fs:=λhb=>by
 obtain⟨_,o,ho,_⟩:=I.ok.funs.mem hb;exact Wx (Ts (Tr ho) (TH I.sz h)) (Ua _)
def af.cne(I:af X pins σ H s):∀x c,X.env.cells.lookup x=some c->c≠X.env.locals:=λx c e z=>by
 obtain⟨v,o,ho,hd⟩:=I.cell x c e;obtain⟨m,⟨d,es,f,b,a,_⟩,_⟩:=I.loc;rw[z,b]at ho;cases ho;rw[a]at hd;cases hd
def af.funs(I:af X pins σ H s):s.heap.FunFrames X.base X.outer:=by
 have all:∀(l:List Env),(∀b∈cH l,b∈X.fs)->X.s₀.heap.FunFrames X.base l->s.heap.FunFrames X.base l:=by
  intro l
  induction l with
  | nil=>intro _ _;trivial
  | cons env r ih =>
   intro hs f;obtain⟨c,⟨L,o,hf,d,ho,hd⟩,a⟩:=f;have hL:L∈X.fs:=hs L (by unfold cH;rw[Vc,hf];exact TV);obtain⟨g,e⟩:=I.base.slot L o ho (I.ok.frf L hL) hL λz=>I.ok.exfs L z hL;exact⟨c,⟨L,_,hf,d,e,hd⟩,ih (λb hb=>hs b (by unfold cH;rw[Vc,hf];exact TW _ hb)) a⟩
 exact all X.outer (λ_ hb=>hb) I.ok.funs
def af.stack(I:af X pins σ H s):s.heap.FunFrames X.base X.stack:=by
 rcases I.ok.stk with e|⟨e,hf⟩
 ·rw[e];exact I.funs
 ·rw[e];obtain⟨m,a,_⟩:=I.loc;refine .cons (by rw[I.ok.kind];decide) hf a ?_ I.funs;exact UT (TH I.ok.bsz I.ok.above)
def af.stkSub(I:af X pins σ H s):∀b∈cH X.stack,b∈X.env.locals::X.fs:=λb hb=>by
 rcases I.ok.stk with e|⟨e,hf⟩
 ·rw[e]at hb;exact TW _ hb
 ·rw[e]at hb;unfold cH at hb;rw[Vc,hf]at hb;exact hb
def af.stkFree(I:af X pins σ H s):∀b∈cH X.stack,H b=none:=λb hb=>by
 rcases TF.mp (I.stkSub b hb) with e|hb
 ·rw[e];exact I.free
 ·obtain⟨_,o,ho,_⟩:=I.ok.funs.mem hb;exact I.base.free b o ho (I.ok.frf b hb) λz=>I.ok.exfs b z hb
def af.step{g':Array GenState}{t':Nat}{d':Drawn}{ch:List Addr}(I:af X pins σ H s)
 (a:∀b∈ch,(b∈X.ex\/X.s₀.heap.objs.size<=b)/\b≠X.env.locals/\(∀x c,X.env.cells.lookup x=some c->c≠b)/\∀p∈X.pn++pins,p.1≠b)
 (keep:∀b o,b≠X.env.locals->b∉X.fs->b∉ch->s.heap.get? b=some o->H b=none->h'.get? b=some o)
 (slot:∀b o,b≠X.env.locals->b∈X.fs->b∉ch->s.heap.get? b=some o->H b=none->∃y,h'.get? b=some { o with slots:=y }) (free:∀b o,b∉ch->s.heap.get? b=some o->H b=none->H' b=none)
 (there:∀b o,b∉ch->s.heap.get? b=some o->∃h,h'.get? b=some h)
 (tups:∀b xs,H b=some (.tup xs)->H' b=some (.tup xs)) (frzs:∀b o u,H b=some (.frz o u)->H' b=some (.frz o u)) (tbls:∀b ps,H b=some (.tbl ps)->∃more,H' b=some (.tbl (ps++more)))
 (ns:∀m,s.heap.Ns X.env.locals m->h'.Ns X.env.locals m) (hok:bK X.prog X.w H' h') (F:AllBare g') :
 af X pins σ H' { s with heap:=h',gens:=g',drawn:=d',toks:=t' }:=by
 have neL:∀b o,X.s₀.heap.get? b=some o->b≠X.env.locals:=λb o e=>Tx (Ts (Tr e) I.ok.above);have neC:∀b o,X.s₀.heap.get? b=some o->b∉X.ex->b∉ch:=λb o e hx hb=>by
  rcases (a b hb).1 with z|z
  ·exact hx z
  ·exact Wx (Ts (Tr e) z) (Ua _)
 have cellK:∀x c,X.env.cells.lookup x=some c->∀v,s.heap.IsCell c v->h'.IsCell c v:=λx c e v ⟨o,ho,hd⟩=>by
  have f:c∉ch:=λz=>(a c z).2.2.1 x c e rfl;by_cases hc:c∈X.fs
  ·obtain⟨y,q⟩:=slot c o (I.cne x c e) hc f ho (I.freeC x c e);exact⟨_,q,hd⟩
  ·exact⟨o,keep c o (I.cne x c e) hc f ho (I.freeC x c e),hd⟩
 refine⟨I.ok,I.os,F,⟨λb o e n hb hx=>?_,λb o e n hb hx=>?_,λb o e n hx=>?_,λb o e hx=>?_,λb xs e=>tups b xs (I.base.tups b xs e),λb o xs e=>frzs b o xs (I.base.frzs b o xs e),λb ps e=>?_⟩,?_,λx c e=>?_,?_,λx c e=>?_,λp C=>?_,hok,I.len⟩
 ·exact keep b o (neL b o e) hb (neC b o e hx) (I.base.keep b o e n hb hx) (I.base.free b o e n hx)
 ·obtain⟨y,g⟩:=I.base.slot b o e n hb hx;obtain⟨B,j⟩:=slot b _ (neL b o e) hb (neC b o e hx) g (I.base.free b o e n hx);exact⟨B,j⟩
 ·obtain⟨h,g⟩:=I.base.there b o e hx;exact free b h (neC b o e hx) g (I.base.free b o e n hx)
 ·obtain⟨h,g⟩:=I.base.there b o e hx;exact there b h (neC b o e hx) g
 ·obtain⟨J,g⟩:=I.base.tbls b ps e;obtain⟨G,j⟩:=tbls b _ g;exact⟨J++G,by rw[j,Array.append_assoc]⟩
 ·obtain⟨m,M,N⟩:=I.loc;refine⟨m,ns m M,λi x v g j L=>?_⟩;obtain⟨u,r,l⟩:=N i x v g j L;refine⟨u,r,?_⟩;rcases l with l|⟨k,c,e,z⟩
  ·exact .inl l
  ·exact .inr ⟨k,c,e,cellK x c e _ z⟩
 ·obtain⟨v,z⟩:=I.cell x c e;exact⟨v,cellK x c e v z⟩
 ·obtain⟨m,⟨o,_,_,ho,_⟩,_⟩:=I.loc;exact free _ o (λz=>(a _ z).2.1 Z) ho I.free
 ·obtain⟨v,o,ho,hd⟩:=I.cell x c e;exact free c o (λz=>(a c z).2.2.1 x c e Z) ho (I.freeC x c e)
 ·obtain⟨e,n,ne,D,d⟩:=I.pin p C;have f:p.1∉ch:=λz=>(a p.1 z).2.2.2 p C rfl;exact⟨keep p.1 p.2 ne D f e n,free p.1 p.2 f e n,ne,D,d⟩
def af.un{t':Nat}(I:af X pins σ H s)(u:Un X.fs [] H H' s.heap h')(hok:bK X.prog X.w H' h'):af X pins σ H' { s with heap:=h',toks:=t' }:=by
 obtain⟨m,⟨o,es,i,ho,r⟩,_⟩:=id I.loc;obtain⟨j,hL⟩:=u.any ho I.free (by simp);exact I.step (g':=s.gens) (d':=s.drawn) (ch:=[]) (λ_ z=>nomatch z) (λb o _ hb _ e n=>u.keep b o e n hb (by simp)) (λb o _ hb _ e n=>u.slot b o e n hb (by simp)) (λb o _ e n=>u.free b o e n (by simp)) (λb o _ e=>u.there b o e (by simp)) u.tups u.frzs u.tbls (λg d=>by
  obtain⟨h,es',c,a,f⟩:=d;rw[ho]at a;cases a;exact⟨_,es',c,hL,f⟩) hok I.bare
def af.call{g':Array GenState}{t':Nat}{d':Drawn}{ch:List Addr}(I:af X pins σ H s)(u:Un (cH X.stack) ch H H' s.heap h')(hok:bK X.prog X.w H' h')(h:AllBare g')
 (d:∀b∈ch,(b∈X.ex\/X.s₀.heap.objs.size<=b)/\b≠X.env.locals/\(∀x c,X.env.cells.lookup x=some c->c≠b)/\∀p∈X.pn++pins,p.1≠b) :
 af X pins σ H' { s with heap:=h',gens:=g',drawn:=d',toks:=t' }:=by
 obtain⟨m,⟨o,es,q,ho,r⟩,_⟩:=id I.loc;obtain⟨v,hL⟩:=u.any ho I.free λz=>(d _ z).2.1 rfl;exact I.step (ch:=ch) d (λb o hL hb a e n=>u.keep b o e n (λz=>(TF.mp (I.stkSub b z)).elim hL hb) a) (λb o _ _ a e n=>u.any e n a) (λb o a e n=>u.free b o e n a) (λb o a e=>u.there b o e a) u.tups u.frzs u.tbls (λk i=>by
  obtain⟨l,es',g,f,j⟩:=i;rw[ho]at f;cases f;exact⟨_,es',g,hL,j⟩) hok h
def af.turned{t':Nat}{it:Addr}(I:af X pins σ H s)(k:∀b o,b≠it->s.heap.get? b=some o->h'.get? b=some o)(l:H it=none)(hL:it≠X.env.locals)
 (h:it∈X.ex\/X.s₀.heap.objs.size<=it) (g:∀x c,X.env.cells.lookup x=some c->c≠it) (i:∀p∈X.pn++pins,p.1≠it):af X pins σ H { s with heap:=h',toks:=t' }:=by
 have d:∀b u,H b=some u->b≠it:=λb u e z=>by rw[z,l]at e;cases e
 refine I.step (g':=s.gens) (d':=s.drawn) (ch:=[it]) (λb hb=>?_) (λb o _ _ a e _=>k b o (λz=>a (by simp[z])) e) (λb o _ _ a e _=>⟨o.slots,k b o (λz=>a (by simp[z])) e⟩) (λ_ _ _ _ n=>n)
  (λb o a e=>⟨o,k b o (λz=>a (by simp[z])) e⟩) (λ_ _ e=>e) (λ_ _ _ e=>e) (λb ps e=>⟨#[],by rw[e];simp⟩) (λm f=>?_) (λb u e=>?_) I.bare
 ·have e:b=it:=by simpa using hb
  subst e;exact⟨h,hL,g,i⟩
 ·obtain⟨o,es,j,ho,r⟩:=f;exact⟨o,es,j,k _ o (Ne.symm hL) ho,r⟩
 ·refine (I.hok b u e).stay (λc v a q=>k c v ?_ q) (λ_ q=>q) λ_ _ q=>q;rcases a with z|z
  ·rw[z];exact d b u e
  ·exact d c _ z
def af.tok(I:af X pins σ H s)(t:Nat):af X pins σ H { s with toks:=t }:=I.un (h':=s.heap) (t':=t) Un.refl I.hok
def af.kept{t':Nat}(I:af X pins σ H s)(k:∀b u,s.heap.get? b=some u->h'.get? b=some u):af X pins σ H { s with heap:=h',toks:=t' }:=I.un (Un.kept k) (I.hok.kept k)
def af.laid{a:Addr}{o:HO}{t':Nat}(I:af X pins σ H s)(k:∀b u,s.heap.get? b=some u->h'.get? b=some u)(c:s.heap.objs.size<=a)(new:bI X.prog X.w (upd H a o) h' a o) :
 af X pins σ (upd H a o) { s with heap:=h',toks:=t' }:=I.un (Un.laid k c (I.hok.fresh c)) (I.hok.laid k c new)
def af.write{x e:Addr}{o:HO}{t':Nat}(I:af X pins σ H s)(c:ol (H x))(d:e=x\/H e=some (.own x))(k:∀b u,b≠e->s.heap.get? b=some u->h'.get? b=some u)(a:∃u,h'.get? e=some u)
 (new:bI X.prog X.w (upd H x o) h' x o):af X pins σ (upd H x o) { s with heap:=h',toks:=t' }:=I.un (Un.write c d k a) (I.hok.write c d k a new)
def af.pins_of{a:List (Addr × Obj)}(I:af X pins σ H s)(h:∀p∈a,s.heap.get? p.1=some p.2/\H p.1=none/\p.1≠X.env.locals/\p.1∉X.fs/\∀v,p.2.data ≠ .cell v):af X a σ H s :=
 ⟨I.ok,I.os,I.bare,I.base,I.loc,I.cell,I.free,I.freeC,λp b=>(TL.mp b).elim (λz=>I.pin p (Ub _ z)) (h p),I.hok,I.len⟩
def sP{N:List Str}(hN:N.Nodup){i j:Nat}{x:Str}(a:N[i]? = some x)(b:N[j]? = some x):i=j:=by
 obtain⟨e,c⟩:=Tz.mp a;obtain⟨f,d⟩:=Tz.mp b;exact (List.getElem_inj hN).mp (c.trans d.symm)
def zx{M:Model}{A:Around}{E:Value->fy->Prop}{i:Nat}{x:Str}{v:V}{u:Value}{Q:Unit->fy->Prop}(I:af X pins σ H s)(hN:X.N.Nodup)(L:X.N[i]? = some x)(hx:iY X.env.scope x)(r:aO v u)
 (h:∀s',af X pins (σ.set i (some v)) H s'->(∃a,Heap.SameBut a s.heap s'.heap/\(a=X.env.locals\/X.env.cells.lookup x=some a))->Q () s') (hf:X.fn x=true\/X.env.scope.names.lookup x=some .local:=by first|exact .inl rfl|exact .inr rfl|assumption):wpAny M A (storeName X.env x u) Q E s:=by
 obtain⟨m,hn,hl⟩:=id I.loc;have J:(X.env.scope.kind == .class || (X.env.scope.kind == .module && X.env.locals != X.env.globals))=false:=by rw[I.ok.kind];rfl
 have G:i<σ.length:=by rw[I.len];exact (Tz.mp L).1
 have cne:=I.cne;have g:∀ {a:Addr} {h':Heap},(∃o,s.heap.get? a=some o/\H a=none)->Heap.SameBut a s.heap h'->bK X.prog X.w H h':=λ{a h'} ha hs b ob e=>by
  obtain⟨_,_,B⟩:=ha;refine (I.hok b ob e).stay (λc S l q=>(hs.2 c ?_).trans q) (λ_ q=>q) λ_ _ q=>q;rintro rfl;rcases l with rfl|l
  ·rw[B]at e;cases e
  ·rw[B]at l;cases l
 rcases hx with hk|hk
 ·refine wpAny_storeName_local hk hn (λh' a1 hs=>?_) J;obtain⟨oL,_,_,hoL,_⟩:=id hn;refine h _ ⟨I.ok,I.os,I.bare,⟨λb o e n hb hx=>?_,λb o e n hb hx=>?_,I.base.free,λb o e hx=>?_,I.base.tups,I.base.frzs,I.base.tbls⟩,⟨_,a1,λj y v' f C Y=>?_⟩,λy c e=>?_,I.free,I.freeC,λp U=>?_,g ⟨oL,hoL,I.free⟩ hs,by simpa using I.len⟩ ⟨_,hs,.inl rfl⟩
  ·exact (hs.2 b (Tx (Ts (Tr e) I.ok.above))).trans (I.base.keep b o e n hb hx)
  ·obtain⟨W,f⟩:=I.base.slot b o e n hb hx;exact⟨W,(hs.2 b (Tx (Ts (Tr e) I.ok.above))).trans f⟩
  ·obtain⟨o',f⟩:=I.base.there b o e hx;exact⟨o',(hs.2 b (Tx (Ts (Tr e) I.ok.above))).trans f⟩
  ·by_cases hj:j=i
   ·subst hj;rw[L]at f;cases f;rw[Vd G]at C;cases C;exact⟨u,r,.inl ⟨hk,by simp⟩⟩
   ·rw[Ve (Ne.symm hj)]at C;obtain⟨u',r',q⟩:=hl j y v' f C Y;refine⟨u',r',?_⟩;rcases q with ⟨k,e⟩|⟨k,c,e,z⟩
    ·refine .inl ⟨k,?_⟩;have:y≠x:=λe=>hj (sP hN f (e ▸ L));simp[this,e]
    ·exact .inr ⟨k,c,e,z.sameBut hs (cne y c e)⟩
  ·obtain⟨S,z⟩:=I.cell y c e;exact⟨S,z.sameBut hs (cne y c e)⟩
  ·obtain⟨e,n,ne,nf,d⟩:=I.pin p U;exact⟨(hs.2 p.1 ne).trans e,n,ne,nf,d⟩
 ·have D:X.fn x=true:=by
   rcases hf with z|z
   ·exact z
   ·rw[z]at hk;cases hk
  obtain⟨c,l⟩:=I.ok.has x (.inl hk);obtain⟨S,z⟩:=I.cell x c l;refine wpAny_storeName_cell I.ok.kind hk l z (λh' F hs=>?_);obtain⟨oc,O,R⟩:=id z;refine h { s with heap:=h' } ⟨I.ok,I.os,I.bare,⟨λb o e n hb hx=>?_,λb o e n hb hx=>?_,I.base.free,λb o e hx=>?_,I.base.tups,I.base.frzs,I.base.tbls⟩,⟨m,hn.sameBut hs (Ne.symm (cne x c l)),λj y v' f C Y=>?_⟩,λy c' e=>?_,I.free,I.freeC,λp U=>?_,g ⟨oc,O,I.freeC x c l⟩ hs,by simpa using I.len⟩ ⟨c,hs,.inr l⟩
  ·exact (hs.2 b (Tx (Ts (Tr e) (I.ok.cab x c D l)))).trans (I.base.keep b o e n hb hx)
  ·obtain⟨W,f⟩:=I.base.slot b o e n hb hx;exact⟨W,(hs.2 b (Tx (Ts (Tr e) (I.ok.cab x c D l)))).trans f⟩
  ·obtain⟨o',f⟩:=I.base.there b o e hx;exact⟨o',(hs.2 b (Tx (Ts (Tr e) (I.ok.cab x c D l)))).trans f⟩
  ·by_cases hj:j=i
   ·subst hj;rw[L]at f;cases f;rw[Vd G]at C;cases C;exact⟨u,r,.inr ⟨.inl hk,c,l,F⟩⟩
   ·rw[Ve (Ne.symm hj)]at C;obtain⟨u',r',q⟩:=hl j y v' f C Y;refine⟨u',r',?_⟩;rcases q with q|⟨k,c',e,z'⟩
    ·exact .inl q
    ·refine .inr ⟨k,c',e,z'.sameBut hs ?_⟩;rintro rfl;exact hj (sP hN f (I.ok.inj _ _ _ e l ▸ L))
  ·by_cases hcc:c'=c
   ·subst hcc;exact⟨_,F⟩
   ·obtain⟨w2,z2⟩:=I.cell y c' e;exact⟨w2,z2.sameBut hs hcc⟩
  ·obtain⟨e,n,ne,nf,d⟩:=I.pin p U;refine⟨(hs.2 p.1 ?_).trans e,n,ne,nf,d⟩;intro q;rw[q,O]at e;have q':oc=p.2:=T9 e;exact d S (by rw[<- q'];exact R)
def jK{M:Model}{A:Around}{E:Value->fy->Prop}{i:Nat}{x:Str}{v:V}{u:Value}{Q:Unit->fy->Prop}(I:af X pins σ H s)(hN:X.N.Nodup)(b:X.N[i]? = some x)(hx:iY X.env.scope x)(r:aO v u)
 (h:∀a,af X pins (σ.set i (some v)) H a->Q () a) (hf:X.fn x=true\/X.env.scope.names.lookup x=some .local:=by first|exact .inl rfl|exact .inr rfl|assumption):wpAny M A (storeName X.env x u) Q E s :=
 zx I hN b hx r (λa c _=>h a c) hf
def af.call'{a:fy}{ch:List Addr}(I:af X pins σ H s)(ho:a.os=s.os)(u:Un (cH X.stack) ch H H' s.heap a.heap)(hok:bK X.prog X.w H' a.heap)(g:AllBare a.gens)
 (d:∀b∈ch,(b∈X.ex\/X.s₀.heap.objs.size<=b)/\b≠X.env.locals/\(∀x c,X.env.cells.lookup x=some c->c≠b)/\∀p∈X.pn++pins,p.1≠b):af X pins σ H' a:=by
 obtain⟨h',g',d',t',f⟩:=a;have e:f=s.os:=ho;subst e;exact I.call (g':=g') (t':=t') (d':=d') u hok g d
end
abbrev XK:=Value->Option Addr->Hp->Prop
abbrev St:=List (Option V)
abbrev VK:=V->Hp->Prop
abbrev TE:=St->Hp->VK->Prop
abbrev TT:=St->Hp->(Bool->Hp->Prop)->Prop
abbrev TA:=St->Hp->(List V->Hp->Prop)->Prop
structure fR where
 nx:St->Hp->Prop
 rt:VK
 bk:St->Hp->Prop:=λ_ _=>False
 ct:St->Hp->Prop:=λ_ _=>False
abbrev TS:=fR->St->Hp->Prop
def EP(X:Cx)(a:List (Addr × Obj))(σ:St)(Q:VK)(u:Value)(b:fy):Prop:=∃v H',af X a σ H' b/\aO v u/\Q v H'
def TP(X:Cx)(a:List (Addr × Obj))(σ:St)(Q:Bool->Hp->Prop)(b:Bool)(c:fy):Prop:=∃H',af X a σ H' c/\Q b H'
def AP(X:Cx)(a:List (Addr × Obj))(σ:St)(Q:List V->Hp->Prop)(us:List Value)(b:fy):Prop:=∃vs H',af X a σ H' b/\aJ vs us/\Q vs H'
def SP(X:Cx)(a:List (Addr × Obj))(D:fR)(f:Flow)(b:fy):Prop :=
 match f with
 | .next=>∃σ' H',af X a σ' H' b/\D.nx σ' H'
 | .brk=>∃σ' H',af X a σ' H' b/\D.bk σ' H'
 | .cont=>∃σ' H',af X a σ' H' b/\D.ct σ' H'
 | .ret u=>∃v σ' H',af X a σ' H' b/\aO v u/\D.rt v H'
def PE(X:Cx)(e:Expr)(t:TE):Prop :=
 ∀(a:List (Addr × Obj)) (s:fy) (σ:St) (H:Hp) (Q:VK),af X a σ H s->t σ H Q->wpAny (model X.prog X.w) X.A (eval e X.env) (EP X a σ Q) X.xe s
def PT(X:Cx)(e:Expr)(t:TT):Prop :=
 ∀(a:List (Addr × Obj)) (s:fy) (σ:St) (H:Hp) (Q:Bool->Hp->Prop),af X a σ H s->t σ H Q->wpAny (model X.prog X.w) X.A (isTrue e X.env (eval e X.env)) (TP X a σ Q) X.xe s
def PW(X:Cx)(e:Expr)(t:TT):Prop :=
 ∀(whole:Sem Value) (a:List (Addr × Obj)) (s:fy) (σ:St) (H:Hp) (Q:Bool->Hp->Prop),af X a σ H s->t σ H Q->wpAny (model X.prog X.w) X.A (isTrue e X.env whole) (TP X a σ Q) X.xe s
def PW.pt{X:Cx}{e:Expr}{t:TT}(h:PW X e t):PT X e t:=h _
def PA(X:Cx)(es:List Expr)(t:TA):Prop :=
 ∀(pos:Pos) (a:List (Addr × Obj)) (s:fy) (σ:St) (H:Hp) (Q:List V->Hp->Prop),af X a σ H s->t σ H Q->wpAny (model X.prog X.w) X.A (spliced (backTo pos (starEach es X.env))) (AP X a σ Q) X.xe s
def PS(X:Cx)(st:Stmt)(t:TS):Prop :=
 ∀(a:List (Addr × Obj)) (s:fy) (σ:St) (H:Hp) (D:fR),af X a σ H s->t D σ H->wpAny (model X.prog X.w) X.A (exec st X.env) (SP X a D) X.xe s
def gc(X:Cx)(st:List Stmt)(t:TS):Prop :=
 ∀(a:List (Addr × Obj)) (s:fy) (σ:St) (H:Hp) (D:fR),af X a σ H s->t D σ H->wpAny (model X.prog X.w) X.A (execs st X.env) (SP X a D) X.xe s
def az{α:Type}{t:Sem α}{Q b:α->fy->Prop}{M:Model}{A:Around}{E:Value->fy->Prop}{s:fy}(h:wpAny M A t Q E s)(hQ:∀a s,Q a s->b a s):wpAny M A t b E s:=wpAny_mono h hQ λ_ _ x=>x
section
variable {X:Cx}
def y6(i:Nat):TE:=λσ H Q=>∃v,σ[i]? = some (some v)/\Q v H
def tC(v:V):TE:=λ_ H Q=>Q v H
def AL {i:Nat} {x:Str} {pos:Pos} (hN:X.N[i]? = some x) (f:n5 X.env.scope x) (hd:(x == ("__debug__" : Str))=false:=by decide) (d:(x == ("__classdict__" : Str))=false:=by decide):PE X (.Name x pos) (y6 i):=by
 intro b s σ H Q I h;obtain⟨v,e,h⟩:=h;obtain⟨m,g,j⟩:=I.loc;obtain⟨u,r,l⟩:=j i x v hN e f;have a:EP X b σ Q u s:=⟨v,H,I,r,h⟩;rcases l with ⟨hk,hm⟩|⟨hk,c,hc,hcell⟩
 ·exact wpAny_Name (wpAny_loadName_local I.ok.kind hk g hm a) hd
 ·rcases hk with hk|hk
  ·exact wpAny_Name (wpAny_loadName_cell I.ok.kind hk hc hcell a) hd
  ·exact wpAny_Name (wpAny_loadName_free I.ok.kind hk hc hcell a d) hd
def ph{i j pos}:PE X (.Constant (.int i) j pos) (tC (.int i)):=λ_ _ _ H _ I h=>wpAny_Constant_int ⟨.int i,H,I.tok _,⟨_,rfl⟩,h⟩
def AR{b j pos}:PE X (.Constant (.bool b) j pos) (tC (.bl b)):=λ_ _ _ H _ I h=>Constant_bool ⟨.bl b,H,I,rfl,h⟩
def AN{j pos}:PE X (.Constant .none j pos) (tC .non):=λ_ _ _ H _ I h=>Constant_none ⟨.non,H,I,rfl,h⟩
def AM{x j pos}:PE X (.Constant (.str x) j pos) (tC (.str x)):=λ_ _ _ H _ I h=>Calls.Constant_str ⟨.str x,H,I.tok _,⟨_,rfl⟩,h⟩
def Gl(X:Cx)(x:Str):Prop:=X.env.kindOf x=some .globalImplicit
def jp{E:Value->fy->Prop}{a:List (Addr × Obj)}{s:fy}{σ:St}{H:Hp}{x:Str}{u:Value}{pos:Pos}{Q:Value->fy->Prop}(I:af X a σ H s)(c:Gl X x)(b:X.mg x=some u)(h:Q u s)
 (hd:(x == ("__debug__" : Str))=false:=by decide):wpAny (model X.prog X.w) X.A (eval (.Name x pos) X.env) Q E s :=
 Calls.Name_function_global I.ok.kind c (Calls.loadGlobal_global (by rw[I.ok.glob];exact I.mod.glob.keeps I.bk) b h) hd
def gL{E:Value->fy->Prop}{a:List (Addr × Obj)}{s:fy}{σ:St}{H:Hp}{x:Str}{u:Value}{pos:Pos}{Q:Value->fy->Prop}(I:af X a σ H s)(c:Gl X x)(b:X.mg x=none)(f:bootBuiltins x=some u)(h:Q u s)
 (g:x ≠ "__name__":=by decide) (hd:(x == ("__debug__" : Str))=false:=by decide):wpAny (model X.prog X.w) X.A (eval (.Name x pos) X.env) Q E s:=by
 obtain⟨i,e,d⟩:=I.mod.blt;exact Calls.Name_function_global I.ok.kind c (Calls.loadGlobal_builtin (by rw[I.ok.glob];exact I.mod.glob.keeps I.bk) b (by rw[I.ok.blt];exact e.keeps I.bk) ((d x g).trans f) h) hd
def AQ {x:Str} {v:V} {u:Value} {pos:Pos} (b:Gl X x) (a:X.mg x=some u) (r:aO v u) (hd:(x == ("__debug__" : Str))=false:=by decide):PE X (.Name x pos) (tC v) :=
 λ_ _ _ H _ I h=>jp I b a ⟨v,H,I,r,h⟩ hd
def J4 {x:Str} {v:V} {u:Value} {pos:Pos} (c:Gl X x) (a:X.mg x=none) (d:bootBuiltins x=some u) (r:aO v u) (b:x ≠ "__name__":=by decide) (hd:(x == ("__debug__" : Str))=false:=by decide):PE X (.Name x pos) (tC v) :=
 λ_ _ _ H _ I h=>gL I c a d ⟨v,H,I,r,h⟩ b hd
variable {a b:Expr}{ta tb:TE}{pos:Pos}
def tB(t:TE):TT:=λσ H Q=>t σ H λx a=>∃c,x=.bl c/\Q c a
variable {tA tB':TT}{bJ:List Expr}
def zw(t u:TT):TT:=λσ H Q=>t σ H λc a=>if c=true then u σ a Q else Q false a
def ze(t u:TT):TT:=λσ H Q=>t σ H λc a=>if c=true then Q true a else u σ a Q
def zf(t:TT):TT:=λσ H Q=>t σ H λc a=>Q (!c) a
def IS(d:PT X a tA):PW X (.BoolOp .And [a] pos) tA:=by
 intro f b s σ H Q I h;refine isTrue_and (az (d b s σ H Q I h) λc s1 e=>?_);cases c with
 | true=>exact isTrue_and_nil e
 | false=>exact e
def IP(d:PT X a tA):PW X (.BoolOp .Or [a] pos) tA:=by
 intro f b s σ H Q I h;refine isTrue_or (az (d b s σ H Q I h) λc s1 e=>?_);cases c with
 | false=>exact isTrue_or_nil e
 | true=>exact e
def IT(i:PT X a tA)(hb:PW X (.BoolOp .And (b::bJ) pos) tB'):PW X (.BoolOp .And (a::b::bJ) pos) (zw tA tB'):=by
 intro j d s σ H Q I h;refine isTrue_and (az (i d s σ H _ I h) λc s1 ⟨g,e,f⟩=>?_);cases c with
 | true=>exact hb j d s1 σ g Q e f
 | false=>exact⟨g,e,f⟩
def IQ(i:PT X a tA)(hb:PW X (.BoolOp .Or (b::bJ) pos) tB'):PW X (.BoolOp .Or (a::b::bJ) pos) (ze tA tB'):=by
 intro j d s σ H Q I h;refine isTrue_or (az (i d s σ H _ I h) λc s1 ⟨g,e,f⟩=>?_);cases c with
 | true=>exact⟨g,e,f⟩
 | false=>exact hb j d s1 σ g Q e f
def IY(d:PT X a tA):PT X (.UnaryOp .Not a pos) (zf tA):=by
 intro b s σ H Q I h;exact isTrue_not (d b s σ H (λc e=>Q (!c) e) I h)
def JN{op}{t:TE}(h:PE X a t):PE X (.BoolOp op [a] pos) t:=λb s σ H Q I hw=>BoolOp_one (h b s σ H Q I hw)
def zm(t:TT)(b tb:TE):TE:=λσ H Q=>t σ H λc a=>if c=true then b σ a Q else tb σ a Q
def JR{c:Expr}(j:PT X c tA)(k:PE X a ta)(hb:PE X b tb):PE X (.IfExp c a b pos) (zm tA ta tb):=by
 intro e s σ H Q I h;refine wpAny_IfExp (az (j e s σ H _ I h) λd s1 ⟨f,g,i⟩=>?_);cases d with
 | true=>exact k e s1 σ f Q g i
 | false=>exact hb e s1 σ f Q g i
end
def aE(K:W.Frag)(H:Hp)(a:Addr)(xs:List V):Prop :=
 Rd H a (.lst xs) \/
  ∃(o:Obj) (b:Array Value) (n:Nat),K.lookup a=some o/\o.cls=.type "list"/\o.dict=none/\o.data=.seq b n/\b.size<=sizeLine/\aJ xs b.toList
def bv(K:W.Frag)(H:Hp)(a:Addr)(xs:List V):Prop :=
 Rd H a (.tup xs) \/
  ∃(o:Obj) (b:Array Value) (n:Nat),K.lookup a=some o/\o.cls=.type "tuple"/\o.data=.seq b n/\b.size<=sizeLine/\aJ xs b.toList
def RU:Value->Option V
 | .none=>some .non
 | .bool b=>some (.bl b)
 | .int i _=>some (.int i)
 | .str x _=>some (.str x)
 | .bytes b _=>some (.byt b)
 | .float b _=>some (.flt b)
 | .ref a=>some (.ref a)
 | .type n=>some (.ty n)
 | _=>none
def aO.abs{x:V}{u:Value}(r:aO x u):RU u=some x:=by
 cases x with
 | non=>cases r;rfl
 | bl _=>cases r;rfl
 | int _=>obtain⟨t,rfl⟩:=r;rfl
 | str _=>obtain⟨t,rfl⟩:=r;rfl
 | byt _=>obtain⟨t,rfl⟩:=r;rfl
 | flt _=>obtain⟨t,rfl⟩:=r;rfl
 | ref _=>cases r;rfl
 | ty _=>cases r;rfl
def aO.inj{x y:V}{u:Value}(r:aO x u)(q:aO y u):x=y:=T9 (r.abs.symm.trans q.abs)
theorem aJ.inj:∀ {xs a:List V} {us:List Value},aJ xs us->aJ a us->xs=a
 | _,_,_,.nil,.nil=>rfl
 | _,_,_,.cons r t,.cons r' t'=>by rw[r.inj r',aJ.inj t t']
section
variable {X:Cx}{pins:List (Addr × Obj)}{σ:St}{H:Hp}{s:fy}{a:Addr}{xs ys:List V}
def aE.of{K:W.Frag}(h:H a=some (.lst xs)):aE K H a xs:=.inl (.inl h)
def bv.of{K:W.Frag}(h:H a=some (.tup xs)):bv K H a xs:=.inl (.inl h)
def af.list(I:af X pins σ H s)(h:aE X.K H a xs):∃b:List Value,aJ xs b/\PlainL s.heap a b.toArray/\xs.length<=sizeLine:=by
 rcases h with h|⟨o,b,n,hk,hc,hd,hs,hz,r⟩
 ·obtain⟨z,b,n,r,e⟩:=h.ok I.hok;exact⟨b,r,⟨_,n,e,Z,Z,Z⟩,z⟩
 ·refine⟨b.toList,r,⟨o,n,I.kIn a o hk,hc,hd,by simpa using hs⟩,?_⟩;have e:=r.length;simp only [T2]at e;omega
def af.tuple(I:af X pins σ H s)(h:bv X.K H a xs):∃b:List Value,aJ xs b/\IsTup s.heap a b.toArray/\xs.length<=sizeLine:=by
 rcases h with h|⟨o,b,n,hk,hc,hs,hz,r⟩
 ·obtain⟨z,b,r,p⟩:=h.ok I.hok;exact⟨b,r,p,z⟩
 ·refine⟨b.toList,r,⟨o,I.kIn a o hk,hc,n,by simpa using hs⟩,?_⟩;have e:=r.length;simp only [T2]at e;omega
def af.list_inj(I:af X pins σ H s)(h:aE X.K H a xs)(h':aE X.K H a ys):xs=ys:=by
 obtain⟨b,r,⟨o,n,e,_,_,d⟩,_⟩:=I.list h;obtain⟨its',f,⟨g,i,c,_,_,d'⟩,_⟩:=I.list h';rw[e]at c;cases c;rw[d]at d'
 injection d' with d1 _
 have:b=its':=by simpa using congrArg Array.toList d1
 subst this;exact r.inj f
def af.tuple_inj(I:af X pins σ H s)(h:bv X.K H a xs)(h':bv X.K H a ys):xs=ys:=by
 obtain⟨b,r,⟨o,e,_,n,d⟩,_⟩:=I.tuple h;obtain⟨its',f,⟨g,c,_,i,d'⟩,_⟩:=I.tuple h';rw[e]at c;cases c;rw[d]at d'
 injection d' with d1 _
 have:b=its':=by simpa using congrArg Array.toList d1
 subst this;exact r.inj f
end
abbrev Cx.wish(X:Cx)(E:Value->fy->Prop):Cx:={ X with xe:=E }
abbrev Cx.nox(X:Cx):Cx:=X.wish λ_ _=>False
def Cx.Ok.wish{X:Cx}(ok:X.Ok)(E:Value->fy->Prop):(X.wish E).Ok :=
 ⟨ok.mod,ok.kind,ok.glob,ok.blt,ok.above,ok.inj,ok.has,ok.cab,ok.hd,ok.frames,ok.stk,ok.exf,ok.bs,ok.bsz,ok.noex,ok.exfs,ok.funs,ok.frf⟩
def Cx.Ok.unwish{X:Cx}{E:Value->fy->Prop}(ok:(X.wish E).Ok):X.Ok :=
 ⟨ok.mod,ok.kind,ok.glob,ok.blt,ok.above,ok.inj,ok.has,ok.cab,ok.hd,ok.frames,ok.stk,ok.exf,ok.bs,ok.bsz,ok.noex,ok.exfs,ok.funs,ok.frf⟩
section
variable {X:Cx}{pins:List (Addr × Obj)}{σ:St}{H:Hp}{s:fy}{E:Value->fy->Prop}
def af.wish(I:af X pins σ H s)(E:Value->fy->Prop):af (X.wish E) pins σ H s:=⟨I.ok.wish E,I.os,I.bare,I.base,I.loc,I.cell,I.free,I.freeC,I.pin,I.hok,I.len⟩
def af.unwish(I:af (X.wish E) pins σ H s):af X pins σ H s:=⟨I.ok.unwish,I.os,I.bare,I.base,I.loc,I.cell,I.free,I.freeC,I.pin,I.hok,I.len⟩
def SP.unwish{D:fR}{f:Flow}{c:fy}(h:SP (X.wish E) pins D f c):SP X pins D f c:=by
 cases f with
 | next=>obtain⟨b,a,I,q⟩:=h;exact⟨b,a,I.unwish,q⟩
 | brk=>obtain⟨b,a,I,q⟩:=h;exact⟨b,a,I.unwish,q⟩
 | cont=>obtain⟨b,a,I,q⟩:=h;exact⟨b,a,I.unwish,q⟩
 | ret u=>obtain⟨v,b,a,I,r,q⟩:=h;exact⟨v,b,a,I.unwish,r,q⟩
def gc.nox{st:List Stmt}{t:TS}(h:gc X.nox st t):gc X st t:=λa s σ H D I hw =>
 wpAny_mono (h a s σ H D (I.wish _) hw) (λ_ _ q=>q.unwish) λ_ _ z=>False.elim z
end
section
variable {X:Cx}{st:Stmt}{bJ:List Stmt}{t u:TS}{e:Expr}{te:TE}{pos:Pos}
def mx:TS:=λD σ H=>D.nx σ H
def mw(t u:TS):TS:=λD σ H=>t { D with nx:=u D } σ H
def I0:gc X [] mx:=λ_ _ σ H _ I h=>wpAny_execs_nil ⟨σ,H,I,h⟩
def Ja(e:PS X st t)(c:gc X bJ u):gc X (st::bJ) (mw t u):=by
 intro a s σ H D I h;refine wpAny_execs_cons (az (e a s σ H { D with nx:=u D } I h) λf s1 q=>?_);cases f with
 | next =>
  obtain⟨g,b,d,q⟩:=q;exact c a s1 g b D d q
 | ret v=>exact q
 | brk=>exact q
 | cont=>exact q
def IZ(b:PS X st t):gc X [st] t:=by
 intro a s σ H D I h;refine wpAny_execs_cons (az (b a s σ H D I h) λf s1 q=>?_);cases f with
 | next=>exact wpAny_execs_nil q
 | ret v=>exact q
 | brk=>exact q
 | cont=>exact q
def zu:TS:=λD σ H=>D.bk σ H
def Jm:PS X (.Break pos) zu:=λ_ _ σ H _ I h=>wpAny_Break ⟨σ,H,I,h⟩
def af.quiet{a:List (Addr × Obj)}{σ:St}{H:Hp}{s:fy}(I:af X a σ H s):interactive X.env=false:=by simp[interactive,I.ok.kind]
def zp(a:TE):TS:=λD σ H=>a σ H λ_ b=>D.nx σ b
def Jk(d:PE X e te)(hs:swapsWith e none pos.line X.env=pure false:=by rfl):PS X (.Expr e pos) (zp te):=by
 intro a s σ H D I h;exact wpAny_Expr_any (az (d a s σ H _ I h) λv s1 ⟨x,b,c,g,f⟩=>⟨σ,b,c,f⟩) I.quiet hs
def zb(a:TE):TS:=λD σ H=>a σ H D.rt
def Jd(f:PE X e te):PS X (.Return (some e) pos) (zb te):=by
 intro a s σ H D I h;exact wpAny_Return_some (az (f a s σ H _ I h) λv s1 ⟨x,b,d,c,g⟩=>⟨x,σ,b,d,c,g⟩)
def zl(c:TT)(t u:TS):TS:=λD σ H=>c σ H λb a=>if b=true then t D σ a else u D σ a
def Jg{c:Expr}{a b:List Stmt}{g:TT}(k:PT X c g)(l:gc X a t)(hb:gc X b u):PS X (.If c a b pos) (zl g t u):=by
 intro e s σ H D I h;refine wpAny_If (az (k e s σ H _ I h) λd s1 ⟨f,i,j⟩=>?_);cases d with
 | true=>exact l e s1 σ f D i j
 | false=>exact hb e s1 σ f D i j
def zi:TS:=λ_ _ _=>False
def Jf:PS X st zi:=λ_ _ _ _ _ _ h=>h.elim
end
abbrev TG:=V->St->Hp->(St->Hp->Prop)->Prop
abbrev hU:=List V->St->Hp->(St->Hp->Prop)->Prop
def PG(X:Cx)(a:Expr)(t:TG):Prop :=
 ∀(b:List (Addr × Obj)) (s:fy) (σ:St) (H:Hp) (v:V) (u:Value) (Q:St->Hp->Prop),af X b σ H s->aO v u->t v σ H Q ->
  wpAny (model X.prog X.w) X.A (assign a X.env u) (λ_ c=>∃σ' H',af X b σ' H' c/\Q σ' H') X.xe s
def oj(X:Cx)(b:List Expr)(t:hU):Prop :=
 ∀(a:List (Addr × Obj)) (s:fy) (σ:St) (H:Hp) (vs:List V) (us:List Value) (Q:St->Hp->Prop),af X a σ H s->aJ vs us->t vs σ H Q ->
  wpAny (model X.prog X.w) X.A (assignInOrder ((assignEach b X.env).map (·.2)) us) (λ_ c=>∃σ' H',af X a σ' H' c/\Q σ' H') X.xe s
section
variable {X:Cx}{pos:Pos}
def bP(i:Nat):TG:=λv σ H Q=>Q (σ.set i (some v)) H
def JI{i:Nat}{x:Str}(hN:X.N.Nodup)(b:X.N[i]? = some x)(hx:iY X.env.scope x)(hf:X.fn x=true\/X.env.scope.names.lookup x=some .local:=by first|exact .inl rfl|exact .inr rfl|assumption):PG X (.Name x pos) (bP i):=by
 intro a s σ H v u Q I r h;exact wpAny_assign_Name (jK I hN b hx r (λd c=>⟨_,H,c,h⟩) hf)
def tV:hU:=λvs σ H Q=>vs=[]/\Q σ H
def qd(t:TG)(u:hU):hU:=λvs σ H Q=>∃v r,vs=v::r/\t v σ H λb a=>u r b a Q
def JF:oj X [] tV:=by
 intro a s σ H vs us Q I r h;obtain⟨e,h⟩:=h;subst e;cases r;exact assignInOrder_nil ⟨σ,H,I,h⟩
def JG{e:Expr}{es:List Expr}{t:TG}{u:hU}(g:PG X e t)(d:oj X es u)
 (hs:(assignEach (e::es) X.env).map (·.2)=assign e X.env::(assignEach es X.env).map (·.2):=by rfl):oj X (e::es) (qd t u):=by
 intro a s σ H vs us Q I r h;obtain⟨v,k,b,h⟩:=h;subst b;cases r with
 | cons r rr =>
  rw[hs];refine assignInOrder_cons (az (g a s σ H _ _ _ I r h) λ_ s1 ⟨j,i,c,f⟩=>?_);exact d a s1 j i _ _ Q c rr f
def qa(K:W.Frag)(n:Nat)(t:hU):TG:=λv σ H Q=>∃a xs,v=.ref a/\bv K H a xs/\xs.length=n/\t xs σ H Q
def JH{es:List Expr}{k:Nat}{t:hU}{n:Nat}(l:X.calm=true)(h:oj X es t)
 (m:(assignEach es X.env).length=n:=by rfl) (d:(assignEach es X.env).findIdx? (·.1)=none:=by rfl):PG X (.Tuple es k pos) (qa X.K n t):=by
 intro c s σ H v u Q I r hw;obtain⟨a,xs,g,p,q,hw⟩:=hw;subst g;cases r;obtain⟨j,f,x,hz⟩:=I.tuple p;refine assign_Tuple_tuple (I.ok.hd l) x (by simp[m,<- q,f.length]) d λh' hx=>?_;have i:af X c σ H { s with heap:=h' }:=I.kept (t':=s.toks) λb o e=>hx b o (Tx (Tr e)) e;exact h c _ σ H xs _ Q i (by simpa using f) hw
def jI(a:TE)(g:TG):TS:=λD σ H=>a σ H λx b=>g x σ b D.nx
def Jn{b e:Expr}{c:TE}{g:TG}(j:PE X e c)(d:PG X b g)(hs:swapsWithSole [b] e pos.line X.env=pure false:=by rfl)(hw:swappedStores [b] e X.env=pure none:=by rfl)
 (l:(assignEach [b] X.env).map (·.2)=[assign b X.env]:=by rfl):PS X (.Assign [b] e pos) (jI c g):=by
 intro a s σ H D I h;refine wpAny_Assign_stores (az (j a s σ H _ I h) λv s1 ⟨x,m,i,f,k⟩=>?_) hs hw;rw[l];exact az (d a s1 σ m x v _ i f k) λ_ n q=>q
def Jc{i:Nat}{x:Str}{e:Expr}{c:TE}{a:Pos}(hN:X.N.Nodup)(m:X.N[i]? = some x)(hx:iY X.env.scope x)(g:PE X e c)(hs:swapsWith e (some (.Name x a)) pos.line X.env=pure false:=by rfl)(hf:X.fn x=true\/X.env.scope.names.lookup x=some .local:=by first|exact .inl rfl|exact .inr rfl|assumption) :
 PS X (.Assign [.Name x a] e pos) (jI c (bP i)):=by
 intro b s σ H D I h;refine wpAny_Assign_Name (az (g b s σ H _ I h) λv s1 ⟨y,l,f,d,j⟩=>?_) hs;exact jK f hN m hx d (λn k=>⟨_,l,k,j⟩) hf
def zd(i j:Nat)(a:TA):TS:=λD σ H=>a σ H λvs b=>∃v w,vs=[v,w]/\D.nx ((σ.set i (some v)).set j (some w)) b
def Je{i j:Nat}{x y:Str}{a b:Expr}{z:TA}{g l pt:Pos}{kt k2 pt2}(U:X.calm=true)(hN:X.N.Nodup)(O:X.N[i]? = some x)(L:X.N[j]? = some y)(m:i≠j)
 (hx:X.env.scope.names.lookup x=some .local) (r:X.env.scope.names.lookup y=some .local) (M:PA X [a,b] z)
 (hw:swappedStores [.Tuple [.Name x g,.Name y l] kt pt] (.Tuple [a,b] k2 pt2) X.env=pure (some [x,y]))
 (hs:swapsWithSole [.Tuple [.Name x g,.Name y l] kt pt] (.Tuple [a,b] k2 pt2) pos.line X.env=pure false:=by rfl) :
 PS X (.Assign [.Tuple [.Name x g,.Name y l] kt pt] (.Tuple [a,b] k2 pt2) pos) (zd i j z):=by
 intro c s σ H D I h;rw[exec_Assign_arm];refine kb (wpAny_standAt ?_);rw[hs];refine kb (on ?_);rw[Wv (by decide)];refine kb (Tuple_ (az (M _ c s σ H _ I h) λus s1 ⟨vs,u,J,S,n⟩=>?_));obtain⟨v,w,C,n⟩:=n;subst C;obtain⟨d,u2,rfl,F,f⟩:∃d u2,us=[d,u2]/\aO v d/\aO w u2:=by
  cases S with
  | cons p q =>
   cases q with
   | cons p' q' =>
    cases q';exact⟨_,_,Z,p,p'⟩
 refine wpAny_newObj_type ?_ (by show 2<=sizeLine;decide);have G:af X c σ u { s1 with heap:=s1.heap.push { cls:=.type "tuple",data:=.seq [d,u2].toArray } }:=J.kept (t':=s1.toks) λb o e=>Tu _ e;rw[hw];refine kb (on ?_);show wpAny (model X.prog X.w) X.A (do rule "assign.swapped-stores"; let items <- unpackItems (.ref s1.heap.objs.size) 2 none;assignInOrder [λv=>bindName X.env y v,λv=>bindName X.env x v] items.reverse;pure Flow.next) _ _ _;refine kb (wpAny_rule (kb (unpackItems_tuple (items:=#[d,u2]) (I.ok.hd U) (IsTup.new s1.heap _) λh' k=>?_)));have V:=G.kept (h':=h') (t':=s1.toks) λb o e=>k b o (Tx (Tr e)) e;show wpAny _ _ (assignInOrder [λv=>bindName X.env y v,λv=>bindName X.env x v] [u2,d] >>= λ_=>pure Flow.next) _ _ _;refine kb (assignInOrder_cons (wpAny_bindName (jK V hN L (.inl r) f (λW R=>?_) (.inr r))));refine assignInOrder_cons (wpAny_bindName (jK R hN O (.inl hx) F (λY B=>assignInOrder_nil (on ?_)) (.inr hx)));rw[List.set_comm _ _ (Ne.symm m)]at B;exact⟨_,u,B,n⟩
end
structure It where
 go:Nat->Hp->Prop
 yld:Nat->Hp->V->Hp->Prop
 stop:Nat->Hp->Prop
def gj(X:Cx)(a:List (Addr × Obj))(H:Hp)(b:Addr):Prop :=
 H b=none/\b≠X.env.locals/\b∉X.fs/\(b∈X.ex\/X.s₀.heap.objs.size<=b)/\(∀x c,X.env.cells.lookup x=some c->c≠b)/\∀p∈X.pn++a,p.1≠b
def af.fpOk{X:Cx}{a:List (Addr × Obj)}{σ:St}{H d:Hp}{s:fy}{b:Addr}(I:af X a σ H s)(hb:s.heap.objs.size<=b)(f:d b=none):gj X a d b:=by
 refine⟨f,Ut (Ts I.lt hb),I.nofs hb,.inr (TH I.sz hb),λx c e z=>?_,λp g z=>?_⟩
 ·obtain⟨v,q⟩:=I.cell x c e;exact Wx (Ts q.lt (by rw[z];exact hb)) (Ua _)
 ·exact Wx (Ts (Tr (I.pin p g).1) (by rw[z];exact hb)) (Ua _)
structure iU (P:Program) (w:World) (K:W.Frag) (tg:Expr) (J:It) (fp:List Addr) (it:Addr) (tn:Nat->Heap->Prop):Prop where
 mem:it∈fp
 obj:∀i h,tn i h->∀b∈fp,∃o,h.get? b=some o/\∀v,o.data ≠ .cell v
 keep:∀i h h',tn i h->(∀b∈fp,∀o,h.get? b=some o->h'.get? b=some o)->tn i h'
 item:∀(X:Cx),X.prog=P->X.w=w->X.K=K->X.calm=true->∀(i:Nat) (pins:List (Addr × Obj)) (s:fy) (σ:St) (H:Hp) (E:Value->fy->Prop),af X pins σ H s->(∀b∈fp,gj X pins H b)->tn i s.heap->J.go i H ->
  wpAny (model P w) X.A (pyNext (.ref it)) (λr s1=>∃u,r=some u /\
   wpAny (model P w) X.A (letOwnedTupleGo tg (.ref it) u) (λ_ s2=>∃x H',af X pins σ H' s2/\aO x u/\J.yld i H x H'/\tn (i+1) s2.heap/\∀b∈fp,H' b=none) E s1) E s
 done:∀(X:Cx),X.prog=P->X.w=w->X.K=K->X.calm=true->∀(i:Nat) (pins:List (Addr × Obj)) (s:fy) (σ:St) (H:Hp) (E:Value->fy->Prop),af X pins σ H s->(∀b∈fp,gj X pins H b)->tn i s.heap->J.stop i H ->
  wpAny (model P w) X.A (pyNext (.ref it)) (λr s1=>r=none/\af X pins σ H s1) E s
 self:∀(A:Around) (i:Nat) (s:fy) (Q:Value->fy->Prop) (E:Value->fy->Prop),tn i s.heap->Q (.ref it) s->wpAny (model P w) A (pyIter (.ref it)) Q E s
abbrev TI:=St->Hp->(It->Hp->Prop)->Prop
def Dv(X:Cx)(a:List (Addr × Obj))(σ:St)(f:Expr)(R:It->Hp->Prop)(c:Value)(e:fy):Prop :=
 ∃(it:Addr) (fp:List Addr) (tn:Nat->Heap->Prop) (J:It) (d:Hp),c=.ref it/\af X a σ d e/\iU X.prog X.w X.K f J fp it tn/\tn 0 e.heap/\(∀b∈fp,gj X a d b)/\R J d
def PI(X:Cx)(c b:Expr)(d:TI):Prop :=
 ∀(a:List (Addr × Obj)) (s:fy) (σ:St) (H:Hp) (R:It->Hp->Prop),af X a σ H s->d σ H R ->
  wpAny (model X.prog X.w) X.A (eval b X.env) (λv s1=>wpAny (model X.prog X.w) X.A (pyIter v) (Dv X a σ c R) X.xe s1) X.xe s
def pX{M:Model}{A:Around}{E:Value->fy->Prop}{s:fy}{a:Expr}{it:Addr}{u:Value}{o:Obj}{n:String}{vs:Array Value}{Q:Unit->fy->Prop}(ho:s.heap.get? it=some o)(c:o.cls=.type n)(hd:o.data=.fields vs)
 (b:["enumerate", "zip", "dict_itemiterator", "dict_reverseitemiterator", "odict_iterator", "itertools.zip_longest", "itertools.pairwise"].contains n=false) (hQ:Q () s):wpAny M A (letOwnedTupleGo a (.ref it) u) Q E s:=by
 unfold letOwnedTupleGo;cases a<;>first
  | exact on hQ
  | (cases u<;>first
      | exact on hQ
      | (refine kb (wpAny_load ho ?_)
         rw[c,hd];show wpAny M A (if (["enumerate", "zip", "dict_itemiterator", "dict_reverseitemiterator", "odict_iterator", "itertools.zip_longest", "itertools.pairwise"].contains n && vs[0]? == some (rawInt _))=true then _ else _) Q E s;rw[Wv (by intro h;rw[b,Bool.false_and]at h;cases h)];exact on hQ))
def jD(K:W.Frag)(a:Addr):It :=
 ⟨λi H=>∃xs x,aE K H a xs/\xs[i]? = some x,λi H x b=>b=H/\∀xs,aE K H a xs->xs[i]? = some x,λi H=>∃xs,aE K H a xs/\xs.length<=i⟩
def om(K:W.Frag)(a:Addr):It :=
 ⟨λi H=>∃xs x,bv K H a xs/\xs[i]? = some x,λi H x b=>b=H/\∀xs,bv K H a xs->xs[i]? = some x,λi H=>∃xs,bv K H a xs/\xs.length<=i⟩
def iC(lo:Int)(n:Nat):It:=⟨λi _=>i<n,λi H x a=>a=H/\x=.int (lo+i),λi _=>n<=i⟩
def Fw{P:Program}{w:World}{K:W.Frag}{F:Expr}(a it:Addr):iU P w K F (jD K a) [it] it (λi h=>h.IsListIter it a i) where
 mem:=by simp
 obj:=λi h st b hb=>by
  have e:b=it:=by simpa using hb
  subst e;obtain⟨o,e,c,d⟩:=st;exact⟨o,e,λv z=>by rw[d]at z;cases z⟩
 keep:=λi h h' st k=>st.at λo e=>k it (by simp) o e
 item:=by
  intro X hP hw hK D i f s σ H E I hf st r;subst hP hw hK;obtain⟨xs,x,j,hx⟩:=r;obtain⟨l,n,p,hz⟩:=I.list j;obtain⟨u,O,N⟩:=n.get hx;obtain⟨m,B,M,C,q,y⟩:=hf it (by simp);refine wpAny_pyNext_list_item st p.isList (x:=u) (by simpa using O) λh' g sb=>?_;have L:af X f σ H { s with heap:=h' }:=I.turned (t':=s.toks) (λb o hb e=>(sb.2 b hb).trans e) m B C q y;obtain⟨o,e,c,d⟩:=id g;exact⟨u,rfl,pX (s:={ s with heap:=h' }) e c d (by decide) ⟨x,H,L,N,⟨rfl,λS G=>by rw[I.list_inj G j];exact hx⟩,g,λb hb=>(hf b hb).1⟩⟩
 done:=by
  intro X hP hw hK D i f s σ H E I hf st r;subst hP hw hK;obtain⟨xs,j,hx⟩:=r;obtain⟨l,n,p,hz⟩:=I.list j;obtain⟨m,B,M,C,q,y⟩:=hf it (by simp);have R:=n.length;exact wpAny_pyNext_list_end (I.ok.hd D) st p.isList (by simp;omega) λh' J=>⟨rfl,I.turned (t':=s.toks) (λb o hb e=>J b o hb e) m B C q y⟩
 self:=λ_ _ _ _ _ st h=>wpAny_pyIter_listiter st h
def Fs{P:Program}{w:World}{K:W.Frag}{F:Expr}(a it:Addr):iU P w K F (om K a) [it] it (λi h=>h.IsTupleIter it a i) where
 mem:=by simp
 obj:=λi h st b hb=>by
  have e:b=it:=by simpa using hb
  subst e;obtain⟨o,e,c,d⟩:=st;exact⟨o,e,λv z=>by rw[d]at z;cases z⟩
 keep:=λi h h' st k=>st.at λo e=>k it (by simp) o e
 item:=by
  intro X hP hw hK D i f s σ H E I hf st r;subst hP hw hK;obtain⟨xs,x,l,hx⟩:=r;obtain⟨g,n,p,hz⟩:=I.tuple l;obtain⟨u,O,N⟩:=n.get hx;obtain⟨m,B,M,C,q,y⟩:=hf it (by simp);refine wpAny_pyNext_tuple_item st (show s.heap.IsTuple a g.toArray from p) (x:=u) (by simpa using O) λh' j sb=>?_;have L:af X f σ H { s with heap:=h' }:=I.turned (t':=s.toks) (λb o hb e=>(sb.2 b hb).trans e) m B C q y;obtain⟨o,e,c,d⟩:=id j;exact⟨u,rfl,pX (s:={ s with heap:=h' }) e c d (by decide) ⟨x,H,L,N,⟨rfl,λS G=>by rw[I.tuple_inj G l];exact hx⟩,j,λb hb=>(hf b hb).1⟩⟩
 done:=by
  intro X hP hw hK D i f s σ H E I hf st r;subst hP hw hK;obtain⟨xs,l,hx⟩:=r;obtain⟨g,n,p,hz⟩:=I.tuple l;obtain⟨m,B,M,C,q,y⟩:=hf it (by simp);have R:=n.length;exact wpAny_pyNext_tuple_end (I.ok.hd D) st (show s.heap.IsTuple a g.toArray from p) (by simp;omega) λh' J=>⟨rfl,I.turned (t':=s.toks) (λb o hb e=>J b o hb e) m B C q y⟩
 self:=λ_ _ _ _ _ st h=>wpAny_pyIter_tupleiter st h
def Fv{P:Program}{w:World}{K:W.Frag}{r:Expr}(it:Addr)(lo:Int)(n:Nat):iU P w K r (iC lo n) [it] it (λi h=>IsRangeIter h it (lo+(i:Nat)*1) ((n:Int)-(i:Nat)) 1) where
 mem:=by simp
 obj:=λi h st b hb=>by
  have e:b=it:=by simpa using hb
  subst e;exact⟨_,st,λv z=>by
   have u:Data.fields _=Data.cell v:=z;cases u⟩
 keep:=λi h h' st k=>k it (by simp) _ st
 item:=by
  intro X hP hw hK m i a s σ H E I hf st f;subst hP hw hK;obtain⟨j,p,D,d,l,g⟩:=hf it (by simp);have W:=Walks.range (prog:=X.prog) (w:=X.w) (I.ok.hd m) it lo 1 n;refine W.item i s _ _ f st λv h' q B c y=>?_;obtain⟨t,rfl⟩:=B;have x:af X a σ H { s with heap:=h',toks:=q }:=I.turned (λb o hb e=>y b o (by simpa using hb) e) j p d l g;refine⟨_,rfl,pX (s:={ s with heap:=h',toks:=q }) (n := "range_iterator") c rfl rfl (by decide) ⟨.int (lo+i),H,x,⟨t,?_⟩,⟨rfl,rfl⟩,c,λb hb=>(hf b hb).1⟩⟩;rw[Int.mul_one]
 done:=by
  intro X hP hw hK m i a s σ H E I hf st f;subst hP hw hK;obtain⟨j,p,D,d,l,g⟩:=hf it (by simp);exact wpAny_pyNext_range_end (I.ok.hd m) st (by have:n<=i:=f;omega) λh' C=>⟨rfl,I.turned (t':=s.toks) (λb o hb e=>C b o hb e) j p d l g⟩
 self:=λ_ _ _ _ _ st h=>wpAny_pyIter_rangeiter st h
section
variable {X:Cx}{tg:Expr}
def tI(K:W.Frag)(c:TE):TI:=λσ H R=>c σ H λx b=>∃a,x=.ref a/\(∃xs,aE K b a xs)/\R (jD K a) b
def tH(K:W.Frag)(c:TE):TI:=λσ H R=>c σ H λx b=>∃a,x=.ref a/\(∃xs,bv K b a xs)/\R (om K a) b
def JD{l:Expr}{f:TE}(n:PE X l f):PI X tg l (tI X.K f):=by
 intro c s σ H R I h;refine az (n c s σ H _ I h) λv s1 ⟨x,k,d,g,j⟩=>?_;obtain⟨a,e,⟨xs,m⟩,q⟩:=j;subst e;cases g;obtain⟨i,r,p,hz⟩:=d.list m;refine wpAny_pyIter_list p.isList ?_;refine⟨s1.heap.objs.size,[s1.heap.objs.size],_,_,k,Z,d.kept (t':=s1.toks) λb o e=>Tu _ e,Fw a _,⟨_,T6 _ Z,Z,Z⟩,λb hb=>?_,q⟩;have e:b=s1.heap.objs.size:=by simpa using hb
 subst e;exact d.fpOk (Tp _) (d.hok.fresh (Tp _))
def Jz{l:Expr}{g:TE}(n:PE X l g):PI X tg l (tH X.K g):=by
 intro c s σ H R I h;refine az (n c s σ H _ I h) λv s1 ⟨x,k,d,i,j⟩=>?_;obtain⟨a,e,⟨xs,m⟩,q⟩:=j;subst e;cases i;obtain⟨f,r,p,hz⟩:=d.tuple m;refine wpAny_pyIter_tuple (show s1.heap.IsTuple a f.toArray from p) ?_;refine⟨s1.heap.objs.size,[s1.heap.objs.size],_,_,k,Z,d.kept (t':=s1.toks) λb o e=>Tu _ e,Fs a _,⟨_,T6 _ Z,Z,Z⟩,λb hb=>?_,q⟩;have e:b=s1.heap.objs.size:=by simpa using hb
 subst e;exact d.fpOk (Tp _) (d.hok.fresh (Tp _))
def As{c:List (Addr × Obj)}{σ:St}{H:Hp}{s:fy}{R:It->Hp->Prop}{E:Value->fy->Prop}{lo a:Int}{t u v:Tok}{f:Nat}(I:af X c σ H s)(j : -(2 ^ 62)<=lo)(i:lo<2 ^ 62)(l : -(2 ^ 62)<=a)(h:a<2 ^ 62)
 (q:R (iC lo (a-lo).toNat) H):wpAny (model X.prog X.w) X.A (pyIter (.ref s.heap.objs.size)) (Dv X c σ tg R) E { s with heap:=s.heap.push { cls:=.type "range",data:=.fields #[.int lo t,.int a u,.int 1 v] },toks:=f }:=by
 refine wpAny_pyIter_range (IsRange.new ..) (small_one j i l h) ?_;have d:af X c σ H { s with heap:=s.heap.push { cls:=.type "range",data:=.fields #[.int lo t,.int a u,.int 1 v] },toks:=f }:=I.kept λb o e=>Tu _ e;refine⟨(s.heap.push { cls:=.type "range",data:=.fields #[.int lo t,.int a u,.int 1 v] }).objs.size,[(s.heap.push { cls:=.type "range",data:=.fields #[.int lo t,.int a u,.int 1 v] }).objs.size],_,_,H,Z,
  d.kept (t':=f) λb o e=>Tu _ e,Fv _ lo (a-lo).toNat,?_,λb hb=>?_,q⟩
 ·have g:lo+((0:Nat):Int)*1=lo:=by simp
  have k:(((a-lo).toNat:Nat):Int)-((0:Nat):Int)=Builtin.Range.rangeSize lo a 1:=by rw[rangeSize_one];split<;>omega
  show IsRangeIter _ _ (lo+((0:Nat):Int)*1) ((((a-lo).toNat:Nat):Int)-((0:Nat):Int)) 1;rw[g,k];exact T6 _ Z
 ·have e:b=(s.heap.push { cls:=.type "range",data:=.fields #[.int lo t,.int a u,.int 1 v] }).objs.size:=by simpa using hb
  subst e;exact d.fpOk (Tp _) (d.hok.fresh (Tp _))
def BL(a:TA):TI:=λσ H R=>a σ H λvs b=>∃j:Int,vs=[.int j]/\-(2 ^ 62)<=j/\j<2 ^ 62/\R (iC 0 j.toNat) b
def BK(a:TA):TI:=λσ H R=>a σ H λvs b=>∃i j:Int,vs=[.int i,.int j]/\(-(2 ^ 62)<=i/\i<2 ^ 62/\-(2 ^ 62)<=j/\j<2 ^ 62)/\R (iC i (j-i).toNat) b
def JC {a:Expr} {d:TA} {p pos:Pos} (g:Gl X "range") (f:X.mg "range" = none) (l:PA X [a] d) (hs:starEach [a] X.env=[(false,eval a X.env)]:=by rfl):PI X tg (.Call (.Name "range" p) [a] [] pos) (BL d):=by
 intro b s σ H R I h;refine Call_ (gL I g f boot_range (Uu (az (l pos b s σ H _ I h) λus s1 ⟨vs,n,k,i,c⟩=>?_) hs Z));obtain⟨j,e,c,m,q⟩:=c;subst e;cases i with
 | cons r rr =>
  cases rr;obtain⟨t,rfl⟩:=r;exact call_range_1 (As k (by omega) (by omega) c m (by simpa using q))
def JB {a b:Expr} {g:TA} {p pos:Pos} (l:Gl X "range") (k:X.mg "range" = none) (u:PA X [a,b] g) (hs:starEach [a,b] X.env=[(false,eval a X.env),(false,eval b X.env)]:=by rfl) (d:starEach [b] X.env=[(false,eval b X.env)]:=by rfl) :
 PI X tg (.Call (.Name "range" p) [a,b] [] pos) (BK g):=by
 intro c s σ H R I h;refine Call_ (gL I l k boot_range (Uu (az (u pos c s σ H _ I h) λus s1 ⟨vs,y,o,m,f⟩=>?_) (by rw[hs,d]) (by rw[d];rfl)));obtain⟨i,j,e,⟨f,x,n,v⟩,q⟩:=f;subst e;cases m with
 | cons r rr =>
  cases rr with
  | cons r' rr =>
   cases rr;obtain⟨t,rfl⟩:=r;obtain⟨t',rfl⟩:=r';exact call_range_2 (As o f x n v q)
def zn(a:TI)(g:TG)(tb:TS):TS:=λD σ H=>a σ H λJ d=>∃W:Nat->Nat->St->Hp->Prop,(∃m,W 0 m σ d)/\∀i m σ H,W i m σ H ->
 (J.stop i H/\D.nx σ H)\/(J.go i H/\∃N:St->Hp->Prop,(∀σ' H',N σ' H'->∃m',m'<m/\W (i+1) m' σ' H')/\∀x H',J.yld i H x H'->g x σ H' λb c=>tb { D with nx:=N,ct:=N,bk:=D.nx } b c)
def mQ(fp:List Addr)(h:Heap):List (Addr × Obj):=fp.filterMap λb=>(h.get? b).map λo=>(b,o)
def pH{fp:List Addr}{h:Heap}{b:Addr}{o:Obj}(hb:b∈fp)(e:h.get? b=some o):(b,o)∈mQ fp h:=List.mem_filterMap.mpr ⟨b,hb,by rw[e];rfl⟩
def KB{fp:List Addr}{h:Heap}{p:Addr × Obj}(a:p∈mQ fp h):p.1∈fp/\h.get? p.1=some p.2:=by
 obtain⟨b,hb,e⟩:=List.mem_filterMap.mp a;cases q:h.get? b with
 | none=>rw[q]at e;cases e
 | some o =>
  rw[q]at e;have c:(b,o)=p:=T9 e;subst c;exact⟨hb,q⟩
def af.pinned{a:List (Addr × Obj)}{σ:St}{H:Hp}{s:fy}{fp:List Addr}(I:af X a σ H s)(hf:∀b∈fp,gj X a H b)(ho:∀b∈fp,∃o,s.heap.get? b=some o/\∀v,o.data ≠ .cell v):af X (a++mQ fp s.heap) σ H s :=
 I.pins_of λp g=>(TL.mp g).elim (λz=>I.pin p (TM _ z)) λz=>by
  obtain⟨hb,e⟩:=KB z;obtain⟨f,h,i,_⟩:=hf p.1 hb;obtain⟨o,c,d⟩:=ho p.1 hb;rw[e]at c;cases c;exact⟨e,f,h,i,d⟩
def af.unpinned{a pl:List (Addr × Obj)}{σ:St}{H:Hp}{s:fy}(I:af X (a++pl) σ H s):af X a σ H s:=I.pins_of λp b=>I.pin p (TM _ (Ub _ b))
def Jh{c:Expr}{body:List Stmt}{wi:TI}{g:TG}{tb:TS}{pos:Pos}(F:PassesOwn (model X.prog X.w) X.A X.env X.xe)(hc:X.calm=true)(hi:PI X tg c wi)(hg:PG X tg g)(hb:gc X body tb)
 (hs:∀x,foldedSetIterable c X.env x=pure x:=by intro _;rfl):PS X (.For tg c body [] pos) (zn wi g tb):=by
 intro a s σ H D I h;refine wpAny_For (az (hi a s σ H _ I h) λv s1 h1=>az h1 λa8 s2 h2=>?_) hs;obtain⟨it,fp,tn,J,H2,e,I2,T,V,f2,W,⟨m0,w0⟩,C⟩:=h2;subst e;have q:∀ {y:Hp},(∀b∈fp,y b=none)->∀b∈fp,gj X a y b:=λhn b hb=>⟨hn b hb,(f2 b hb).2⟩;refine codeAny_forLoop_any (λn s'=>∃i σ' y,af X a σ' y s'/\tn i s'.heap/\(∀b∈fp,y b=none)/\W i n σ' y) ?_ m0 ⟨0,σ,H2,I2,V,λb hb=>(f2 b hb).1,w0⟩;rintro n s3 ⟨i,L,O,I3,G,M,w3⟩;rcases C i n L O w3 with ⟨stop,qn⟩|⟨go,N,hN,step⟩
 ·refine wpAny_passesOwn F (az (T.done X Z Z Z hc i a s3 L O X.xe I3 (q M) G stop) λr s4 ⟨Y,I4⟩=>?_);subst Y;exact wpAny_execs_nil ⟨L,O,I4,qn⟩
 ·refine wpAny_passesOwn F (az (T.item X Z Z Z hc i a s3 L O X.xe I3 (q M) G go) λr s4 ⟨u,Y,h4⟩=>?_);subst Y;refine wpAny_passesOwn F (az h4 λ_ s5 ⟨x,H5,I5,r5,y5,gn,S⟩=>?_);have R:=I5.pinned (q S) (T.obj _ _ gn);refine wpAny_passesOwn F (az (hg _ s5 L H5 x u _ R r5 (step x H5 y5)) λ_ s6 ⟨σ6,H6,I6,q6⟩=>?_);refine wpAny_passesOwn F (az (hb _ s6 σ6 H6 _ I6 q6) λf U z=>?_);have l:∀ {k:St} {p:Hp},af X (a++mQ fp s5.heap) k p U->N k p->∃m,m<n/\∃i σ' y,af X a σ' y U/\tn i U.heap/\(∀b∈fp,y b=none)/\W i m σ' y:=λ{k p} j B=>by
   obtain⟨m',hm,w7⟩:=hN k p B;refine⟨m',hm,i+1,k,p,j.unpinned,T.keep _ _ _ gn λb hb o e=>(j.pin (b,o) (TM _ (TM _ (pH hb e)))).1,λb hb=>?_,w7⟩;obtain⟨o,e,d⟩:=T.obj _ _ gn b hb;exact (j.pin (b,o) (TM _ (TM _ (pH hb e)))).2.1
  cases f with
  | next=>obtain⟨k,p,j,B⟩:=z;exact l j B
  | cont=>obtain⟨k,p,j,B⟩:=z;exact l j B
  | brk=>obtain⟨k,p,j,z⟩:=z;exact⟨k,p,j.unpinned,z⟩
  | ret v=>obtain⟨x7,k,p,j,r7,z⟩:=z;exact⟨x7,k,p,j.unpinned,r7,z⟩
end
def l7{K:W.Frag}{a:Addr}{xs:List V}{g:TG}{tb:TS}{D:fR}{σ:St}{H:Hp}(b:Nat->St->Hp->Prop)(k:b 0 σ H)(n:∀i σ H,i<=xs.length->b i σ H->aE K H a xs)
 (hs:∀i x σ H,xs[i]? = some x->b i σ H->g x σ H λd f=>tb { D with nx:=b (i+1),ct:=b (i+1),bk:=D.nx } d f) (hd:∀σ H,b xs.length σ H->D.nx σ H) :
 ∃W:Nat->Nat->St->Hp->Prop,(∃m,W 0 m σ H)/\∀i m σ H,W i m σ H ->
  ((jD K a).stop i H/\D.nx σ H)\/((jD K a).go i H/\∃N:St->Hp->Prop,(∀h c,N h c->∃m',m'<m/\W (i+1) m' h c)/\∀x c,(jD K a).yld i H x c->g x σ c λd f=>tb { D with nx:=N,ct:=N,bk:=D.nx } d f):=by
 refine⟨λi m σ H=>m=xs.length-i/\i<=xs.length/\b i σ H,⟨xs.length,by simp,TJ _,k⟩,?_⟩;rintro i m σ H ⟨rfl,l,p⟩;have q:=n i σ H l p;by_cases hlt:i<xs.length
 ·refine .inr ⟨⟨xs,xs[i],q,by simp[hlt]⟩,b (i+1),λh c j=>⟨xs.length-(i+1),by omega,rfl,hlt,j⟩,λx c y=>?_⟩;obtain⟨e,y⟩:=y;subst e;exact hs i x σ _ (y xs q) p
 ·have e:i=xs.length:=by omega
  subst e;exact .inl ⟨⟨xs,q,Tp _⟩,hd σ H p⟩
def OS{K:W.Frag}{a:Addr}{xs:List V}{g:TG}{tb:TS}{D:fR}{σ:St}{H:Hp}(b:Nat->St->Hp->Prop)(k:b 0 σ H)(n:∀i σ H,i<=xs.length->b i σ H->bv K H a xs)
 (hs:∀i x σ H,xs[i]? = some x->b i σ H->g x σ H λd f=>tb { D with nx:=b (i+1),ct:=b (i+1),bk:=D.nx } d f) (hd:∀σ H,b xs.length σ H->D.nx σ H) :
 ∃W:Nat->Nat->St->Hp->Prop,(∃m,W 0 m σ H)/\∀i m σ H,W i m σ H ->
  ((om K a).stop i H/\D.nx σ H)\/((om K a).go i H/\∃N:St->Hp->Prop,(∀h c,N h c->∃m',m'<m/\W (i+1) m' h c)/\∀x c,(om K a).yld i H x c->g x σ c λd f=>tb { D with nx:=N,ct:=N,bk:=D.nx } d f):=by
 refine⟨λi m σ H=>m=xs.length-i/\i<=xs.length/\b i σ H,⟨xs.length,by simp,TJ _,k⟩,?_⟩;rintro i m σ H ⟨rfl,l,p⟩;have q:=n i σ H l p;by_cases hlt:i<xs.length
 ·refine .inr ⟨⟨xs,xs[i],q,by simp[hlt]⟩,b (i+1),λh c j=>⟨xs.length-(i+1),by omega,rfl,hlt,j⟩,λx c y=>?_⟩;obtain⟨e,y⟩:=y;subst e;exact hs i x σ _ (y xs q) p
 ·have e:i=xs.length:=by omega
  subst e;exact .inl ⟨⟨xs,q,Tp _⟩,hd σ H p⟩
def uc{lo:Int}{n:Nat}{g:TG}{tb:TS}{D:fR}{σ:St}{H:Hp}(b:Nat->St->Hp->Prop)(j:b 0 σ H)
 (hs:∀i σ H,i<n->b i σ H->g (.int (lo+i)) σ H λc d=>tb { D with nx:=b (i+1),ct:=b (i+1),bk:=D.nx } c d) (hd:∀σ H,b n σ H->D.nx σ H) :
 ∃W:Nat->Nat->St->Hp->Prop,(∃m,W 0 m σ H)/\∀i m σ H,W i m σ H ->
  ((iC lo n).stop i H/\D.nx σ H)\/((iC lo n).go i H/\∃N:St->Hp->Prop,(∀f a,N f a->∃m',m'<m/\W (i+1) m' f a)/\∀x a,(iC lo n).yld i H x a->g x σ a λc d=>tb { D with nx:=N,ct:=N,bk:=D.nx } c d):=by
 refine⟨λi m σ H=>m=n-i/\i<=n/\b i σ H,⟨n,by simp,TJ _,j⟩,?_⟩;rintro i m σ H ⟨rfl,k,p⟩;by_cases hlt:i<n
 ·refine .inr ⟨hlt,b (i+1),λf a h=>⟨n-(i+1),by omega,rfl,hlt,h⟩,λx a y=>?_⟩;obtain⟨e,y⟩:=y;subst e y;exact hs i σ _ hlt p
 ·have e:i=n:=by omega
  subst e;exact .inl ⟨Tp _,hd σ H p⟩
abbrev R2:=V->V->Hp->VK->Prop
def be(X:Cx)(f:Value->Value->Sem Value)(r:R2):Prop :=
 ∀(a:List (Addr × Obj)) (s:fy) (σ:St) (H:Hp) (x y:V) (v u:Value) (Q:VK),af X a σ H s->aO x v->aO y u->r x y H Q ->
  wpAny (model X.prog X.w) X.A (f v u) (EP X a σ Q) X.xe s
def n6(X:Cx)(f:Value->Sem Value)(r:V->Hp->VK->Prop):Prop :=
 ∀(a:List (Addr × Obj)) (s:fy) (σ:St) (H:Hp) (x:V) (v:Value) (Q:VK),af X a σ H s->aO x v->r x H Q ->
  wpAny (model X.prog X.w) X.A (f v) (EP X a σ Q) X.xe s
def cy(X:Cx)(f:Value)(r:List V->Hp->VK->Prop):Prop :=
 ∀(a:List (Addr × Obj)) (s:fy) (σ:St) (H:Hp) (xs:List V) (us:List Value) (Q:VK),af X a σ H s->aJ xs us->r xs H Q ->
  wpAny (model X.prog X.w) X.A (call f us) (EP X a σ Q) X.xe s
def RW(X:Cx)(r:V->Hp->(Bool->Hp->Prop)->Prop):Prop :=
 ∀(a:List (Addr × Obj)) (s:fy) (σ:St) (H:Hp) (x:V) (v:Value) (Q:Bool->Hp->Prop),af X a σ H s->aO x v->r x H Q ->
  wpAny (model X.prog X.w) X.A (truthy v) (TP X a σ Q) X.xe s
def hZ(r:R2)(a tb:TE):TE:=λσ H Q=>a σ H λx c=>tb σ c λy b=>r x y b Q
def y7(r:V->Hp->VK->Prop)(a:TE):TE:=λσ H Q=>a σ H λx b=>r x b Q
def rI(C:Int->Int->Prop)(g:Int->Int->V):R2:=λx y H Q=>∃i j,x=.int i/\y=.int j/\C i j/\Q (g i j) H
def ib(g:Int->Int->V):R2:=λx y H Q=>∃i j,x=.int i/\y=.int j/\Q (g i j) H
def rU(g:Int->V):V->Hp->VK->Prop:=λx H Q=>∃i,x=.int i/\Q (g i) H
section
variable {X:Cx}{a b c:Expr}{ta tb tc:TE}{pos:Pos}
def wV(k:PE X a ta)(hb:PE X b tb){c:List (Addr × Obj)}{s:fy}{σ:St}{H:Hp}{R:V->V->Hp->Prop}(I:af X c σ H s)
 (h:ta σ H λx g=>tb σ g λy d=>R x y d) {Q:Value->fy->Prop} {f:Value->Value->Sem Value}
 (hf:∀v u e x y d,af X c σ d e->aO x v->aO y u->R x y d->wpAny (model X.prog X.w) X.A (f v u) Q X.xe e) :
 wpAny (model X.prog X.w) X.A (eval a X.env) (λv q=>wpAny (model X.prog X.w) X.A (eval b X.env) (λu p=>wpAny (model X.prog X.w) X.A (f v u) Q X.xe p) X.xe q) X.xe s:=by
 refine az (k c s σ H _ I h) λv s1 ⟨x,g,j,i,m⟩=>?_;refine az (hb c s1 σ g _ j m) λu e ⟨y,d,n,l,o⟩=>?_;exact hf v u e x y d n i l o
def JM{d:Operator}{r:R2}(ho:be X (binaryOp d) r)(f:PE X a ta)(hb:PE X b tb):PE X (.BinOp a d b pos) (hZ r ta tb):=by
 intro c s σ H Q I h;exact wpAny_BinOp (wV f hb I h λv u g x y j i k e q=>ho c g σ j x y v u Q i k e q)
def JJ{c:UnaryOp}{r:V->Hp->VK->Prop}(ho:n6 X (unaryOp c) r)(g:PE X a ta):PE X (.UnaryOp c a pos) (y7 r ta):=by
 intro b s σ H Q I h;exact UnaryOp_ (az (g b s σ H _ I h) λv s1 ⟨x,d,f,e,i⟩=>ho b s1 σ d x v Q f e i)
def pA{f:Value->Value->Sem Value}{C:Int->Int->Prop}{g:Int->Int->Int}
 (a:∀(i j:Int) (t u:Tok) (s:fy) (Q:Value->fy->Prop) (E:Value->fy->Prop),C i j->Q (.int (g i j) s.toks) { s with toks:=s.toks+1 }->wpAny (model X.prog X.w) X.A (f (.int i t) (.int j u)) Q E s) :
 be X f (rI C λi j=>.int (g i j)):=by
 intro b s σ H x y v u Q I e c h;obtain⟨i,j,rfl,rfl,d,q⟩:=h;obtain⟨t,rfl⟩:=e;obtain⟨t',rfl⟩:=c;exact a i j t t' s _ _ d ⟨.int (g i j),H,I.tok _,⟨_,Z⟩,q⟩
def A8{f:Value->Value->Sem Value}{g:Int->Int->Int}
 (a:∀(i j:Int) (t u:Tok) (s:fy) (Q:Value->fy->Prop) (E:Value->fy->Prop),Q (.int (g i j) s.toks) { s with toks:=s.toks+1 }->wpAny (model X.prog X.w) X.A (f (.int i t) (.int j u)) Q E s) :
 be X f (ib λi j=>.int (g i j)):=by
 intro b s σ H x y v u Q I d c h;obtain⟨i,j,rfl,rfl,q⟩:=h;obtain⟨t,rfl⟩:=d;obtain⟨t',rfl⟩:=c;exact a i j t t' s _ _ ⟨.int (g i j),H,I.tok _,⟨_,Z⟩,q⟩
def pB{f:Value->Value->Sem Value}{g:Int->Int->Bool}
 (a:∀(i j:Int) (t u:Tok) (s:fy) (Q:Value->fy->Prop) (E:Value->fy->Prop),Q (.bool (g i j)) s->wpAny (model X.prog X.w) X.A (f (.int i t) (.int j u)) Q E s) :
 be X f (ib λi j=>.bl (g i j)):=by
 intro b s σ H x y v u Q I d c h;obtain⟨i,j,rfl,rfl,q⟩:=h;obtain⟨t,rfl⟩:=d;obtain⟨t',rfl⟩:=c;exact a i j t t' s _ _ ⟨.bl (g i j),H,I,Z,q⟩
def SE(i j:Int):Prop:=0<j/\j<1073741824
def rO(i j:Int):Prop:=(-(2 ^ 64)<i/\i<2 ^ 64)\/(-(2 ^ 64)<j/\j<2 ^ 64)
def rO.ok{i j:Int}(h:rO i j):IntMulOk i j:=by
 rcases h with ⟨h1,h2⟩|⟨h1,h2⟩
 ·exact .of_left (intBits_le_64 h1 h2)
 ·exact .of_right (intBits_le_64 h1 h2)
def Kk:be X (binaryOp .Add) (ib λi j=>.int (i+j)):=A8 λ_ _ _ _ _ _ _ q=>add_int q
def J8:be X (binaryOp .Sub) (ib λi j=>.int (i-j)):=A8 λ_ _ _ _ _ _ _ q=>sub_int q
def Kc:be X (binaryOp .Mult) (rI rO λi j=>.int (i*j)):=pA λ_ _ _ _ _ _ _ a q=>mul_int q a.ok
def Kj:be X (binaryOp .FloorDiv) (rI SE λi j=>.int (i/j)):=pA λi j _ _ _ _ _ a q=>by
 have c:(0:Int)<j:=a.1;have b:j<1073741824:=a.2;exact floordiv_int (by omega) (by rw[Int.fdiv_eq_ediv_of_nonneg i (by omega)];exact q) (.inl (V0 (by omega)))
def A6:be X (binaryOp .Mod) (rI (λ_ j=>0<j) λi j=>.int (i%j)):=pA λi j _ _ _ _ _ a q=>by
 have b:(0:Int)<j:=a;exact mod_int' (by omega) (by rw[Int.fmod_eq_emod_of_nonneg i (by omega)];exact q)
def E4{f:Value->Sem Value}{g:Int->Int}
 (a:∀(i:Int) (t:Tok) (s:fy) (Q:Value->fy->Prop) (E:Value->fy->Prop),Q (.int (g i) s.toks) { s with toks:=s.toks+1 }->wpAny (model X.prog X.w) X.A (f (.int i t)) Q E s) :
 n6 X f (rU λi=>.int (g i)):=by
 intro b s σ H x v Q I c h;obtain⟨i,rfl,q⟩:=h;obtain⟨t,rfl⟩:=c;exact a i t s _ _ ⟨.int (g i),H,I.tok _,⟨_,Z⟩,q⟩
def E3:n6 X (unaryOp .USub) (rU λi=>.int (-i)):=E4 λ_ _ _ _ _ q=>neg_int q
end
def zR:V->V->Bool
 | .non,.non=>true|.non,.int _=>true|.int _,.non=>true|.non,.bl _=>true|.bl _,.non=>true|.non,.str _=>true|.str _,.non=>true
 | .int _,.int _=>true|.bl _,.bl _=>true|.str _,.str _=>true|.byt _,.byt _=>true
 | .int _,.str _=>true|.str _,.int _=>true|.bl _,.str _=>true|.str _,.bl _=>true
 | _,_=>false
def Ip:R2:=λx y H Q=>zR x y=true/\Q (.bl (decide (x=y))) H
def Ik:R2:=λx y H Q=>zR x y=true/\Q (.bl (!decide (x=y))) H
def CP{i j:Int}:decide (V.int i=V.int j)=(i == j):=by
 rw[UD];simp
def qx{i j:Bool}:decide (V.bl i=V.bl j)=(i == j):=by
 rw[UD];simp
def CN{i j:Str}:decide (V.str i=V.str j)=(i == j):=by
 rw[UD];simp
def CQ{i j:Array UInt8}:decide (V.byt i=V.byt j)=(i.toList == j.toList):=by
 rw[UD];cases i;cases j;simp
section
variable {X:Cx}{a b c:Expr}{ta tb tc:TE}{pos:Pos}
def bX{a:List (Addr × Obj)}{σ:St}{H:Hp}{s:fy}{Q:VK}{k b:Bool}(I:af X a σ H s)(q:Q (.bl k) H)(e:k=b):EP X a σ Q (.bool b) s:=by
 subst e;exact⟨.bl k,H,I,Z,q⟩
def A7:be X (compareOp .Eq) Ip:=by
 intro c s σ H x y v u Q I b a h;obtain⟨hs,q⟩:=h;cases x with
 | non =>
  cases b;cases y with
  | non=>cases a;exact PySem.EqNone.eq_none_none (bX I q (by simp))
  | bl j=>cases a;exact PySem.EqNone.eq_none_bool (bX I q (by simp))
  | int j=>obtain⟨t',rfl⟩:=a;exact PySem.EqNone.eq_none_int (bX I q (by simp))
  | str j=>obtain⟨t',rfl⟩:=a;exact PySem.EqNone.eq_none_str (bX I q (by simp))
  | _=>exact Wx (show false=true from hs) TC
 | bl i =>
  cases b;cases y with
  | non=>cases a;exact PySem.EqNone.eq_bool_none (bX I q (by simp))
  | bl j=>cases a;exact eq_bool (bX I q qx)
  | str j=>obtain⟨t',rfl⟩:=a;exact PySem.EqMixed.eq_bool_str (bX I q (by simp))
  | _=>exact Wx (show false=true from hs) TC
 | int i =>
  obtain⟨t,rfl⟩:=b;cases y with
  | non=>cases a;exact PySem.EqNone.eq_int_none (bX I q (by simp))
  | int j=>obtain⟨t',rfl⟩:=a;exact eq_int (bX I q CP)
  | str j=>obtain⟨t',rfl⟩:=a;exact PySem.EqMixed.eq_int_str (bX I q (by simp))
  | _=>exact Wx (show false=true from hs) TC
 | str i =>
  obtain⟨t,rfl⟩:=b;cases y with
  | non=>cases a;exact PySem.EqNone.eq_str_none (bX I q (by simp))
  | bl j=>cases a;exact PySem.EqMixed.eq_str_bool (bX I q (by simp))
  | int j=>obtain⟨t',rfl⟩:=a;exact PySem.EqMixed.eq_str_int (bX I q (by simp))
  | str j=>obtain⟨t',rfl⟩:=a;exact eq_str (bX I q CN)
  | _=>exact Wx (show false=true from hs) TC
 | byt i =>
  obtain⟨t,rfl⟩:=b;cases y with
  | byt j=>obtain⟨t',rfl⟩:=a;exact W.eq_bytes (bX I q CQ)
  | _=>exact Wx (show false=true from hs) TC
 | _=>cases y<;>exact Wx (show false=true from hs) TC
def AZ:be X (compareOp .NotEq) Ik:=by
 intro c s σ H x y v u Q I b a h;obtain⟨hs,q⟩:=h;cases x with
 | non =>
  cases b;cases y with
  | non=>cases a;exact PySem.EqNone.ne_none_none (bX I q (by simp))
  | bl j=>cases a;exact PySem.EqNone.ne_none_bool (bX I q (by simp))
  | int j=>obtain⟨t',rfl⟩:=a;exact PySem.EqNone.ne_none_int (bX I q (by simp))
  | str j=>obtain⟨t',rfl⟩:=a;exact PySem.EqNone.ne_none_str (bX I q (by simp))
  | _=>exact Wx (show false=true from hs) TC
 | bl i =>
  cases b;cases y with
  | non=>cases a;exact PySem.EqNone.ne_bool_none (bX I q (by simp))
  | bl j=>cases a;exact ne_bool (bX I q (congrArg not qx))
  | str j=>obtain⟨t',rfl⟩:=a;exact PySem.EqMixed.ne_bool_str (bX I q (by simp))
  | _=>exact Wx (show false=true from hs) TC
 | int i =>
  obtain⟨t,rfl⟩:=b;cases y with
  | non=>cases a;exact PySem.EqNone.ne_int_none (bX I q (by simp))
  | int j=>obtain⟨t',rfl⟩:=a;exact ne_int (bX I q (congrArg not CP))
  | str j=>obtain⟨t',rfl⟩:=a;exact PySem.EqMixed.ne_int_str (bX I q (by simp))
  | _=>exact Wx (show false=true from hs) TC
 | str i =>
  obtain⟨t,rfl⟩:=b;cases y with
  | non=>cases a;exact PySem.EqNone.ne_str_none (bX I q (by simp))
  | bl j=>cases a;exact PySem.EqMixed.ne_str_bool (bX I q (by simp))
  | int j=>obtain⟨t',rfl⟩:=a;exact PySem.EqMixed.ne_str_int (bX I q (by simp))
  | str j=>obtain⟨t',rfl⟩:=a;exact ne_str (bX I q (congrArg not CN))
  | _=>exact Wx (show false=true from hs) TC
 | byt i =>
  obtain⟨t,rfl⟩:=b;cases y with
  | byt j=>obtain⟨t',rfl⟩:=a;exact W.ne_bytes (bX I q (congrArg not CQ))
  | _=>exact Wx (show false=true from hs) TC
 | _=>cases y<;>exact Wx (show false=true from hs) TC
def Kd:be X (compareOp .Lt) (ib λi j=>.bl (decide (i<j))):=pB λ_ _ _ _ _ _ _ q=>lt_int q
def Ke:be X (compareOp .LtE) (ib λi j=>.bl (decide (i<=j))):=pB λ_ _ _ _ _ _ _ q=>le_int q
def Kh:be X (compareOp .Gt) (ib λi j=>.bl (decide (j<i))):=pB λ_ _ _ _ _ _ _ q=>gt_int q
def Ki:be X (compareOp .GtE) (ib λi j=>.bl (decide (j<=i))):=pB λ_ _ _ _ _ _ _ q=>ge_int q
def Kf:be X (compareOp .Is) (λx y H Q=>y=.non/\Q (.bl (decide (x=.non))) H):=by
 intro b s σ H x y v u Q I a c h;obtain⟨rfl,q⟩:=h;cases c;refine is_none_gen (bX I q ?_);cases x<;>first
  | (cases a;rfl)
  | (obtain⟨t,rfl⟩:=a;rfl)
def Ka:be X (compareOp .IsNot) (λx y H Q=>y=.non/\Q (.bl (!decide (x=.non))) H):=by
 intro b s σ H x y v u Q I a c h;obtain⟨rfl,q⟩:=h;cases c;refine isnot_none_gen (bX I q ?_);cases x<;>first
  | (cases a;rfl)
  | (obtain⟨t,rfl⟩:=a;rfl)
def aq(b:Expr){a:CmpOp}(h:a ≠ .In:=by decide)(e:a ≠ .NotIn:=by decide):behindInMarks a b=false:=by
 have c:(a == CmpOp.In)=false:=by cases a<;>first|rfl|exact Wx rfl h
 have d:(a == CmpOp.NotIn)=false:=by cases a<;>first|rfl|exact Wx rfl e
 cases b<;>simp[behindInMarks,c,d]
def JY{d:CmpOp}{r:R2}(ho:be X (compareOp d) r)(g:PE X a ta)(hb:PE X b tb)(e:behindInMarks d b=false):PE X (.Compare a [d] [b] pos) (hZ r ta tb):=by
 intro c s σ H Q I h;exact wpAny_Compare1 (wV g hb I h λv u i x y k j l f q=>ho c i σ k x y v u Q j l f q) e
def RV(K:W.Frag)(x:V)(H:Hp)(k:Bool):Prop :=
 match x with
 | .non=>k=false
 | .bl b=>k=b
 | .int i=>k=(i != 0)
 | .str y=>y.length<=sizeLine/\k=((y.length:Int) != 0)
 | .byt y=>y.size<=sizeLine/\k=((y.size:Int) != 0)
 | .ref p=>(∃xs,aE K H p xs/\k = !xs.isEmpty)\/(∃xs,bv K H p xs/\k = !xs.isEmpty)\/∃kvs,H p=some (.dK kvs)/\k = !kvs.isEmpty
 | _=>False
def Mh{κ:Type}{a:List (κ × V)}{vs:List (κ × Value)}(r:KV a vs):(!vs.isEmpty) = !a.isEmpty:=by
 cases r<;>rfl
def BF{xs:List V}{a:List Value}(r:aJ xs a):(!a.toArray.isEmpty) = !xs.isEmpty:=by
 cases r<;>simp
def pM:(sizeLine:Nat)<2 ^ 63:=by rw[sizeLine_eq];decide
def mv:RW X (λx H Q=>∃k,RV X.K x H k/\Q k H):=by
 intro g s σ H x v Q I d h;obtain⟨k,e,q⟩:=h;have l:=pM;have hs:sizeLine=16777216:=sizeLine_eq;cases x with
 | non =>
  cases d;have a:k=false:=e;subst a;exact truthy_none ⟨H,I,q⟩
 | bl b =>
  cases d;have a:k=b:=e;subst a;exact wpAny_truthy_bool ⟨H,I,q⟩
 | int i =>
  obtain⟨t,rfl⟩:=d;have a:k=(i != 0):=e;subst a;exact PySem.P.truthy_int ⟨H,I,q⟩
 | str y =>
  obtain⟨t,rfl⟩:=d;obtain⟨j,a⟩:y.length<=sizeLine/\k=((y.length:Int) != 0):=e;subst a;exact PySem.P.truthy_str (by omega) ⟨H,I.tok _,q⟩
 | byt y =>
  obtain⟨t,rfl⟩:=d;obtain⟨j,a⟩:y.size<=sizeLine/\k=((y.size:Int) != 0):=e;subst a;exact W.truthy_bytes (by omega) ⟨H,I.tok _,q⟩
 | ref p =>
  cases d;have a:(∃xs,aE X.K H p xs/\k = !xs.isEmpty)\/(∃xs,bv X.K H p xs/\k = !xs.isEmpty)\/∃kvs,H p=some (.dK kvs)/\k = !kvs.isEmpty:=e;rcases a with ⟨xs,hx,a⟩|⟨xs,hx,a⟩|⟨kvs,hx,a⟩
  ·subst a;obtain⟨f,r,pl,hz⟩:=I.list hx;have c:=r.length;exact wpAny_truthy_list pl.isList (by simp only [TB];omega) ⟨H,I.tok _,by rw[BF r];exact q⟩
  ·subst a;obtain⟨f,r,pl,hz⟩:=I.tuple hx;have c:=r.length;exact truthy_tuple pl (by simp only [TB];omega) ⟨H,I.tok _,by rw[BF r];exact q⟩
  ·subst a;obtain⟨hz,hS,vs,r,m⟩:kvs.length<=sizeLine/\(p == sysModules)=false/\∃vs,KV kvs vs/\s.heap.DictOf (cA X.prog X.w) p vs:=I.hok p _ hx;have c:kvs.length=vs.length:=Paired.length r;exact wpAny_truthy_dict hS m (by omega) ⟨H,I.tok _,by rw[Mh r];exact q⟩
 | _=>exact (show False from e).elim
def hX{x:V}{us:List Value}(r:aJ [x] us):∃u,us=[u]/\aO x u:=by
 cases r with
 | cons r1 r2=>cases r2;exact⟨_,Z,r1⟩
def yQ{x y:V}{us:List Value}(r:aJ [x,y] us):∃u w',us=[u,w']/\aO x u/\aO y w':=by
 cases r with
 | cons r1 r2 =>
  cases r2 with
  | cons r3 r4=>cases r4;exact⟨_,_,Z,r1,r3⟩
def PM:cy X (.type "int") (λxs H Q=>(∃i,xs=[.int i]/\Q (.int i) H)\/∃k,xs=[.bl k]/\Q (.int (if k then 1 else 0)) H):=by
 intro a s σ H xs us Q I r h;rcases h with ⟨i,rfl,q⟩|⟨k,rfl,q⟩
 ·obtain⟨u,rfl,t,rfl⟩:=hX r;exact call_int_int ⟨.int i,H,I,⟨_,Z⟩,q⟩
 ·obtain⟨u,rfl,b⟩:=hX r;cases b;exact call_int_bool ⟨.int (if k then 1 else 0),H,I.tok _,⟨_,Z⟩,q⟩
end
structure jA (h:Heap) (x dx C:Addr) (mA:Str->Option Value):Prop where
 obj:h.get? x=some (W.instObj C dx)
 ns:h.Ns1 dx mA
 ne:dx≠x
def Bp{h:Heap}{dx:Addr}{mA:Str->Option Value}(n:h.Ns1 dx mA):∃od,h.get? dx=some od/\∀name,W.lookIn name od=some (mA name):=by
 obtain⟨o,es,i,ho,hd,g,_,c⟩:=n;refine⟨o,ho,λname=>?_⟩;have e:=c name;unfold nsFind findBy at e;rw[<- Array.find?_toList]at e;unfold W.lookIn;rw[hd];dsimp only
 split
 ·rename_i y q;rw[q]at e;exact congrArg some e
 ·rename_i q;rw[q]at e;have a:es.toList.any (·.refKey)=false:=by
   rw[List.any_eq_false];intro y d;obtain⟨z,t,b⟩:=g y (Wa.mp d);simp[DictEntry.refKey,b]
  have f:¬es.toList.any (·.refKey)=true:=by rw[a];exact TC
  rw[Wv f];exact congrArg some e
def jA.look{h:Heap}{x dx C:Addr}{mA:Str->Option Value}(I:jA h x dx C mA):∃od,W.InstAt h x (W.instObj C dx) C (some od)/\∀name,W.lookIn name od=some (mA name) :=
 let ⟨od,ho,hl⟩:=Bp I.ns
 ⟨od,⟨I.obj,rfl,rfl,ho⟩,hl⟩
section
variable {prog:Program}{w:World}{A:Around}{E:Value->fy->Prop}{s:fy}{K:W.Frag}{x dx C f:Addr}{mA:Str->Option Value}{name:Str}{v:Value}
def NE{a:Bool}{Q:Value->fy->Prop}(X:K.In s.heap)(I:jA s.heap x dx C mA)(c:W.plainGet K C name=true)(d:W.hasDictIn K C=true)
 (e:W.findIn K (.ref C) name=some none) (f:mA name=some v) (b:W.handedIn v=true) (h:Q v { s with toks:=s.toks+1 }) :
 wpAny (model prog w) A (getAttr (.ref x) name a) Q E s:=by
 obtain⟨i,J,g⟩:=I.look;exact W.get_value X J (W.plainGet_of c).1 (W.findObj_own d e rfl (by rw[g,f])) b h
def ND{pl:Sem Bool}{Q:Value × List Value->fy->Prop}(X:K.In s.heap)(I:jA s.heap x dx C mA)(a:W.plainGet K C name=true)
 (hf:W.findIn K (.ref C) name=some (some (.ref f))) (e:W.isFn K (.ref f)=true) (c:mA name=none) (h:Q (.ref f,[.ref x]) s) :
 wpAny (model prog w) A (getMethod (.ref x) name pl) Q E s:=by
 obtain⟨b,J,d⟩:=I.look;exact W.method_fn X J (W.plainGet_of a).1 (W.plainGet_of a).2 hf (beq_iff_eq.mp e) (by show (W.lookIn name b).map (·.isSome)=some false;rw[d,c];rfl) h
def G3{ns:List Str}{Q:Unit->fy->Prop}(X:K.In s.heap)(I:jA s.heap x dx C mA)
 (hs:W.findIn K (.ref C) "__setattr__" = some (some (.builtin "object.__setattr__"))) (i:W.plainOver K C=true) (j:W.takerIn K C name=some none) (f:W.hasDictIn K C=true)
 (hw:PySem.Within mA ns) (hsz:ns.length<=sizeLine)
 (h:∀h',jA h' x dx C (λy=>if y=name then some v else mA y)->Heap.SameBut dx s.heap h'->Q () { s with heap:=h',toks:=s.toks+2 }) :
 wpAny (model prog w) A (setAttr (.ref x) name v) Q E s:=by
 obtain⟨k,J,m⟩:=I.look;refine W.set_plain X J hs (W.osa_open (s:={ s with toks:=s.toks+1 }) (r:=none) X J i j λb=>?_);obtain⟨l,g,e⟩:=W.any_some f;have hx:s.heap.get? x=some ⟨.ref C,some dx,.plain,#[]⟩:=I.obj;refine kb (on (kb (kb (wpAny_loadPart hx (kb (W.Looks.here (s:={ s with toks:=s.toks+1 }) (W.looks_clsIn X g) ?_))))));rw[e];refine on (a:=some dx) (kb (on (kb ?_)));refine wpAny_nsSet1 (s:={ s with toks:=s.toks+1 }) I.ns λh' d c=>?_;obtain⟨oD,esD,epD,hoD,hdD,hcD⟩:=d.count (PySem.Within.cons name v hw);refine kb (wpAny_lookBehind hoD (by rw[hdD];exact pastItsLine_dict (TH hcD (by rw[TX];omega))) ?_);exact on (h _ ⟨(c.2 _ (Ne.symm I.ne)).trans I.obj,d,I.ne⟩ c)
def LM{R:Result->fy->Prop}{vs:List Value}{a:List (Str × Value)}(X:K.In s.heap)(b:W.makesIn K C=true)
 (c:W.findIn K (.ref C) "__init__" = some (some (.ref f))) (hf:W.typeIn K (.ref f)=some (.type "function"))
 (h:codeAny (model prog w) (A.under (.builtin "type.__call__" ⟨.ref C::vs,a⟩)) (.call (.ref f) ⟨.ref (s.heap.objs.size+1)::vs,a⟩) (W.InitBack (s.heap.objs.size+1) R)
   { s with heap:=(s.heap.push W.emptyDict).push (W.instObj C s.heap.objs.size) }) :
 codeAny (model prog w) A (.call (.ref C) ⟨vs,a⟩) R s:=by
 obtain⟨e,g,d,t,os⟩:=s;exact W.make_core (W.makes_of X b) (W.looks_findIn X c) (λself=>W.bind_fn X self hf) (.inl Z) h
def LL{R:Result->fy->Prop}(X:K.In s.heap)(a:W.makesIn K C=true)
 (b:W.findIn K (.ref C) "__init__" = some (some (.builtin "object.__init__")))
 (hb:∀self,W.Looks (model prog w) s.heap (bindSpecial (.builtin "object.__init__") self) (.builtin "object.__init__",[self]))
 (h:codeAny (model prog w) (A.under (.builtin "type.__call__" ⟨[.ref C],[]⟩)) (.call (.builtin "object.__init__") ⟨[.ref (s.heap.objs.size+1)],[]⟩) (W.InitBack (s.heap.objs.size+1) R)
   { s with heap:=(s.heap.push W.emptyDict).push (W.instObj C s.heap.objs.size) }) :
 codeAny (model prog w) A (.call (.ref C) ⟨[],[]⟩) R s:=by
 obtain⟨c,g,d,t,os⟩:=s;exact W.make_core (W.makes_of X a) (W.looks_findIn X b) hb (.inr ⟨rfl,rfl⟩) h
end
def cG(f:Str)(v:V):List (Str × V)->List (Str × V)
 | []=>[(f,v)]
 | (g,x)::r=>if g=f then (g,v)::r else (g,x)::cG f v r
theorem tj(f g:Str)(v:V):∀fs:List (Str × V),(cG f v fs).lookup g=if g=f then some v else fs.lookup g
 | []=>by
  show List.lookup g [(f,v)]=_;by_cases h:g=f
  ·have hb:(g == f)=true:=beq_iff_eq.mpr h;simp only [List.lookup,hb,Ww h]
  ·have hb:(g == f)=false:=beq_eq_false_iff_ne.mpr h;simp only [List.lookup,hb,Wv h]
 | (k,x)::r=>by
  have ih:=tj f g v r;rw[show cG f v ((k,x)::r)=(if k=f then (k,v)::r else (k,x)::cG f v r) from rfl];by_cases hk:k=f
  ·rw[Ww hk];by_cases h:g=k
   ·have hb:(g == k)=true:=beq_iff_eq.mpr h;simp only [List.lookup,hb,Ww (h.trans hk)]
   ·have hb:(g == k)=false:=beq_eq_false_iff_ne.mpr h;simp only [List.lookup,hb,Wv (λe:g=f=>h (e.trans hk.symm))]
  ·rw[Wv hk];by_cases h:g=k
   ·have hb:(g == k)=true:=beq_iff_eq.mpr h;simp only [List.lookup,hb,Wv (λe:g=f=>hk (h.symm.trans e))]
   ·have hb:(g == k)=false:=beq_eq_false_iff_ne.mpr h;simp only [List.lookup,hb];exact ih
theorem tw(f:Str)(v:V):∀fs:List (Str × V),f∈(cG f v fs).map (·.1)/\∀g,g∈fs.map (·.1)->g∈(cG f v fs).map (·.1)
 | []=>⟨by simp[cG],λg h=>by simp at h⟩
 | (k,x)::r=>by
  obtain⟨a,b⟩:=tw f v r;rw[show cG f v ((k,x)::r)=(if k=f then (k,v)::r else (k,x)::cG f v r) from rfl];by_cases hk:k=f
  ·rw[Ww hk];subst hk;exact⟨by simp,λg h=>by simpa using h⟩
  ·rw[Wv hk];refine⟨?_,λg h=>?_⟩
   ·rw[Uc];exact TW _ a
   ·rw[Uc]at h ⊢;rcases TF.mp h with e|e
    ·exact TF.mpr (.inl e)
    ·exact TW _ (b g e)
theorem Bv(f:Str)(v:V):∀fs:List (Str × V),(cG f v fs).length<=fs.length+1
 | []=>by simp[cG]
 | (k,x)::r=>by
  have ih:=Bv f v r;rw[show cG f v ((k,x)::r)=(if k=f then (k,v)::r else (k,x)::cG f v r) from rfl];by_cases hk:k=f
  ·rw[Ww hk,TX,TX];omega
  ·rw[Wv hk,TX,TX];omega
def dl.some_of{v:V}{o:Option Value}(r:dl (some v) o):∃u,o=some u/\aO v u:=by
 cases o with
 | none=>exact (show False from r).elim
 | some u=>exact⟨u,rfl,r⟩
def dl.none_of{o:Option Value}(r:dl none o):o=none:=by
 cases o with
 | none=>rfl
 | some u=>exact (show False from r).elim
def MK{v:V}{u:Value}(r:aO v u):W.handedIn u=true:=by
 cases v with
 | non=>cases (show u=Value.none from r);rfl
 | bl b=>cases (show u=Value.bool b from r);rfl
 | int i=>obtain⟨t,e⟩:=(show ∃t,u=Value.int i t from r);cases e;rfl
 | str x=>obtain⟨t,e⟩:=(show ∃t,u=Value.str x t from r);cases e;rfl
 | byt b=>obtain⟨t,e⟩:=(show ∃t,u=Value.bytes b t from r);cases e;rfl
 | flt b=>obtain⟨t,e⟩:=(show ∃t,u=Value.float b t from r);cases e;rfl
 | ref a=>cases (show u=Value.ref a from r);rfl
 | ty n=>cases (show u=Value.type n from r);rfl
section
variable {P:Program}{w:World}{H H':Hp}{h h':Heap}{a C dx:Addr}{fs fs':List (Str × V)}
def pU(hok:bK P w H h)(e:H a=some (.ins C dx fs)):∃mA,jA h a dx C mA/\(∀f,dl (fs.lookup f) (mA f))/\PySem.Within mA (fs.map (·.1))/\fs.length<=1000/\H dx=some (.own a):=by
 obtain⟨d,z,ne,b,mA,n,r,q⟩:=(show bI P w H h a (.ins C dx fs) from hok a _ e);exact⟨mA,⟨b,n,ne⟩,r,q,z,d⟩
end
structure dA (K:W.Frag) (C:Addr):Prop where
 pg:W.plainGet K C Str.empty=true
 hd:W.hasDictIn K C=true
 po:W.plainOver K C=true
 sa:W.findIn K (.ref C) "__setattr__" = some (some (.builtin "object.__setattr__"))
def dA.get{K:W.Frag}{C:Addr}(c:dA K C)(f:Str):W.plainGet K C f=true:=c.pg
def cZ(K:W.Frag)(C:Addr)(f:Str):Prop:=W.findIn K (.ref C) f=some none
def cZ.taker{K:W.Frag}{C:Addr}{f:Str}(n:cZ K C f):W.takerIn K C f=some none:=by
 unfold W.takerIn;rw[show W.findIn K (.ref C) f=some none from n]
 rfl
structure Td (K:W.Frag) (C:Addr) (f:Str) (v:V) (u:Value):Prop where
 at_:W.findIn K (.ref C) f=some (some u)
 rel:aO v u
 get:W.specialIn K u "__get__" = some none
 cp:W.copiedNames.contains f=false
structure bE (K:W.Frag) (C:Addr) (m:Str) (f:Addr):Prop where
 at_:W.findIn K (.ref C) m=some (some (.ref f))
 fn:W.isFn K (.ref f)=true
 kp:W.keepIn K (.ref f)=true
section
variable {X:Cx}{pins:List (Addr × Obj)}{σ:St}{H:Hp}{s:fy}{a C dx:Addr}{fs:List (Str × V)}{f:Str}{v:V}{A:Around}{E:Value->fy->Prop}
def Co{b:Bool}{Q:Value->fy->Prop}(I:af X pins σ H s)(e:H a=some (.ins C dx fs))(c:dA X.K C)(n:cZ X.K C f)(l:fs.lookup f=some v)
 (h:∀u s',af X pins σ H s'->aO v u->Q u s'):wpAny (model X.prog X.w) A (getAttr (.ref a) f b) Q E s:=by
 obtain⟨mA,O,r,_,_,_⟩:=pU I.hok e;obtain⟨u,g,d⟩:=dl.some_of (v:=v) (o:=mA f) (by rw[<- l];exact r f);exact NE I.kIn O (c.get f) c.hd n g (MK d) (h u _ (I.tok _) d)
def Cn{m:Str}{g:Addr}{pl:Sem Bool}{Q:Value × List Value->fy->Prop}(I:af X pins σ H s)(e:H a=some (.ins C dx fs))(c:dA X.K C)(k:bE X.K C m g)(l:fs.lookup m=none)
 (h:Q (.ref g,[.ref a]) s):wpAny (model X.prog X.w) A (getMethod (.ref a) m pl) Q E s:=by
 obtain⟨mA,O,r,_,_,_⟩:=pU I.hok e;have b:mA m=none:=dl.none_of (by rw[<- l];exact r m);exact ND I.kIn O (c.get m) k.at_ k.fn b h
def zP{y:V}{u:Value}{Q:Unit->fy->Prop}(I:af X pins σ H s)(e:H a=some (.ins C dx fs))(c:dA X.K C)(n:cZ X.K C f)(l:fs.length<1000)(k:aO y u)
 (h:∀s',af X pins σ (upd H a (.ins C dx (cG f y fs))) s'->Q () s'):wpAny (model X.prog X.w) A (setAttr (.ref a) f u) Q E s:=by
 obtain⟨mA,O,r,i,_,ho⟩:=pU I.hok e;have hz:(fs.map (·.1)).length<=sizeLine:=by rw[To,sizeLine_eq];omega
 refine G3 I.kIn O c.sa c.po n.taker c.hd i hz λh' d sb=>h _ ?_;have hd:∃o,h'.get? dx=some o:=let ⟨o,_,_,e',_⟩:=d.ns;⟨o,e'⟩
 refine I.write (x:=a) (e:=dx) (by rw[e];exact True.intro) (.inr ho) (λb q hb z=>(sb.2 b hb).trans z) hd ?_;refine⟨by rw[au O.ne];exact ho,?_,O.ne,d.obj,_,d.ns,λg=>?_,λg j=>?_⟩
 ·have:=Bv f y fs;omega
 ·show dl ((cG f y fs).lookup g) (if g=f then some u else mA g);rw[tj];by_cases q:g=f
  ·rw[Ww q,Ww q];exact k
  ·rw[Wv q,Wv q];exact r g
 ·by_cases q:g=f
  ·rw[q];exact (tw f y fs).1
  ·refine (tw f y fs).2 g (i g λz=>j ?_);show (if g=f then some u else mA g)=none;rw[Wv q];exact z
def af.made(I:af X pins σ H s):af X pins σ (upd (upd H s.heap.objs.size (.own (s.heap.objs.size+1))) (s.heap.objs.size+1) (.ins C s.heap.objs.size []))
 { s with heap:=(s.heap.push W.emptyDict).push (W.instObj C s.heap.objs.size) }:=by
 have c:(s.heap.push W.emptyDict).get? s.heap.objs.size=some W.emptyDict:=T6 s.heap rfl;have i:((s.heap.push W.emptyDict).push (W.instObj C s.heap.objs.size)).get? (s.heap.objs.size+1)=some (W.instObj C s.heap.objs.size):=by
  have:=T6 (s.heap.push W.emptyDict) (o:=W.instObj C s.heap.objs.size) rfl
  rwa [UE]at this
 have g:(s.heap.push W.emptyDict).Ns s.heap.objs.size (λ_=>none):=⟨W.emptyDict,#[],_,c,rfl,(λe h=>Wx h (by simp)),λ_=>rfl⟩;have f:=I.laid (a:=s.heap.objs.size) (o:=.own (s.heap.objs.size+1)) (h':=s.heap.push W.emptyDict) (t':=s.toks) (λb u q=>Tu _ q) (Tp _) ⟨_,c⟩;refine f.laid (a:=s.heap.objs.size+1) (o:=.ins C s.heap.objs.size []) (t':=s.toks) (λb u q=>Tu _ q) (UU (UE _ _)) ?_;have ne:s.heap.objs.size≠s.heap.objs.size+1:=Tx (TR _);refine⟨by rw[au ne,aV],TJ _,ne,i,λ_=>none,(Heap.Ns1.of_empty g).at λo q=>Tu _ q,λ_=>True.intro,λy d=>Wx rfl d⟩
def Dg{prog:Program}{w:World}{env:Env}{e:Expr}{f:Str}{pos:Pos}{s:fy}{Q:Value->fy->Prop}(hb:attributeBase e f env (eval e env)=eval e env)
 (h:wpAny (model prog w) A (eval e env) (λo a=>wpAny (model prog w) A (getAttr o f true) Q E a) E s):wpAny (model prog w) A (eval (.Attribute e f pos) env) Q E s :=
 Attribute_any_ h (by rw[arm_eval_Attribute,hb])
end
def zo(K:W.Frag)(c:TE)(f:Str):TE:=λσ H Q=>c σ H λx b=>∃a C dx fs v,x=.ref a/\b a=some (.ins C dx fs)/\dA K C/\cZ K C f/\fs.lookup f=some v/\Q v b
def Aj(K:W.Frag)(c d:TE)(f:Str):TS:=λD σ H=>d σ H λy e=>c σ e λx b=>∃a C dx fs,x=.ref a/\b a=some (.ins C dx fs)/\dA K C/\cZ K C f/\fs.length<1000 /\
 D.nx σ (upd b a (.ins C dx (cG f y fs)))
def Dy(X:Cx)(b:Operator)(rd:V->V->Hp->VK->Prop):Prop :=
 ∀(a:List (Addr × Obj)) (s:fy) (σ:St) (H:Hp) (x y:V) (u v:Value) (Q:VK),af X a σ H s->aO x u->aO y v->rd x y H Q->wpAny (model X.prog X.w) X.A (inplaceOp b u v) (EP X a σ Q) X.xe s
def Ai(K:W.Frag)(e d:TE)(rd:V->V->Hp->VK->Prop)(f:Str):TS:=λD σ H=>e σ H λx c=>∃a C dx fs v,x=.ref a/\c a=some (.ins C dx fs)/\dA K C/\cZ K C f/\fs.lookup f=some v /\
 d σ c λy g=>rd v y g λz b=>∃dx' fs',b a=some (.ins C dx' fs')/\fs'.length<1000/\D.nx σ (upd b a (.ins C dx' (cG f z fs')))
section
variable {X:Cx}{o e value:Expr}{f:Str}{pos pos' tpos:Pos}{ta tv:TE}
def JS(k:PE X e ta)(hb:attributeBase e f X.env (eval e X.env)=eval e X.env):PE X (.Attribute e f pos) (zo X.K ta f):=by
 intro b s σ H Q I h;refine Dg hb (az (k b s σ H _ I h) λu s1 ⟨x,d,i,o,a,C,dx,fs,v,ex,g,c,n,l,q⟩=>?_);subst ex;obtain rfl:u=Value.ref a:=o;exact Co i g c n l λp r m j=>⟨v,d,m,j,q⟩
def Jj(k:PE X o ta)(p:PE X value tv)(hs:swapsWith value (some (.Attribute o f pos')) pos.line X.env=pure false):PS X (.Assign [.Attribute o f pos'] value pos) (Aj X.K ta tv f):=by
 intro b s σ H D I h;refine plainObj_wpAny_Assign_Attribute (az (p b s σ H _ I h) λu s1 ⟨y,v,i,e,q⟩=>az (k b s1 σ v _ i q) λj B ⟨x,F,m,z,a,C,dx,fs,ex,g,c,n,l,r⟩=>?_) hs;subst ex;obtain rfl:j=Value.ref a:=z;exact zP m g c n l e λG d=>⟨σ,_,d,r⟩
def Ji{g:Operator}{rd:V->V->Hp->VK->Prop}(B:PE X o ta)(N:PE X value tv)(e:Dy X g rd):PS X (.AugAssign (.Attribute o f tpos) g value pos) (Ai X.K ta tv rd f):=by
 intro b s σ H D I h;refine wpAny_AugAssign_AttributeAny (az (B b s σ H _ I h) λr s1 ⟨x,G,p,k,a,C,dx,fs,v,ex,U,c,n,l,q⟩=>?_);subst ex;obtain rfl:r=Value.ref a:=k;refine Co p U c n l λu s2 j ru=>az (N b s2 σ G _ j q) λm s3 ⟨y,H2,R,S,W⟩=>az (e b s3 σ H2 v y u m _ R ru S W) λw4 s4 ⟨z,H3,J,F,L,i,d,O,M⟩=>?_;exact zP J d c n O F λs5 Y=>⟨σ,_,Y,M⟩
def Av:V->V->Hp->VK->Prop:=λx y H Q=>∃i j,x=.int i/\y=.int j/\Q (.int (i+j)) H
def Ms:Dy X .Add Av:=by
 rintro a s σ H x y u v Q I c b ⟨i,j,rfl,rfl,q⟩;obtain⟨t,rfl⟩:=(show ∃t,u=Value.int i t from c);obtain⟨t',rfl⟩:=(show ∃t',v=Value.int j t' from b);exact PyProof.Rows.iadd_int ⟨.int (i+j),H,I.tok _,⟨_,Z⟩,q⟩
end
section
variable {X:Cx}{pins:List (Addr × Obj)}{σ:St}{H:Hp}{s:fy}{A:Around}{E:Value->fy->Prop}{Q:Value->fy->Prop}{c:Value}{b:Bool}
inductive c9 (K:W.Frag) (H:Hp):V->Value->Prop where
 | non:c9 K H .non (.type "NoneType")
 | bl (x:Bool):c9 K H (.bl x) (.type "bool")
 | int (i:Int):c9 K H (.int i) (.type "int")
 | str (x:Str):c9 K H (.str x) (.type "str")
 | flt (x:UInt64):c9 K H (.flt x) (.type "float")
 | lst {a:Addr} {xs:List V} (e:H a=some (.lst xs)):c9 K H (.ref a) (.type "list")
 | frz {a:Addr} {o:Obj} {xs:List V} (e:H a=some (.frz o (.lst xs))):c9 K H (.ref a) (.type "list")
 | tup {a:Addr} {xs:List V} (e:H a=some (.tup xs)):c9 K H (.ref a) (.type "tuple")
 | dK {a:Addr} {kvs:List (aQ × V)} (e:H a=some (.dK kvs)):c9 K H (.ref a) (.type "dict")
 | dT {a:Addr} {kvs:List (List aQ × V)} (e:H a=some (.dT kvs)):c9 K H (.ref a) (.type "dict")
 | ins {a C dx:Addr} {fs:List (Str × V)} (e:H a=some (.ins C dx fs)) (cl:dA K C) (ha:W.findIn K (.ref C) "__class__" = some (some (.builtin "object.__class__")))
  (hn:W.specialIn K (.builtin "object.__class__") "__get__" = some (some (.builtin "getset_descriptor.__get__"))) (htk:W.takesIn K (.builtin "object.__class__")=some true)
  (hm:W.mroIn K C (.type "object")=some true):c9 K H (.ref a) (.ref C)
def BD{x:V}{u t:Value}(I:af X pins σ H s)(d:aO x u)(ty:c9 X.K H x t)(e:W.kitOne X.K t c=some b)(h:∀tk,Q (.bool b) { s with toks:=tk }) :
 wpAny (model X.prog X.w) A (call (.builtin "isinstance") [u,c]) Q E s:=by
 cases ty with
 | non=>cases (show u=Value.none from d);exact W.kia_one W.kitx_none I.kIn True.intro e (λz=>nomatch z) h
 | bl y=>cases (show u=Value.bool y from d);exact W.kia_one W.kitx_bool I.kIn True.intro e (λz=>nomatch z) h
 | int i=>obtain⟨t,q⟩:=(show ∃t,u=Value.int i t from d);cases q;exact W.kia_one W.kitx_int I.kIn True.intro e (λz=>nomatch z) h
 | str y=>obtain⟨t,q⟩:=(show ∃t,u=Value.str y t from d);cases q;exact W.kia_one W.kitx_str I.kIn True.intro e (λz=>nomatch z) h
 | flt y=>obtain⟨t,q⟩:=(show ∃t,u=Value.float y t from d);cases q;exact W.kia_one W.kitx_float I.kIn True.intro e (λz=>nomatch z) h
 | @lst a xs ea =>
  cases (show u=Value.ref a from d);obtain⟨_,_,n,_,f⟩:=(show bI X.prog X.w H s.heap a (.lst xs) from I.hok a _ ea);exact W.kia_one W.kitx_list I.kIn ⟨_,f,rfl⟩ e (λz=>nomatch z) h
 | @frz a ob xs ea =>
  cases (show u=Value.ref a from d);obtain⟨_,_,_,n,_,f⟩:=(show bI X.prog X.w H s.heap a (.frz ob (.lst xs)) from I.hok a _ ea);exact W.kia_one W.kitx_list I.kIn ⟨_,f,rfl⟩ e (λz=>nomatch z) h
 | @tup a xs ea =>
  cases (show u=Value.ref a from d);obtain⟨_,_,_,p⟩:=(show bI X.prog X.w H s.heap a (.tup xs) from I.hok a _ ea);obtain⟨o,f,g,_⟩:=p;exact W.kia_one W.kitx_tuple I.kIn ⟨o,f,g⟩ e (λz=>nomatch z) h
 | @dK a kvs ea =>
  cases (show u=Value.ref a from d);obtain⟨_,_,vs,_,p⟩:=(show bI X.prog X.w H s.heap a (.dK kvs) from I.hok a _ ea);obtain⟨o,es,j,f,g,_⟩:=p;exact W.kia_one W.kitx_dict I.kIn ⟨o,f,g.1⟩ e (λz=>nomatch z) h
 | @dT a kvs ea =>
  cases (show u=Value.ref a from d);obtain⟨_,_,xs,_,o,es,j,f,g,_⟩:=(show bI X.prog X.w H s.heap a (.dT kvs) from I.hok a _ ea);exact W.kia_one W.kitx_dict I.kIn ⟨o,f,g.1⟩ e (λz=>nomatch z) h
 | @ins a C dx fs ea cl ha hn htk hm =>
  cases (show u=Value.ref a from d);obtain⟨mA,O,_⟩:=pU I.hok ea;obtain⟨k,J,_⟩:=O.look;exact W.kia_one (W.kitx_own (cl.get _) cl.hd ha hn htk hm) I.kIn J e (λz=>nomatch z) h
end
structure bO (k:Nat) (A:Around):Prop where
 hd:A.handled=none
 dp:A.depth+3*k+5<recursionLimit
 un:A.units+16*k+200<cLine
def bO.mono{j k:Nat}{A:Around}(r:bO k A)(h:j<=k):bO j A:=⟨r.hd,by have:=r.dp;omega,by have:=r.un;omega⟩
def bO.deeper{k:Nat}{A:Around}(r:bO (k+1) A)(env:Env):bO k (A.deeper env) :=
 ⟨r.hd,by have:=r.dp;show A.depth+1+3*k+5<_;omega,by have:=r.un;show A.units+3+16*k+200<_;omega⟩
def LO {A:Around} {C:Addr} {us:List Value} {a:List (Str × Value)}:(A.under (.builtin "type.__call__" ⟨.ref C::us,a⟩)).depth=A.depth+1:=by
 first|rfl|simp[Around.under,Code.weight,Code.isCreation,Code.isGuard,Code.isCaller,Code.frames,Code.isFrame,guardIds]
def LK {A:Around} {C:Addr} {us:List Value} {a:List (Str × Value)}:(A.under (.builtin "type.__call__" ⟨.ref C::us,a⟩)).units=A.units+1:=by
 first|rfl|simp[Around.under,Code.cUnits,Code.frames,Code.isFrame]
def bO.make {k:Nat} {A:Around} (r:bO (k+1) A) (C:Addr) (us:List Value) (a:List (Str × Value)):bO k (A.under (.builtin "type.__call__" ⟨.ref C::us,a⟩)) :=
 ⟨r.hd,by have:=r.dp;rw[LO];omega,by have:=r.un;rw[LK];omega⟩
def bO.depth{k:Nat}{A:Around}(r:bO k A):A.depth<recursionLimit:=by have:=r.dp;omega
def bO.units{k:Nat}{A:Around}(r:bO k A):A.units+64<cLine:=by have:=r.un;omega
def i8:TA:=λ_ H Q=>Q [] H
def jG(a:TE)(b:TA):TA:=λσ H Q=>a σ H λx d=>b σ d λxs c=>Q (x::xs) c
section
variable {X:Cx}{e:Expr}{es:List Expr}{te:TE}{t:TA}{pos:Pos}
def AT:PA X [] i8:=λ_ _ _ _ H Q I h=>Calls.spliced_nil ⟨[],H,I,.nil,h⟩
def J6(g:PE X e te)(f:PA X es t)(hs:starEach (e::es) X.env=(false,eval e X.env)::starEach es X.env:=by rfl):PA X (e::es) (jG te t):=by
 intro pos a s σ H Q I h;rw[hs];show wpAny _ _ (spliced ((false,eval e X.env)::backTo pos (starEach es X.env))) _ _ s;refine Calls.spliced_cons (az (g a s σ H _ I h) λu s1 ⟨x,b,d,c,j⟩=>?_);exact az (f pos a s1 σ b _ d j) λus n ⟨xs,m,k,i,l⟩=>⟨x::xs,m,k,.cons c i,l⟩
end
abbrev Sp:=List V->Hp->VK->XK->Prop
abbrev gx:=List Env->Hp->fy->XK->Value->fy->Prop
structure i4 (P:Program) (w:World) (K:W.Frag) (mg:Str->Option Value) (base:Heap) (A:Around) (outer:List Env) (s:fy) (H:Hp):Prop where
 frames:A.frames=some outer
 mod:Mod K mg base
 bs:∀b o,base.get? b=some o->s.heap.get? b=some o/\H b=none
 bsz:base.objs.size<=s.heap.objs.size
 funs:s.heap.FunFrames base outer
 frf:∀b∈cH outer,H b=none
 hok:bK P w H s.heap
 bare:AllBare s.gens
def CE(outer:List Env)(P:Program)(w:World)(H:Hp)(s:fy)(Q:VK)(u:Value)(a:fy):Prop :=
 ∃v H',a.os=s.os/\AllBare a.gens/\Un (cH outer) [] H H' s.heap a.heap/\bK P w H' a.heap/\aO v u/\Q v H'
def CR(CX:gx)(outer:List Env)(P:Program)(w:World)(H:Hp)(s:fy)(Q:VK)(E:XK)(r:Result)(a:fy):Prop :=
 match r with
 | .ok (.ret u)=>CE outer P w H s Q u a
 | .ok _=>False
 | .error e=>CX outer H s E e a
structure bL (P:Program) (w:World) (K:W.Frag) (mg:Str->Option Value) (base:Heap) (CX:gx) (k:Nat) (f:Addr) (fd:FuncData) (ps:List Str) (sp:Sp):Prop where
 len:∀vs H Q E,sp vs H Q E->vs.length=ps.length
 run:∀(A:Around) (outer:List Env) (s:fy) (H:Hp) (args:Args) (us:List Value) (vs:List V) (Q:VK) (E:XK),bO k A->i4 P w K mg base A outer s H->BindsTo s fd args (ps.zip us)->aJ vs us->sp vs H Q E ->
  codeAny (model P w) A (.call (.ref f) args) (CR CX outer P w H s Q E) s
def i4.make{P:Program}{w:World}{K:W.Frag}{mg:Str->Option Value}{base:Heap}{A:Around}{outer:List Env}{s:fy}{H:Hp}(e:i4 P w K mg base A outer s H)(C:Addr)(us:List Value)(a:List (Str × Value)) :
 i4 P w K mg base (A.under (.builtin "type.__call__" ⟨.ref C::us,a⟩)) outer s H:=⟨by first|exact e.frames|(simpa [Around.under,Code.envs,Code.isFrame,pushEnvs] using e.frames),e.mod,e.bs,e.bsz,e.funs,e.frf,e.hok,e.bare⟩
section
variable {X:Cx}{pins:List (Addr × Obj)}{σ:St}{H:Hp}{s s':fy}
def af.env0(I:af X pins σ H s):i4 X.prog X.w X.K X.mg X.base X.A X.stack s H :=
 ⟨I.ok.frames,I.ok.mod,I.bs,TH I.ok.bsz I.sz,I.stack,I.stkFree,I.hok,I.bare⟩
def af.after{Q:VK}{u:Value}(I:af X pins σ H s)(h:CE X.stack X.prog X.w H s Q u s'):EP X pins σ Q u s':=by
 obtain⟨v,e,os,bare,un,hok,r,q⟩:=h;obtain⟨c,g,d,t,a⟩:=s';obtain rfl:a=s.os:=os;exact⟨v,e,I.call (h':=c) (g':=g) (d':=d) (t':=t) (ch:=[]) un hok bare (λb z=>Wx z (by simp)),r,q⟩
end
def sf(sp:Sp)(a:List V)(E:XK)(t:TA):TE:=λσ H Q=>t σ H λvs b=>sp (vs++a) b Q E
def my(C:Addr)(m:Str)(sp:Sp)(b:List V)(E:XK)(d:TE)(t:TA):TE:=λσ H Q=>d σ H λx c=>∃a dx fs,x=.ref a/\c a=some (.ins C dx fs)/\fs.lookup m=none /\
 t σ c λvs e=>sp (x::(vs++b)) e Q E
def zk(C:Addr)(sp:Sp)(a:List V)(E:XK)(t:TA):TE:=λσ H Q=>t σ H λvs b=>∀x dx,b x=none->b dx=none->dx≠x ->
 sp (.ref x::(vs++a)) (upd (upd b dx (.own x)) x (.ins C dx [])) (λv c=>v=.non/\Q (.ref x) c) E
def ax(K:W.Frag)(a:FuncData)(ps:List Str)(ds:List Value):Prop :=
 ∀(s:fy) (us:List Value),K.In s.heap->(us++ds).length=ps.length->BindsTo s a ⟨us,[]⟩ (ps.zip (us++ds))
def ax.all{K:W.Frag}{a:FuncData}{ps:List Str}(h:∀us:List Value,us.length=ps.length->bindArgs a ⟨us,[]⟩=pure (ps.zip us)):ax K a ps []:=λs us _ b=>by
 rw[TD]at b ⊢;exact .of_eq (h us b)
def iX(CX:gx)(X:Cx)(E:XK):Prop:=∀(a:List (Addr × Obj)) (σ:St) (H:Hp) (s:fy) (e:Value) (b:fy),af X a σ H s->CX X.stack H s E e b->X.xe e b
section
variable {X:Cx}{CX:gx}{k:Nat}{f C:Addr}{fd:FuncData}{ps:List Str}{sp:Sp}{dvs:List V}{ds:List Value}{E:XK}{x m:Str}{p pos apos:Pos}{e o:Expr}{es:List Expr}{ta:TE}{t:TA}
def sF{a:List (Addr × Obj)}{σ:St}{H:Hp}{s:fy}{Q:VK}{us:List Value}{vs:List V}(F:bL X.prog X.w X.K X.mg X.base CX k f fd ps sp)(d:bO k X.A)(hb:ax X.K fd ps ds)(hd:aJ dvs ds)(hx:iX CX X E)
 (I:af X a σ H s) (r:aJ vs us) (h:sp (vs++dvs) H Q E):wpAny (model X.prog X.w) X.A (call (.ref f) us) (EP X a σ Q) X.xe s:=by
 have c:aJ (vs++dvs) (us++ds):=r.append hd;have i:(us++ds).length=ps.length:=by rw[<- c.length];exact F.len _ _ _ _ h
 refine wpAny_call (codeAny_mono (F.run X.A X.stack s H ⟨us,[]⟩ (us++ds) (vs++dvs) Q E d I.env0 (hb s us I.kIn i) c h) λr g b=>?_);cases r with
 | error e=>exact hx a σ H s e g I b
 | ok fl =>
  cases fl with
  | ret u=>exact I.after b
  | next=>exact False.elim b
  | brk=>exact False.elim b
  | cont=>exact False.elim b
def J1(F:bL X.prog X.w X.K X.mg X.base CX k f fd ps sp)(j:bO k X.A)(i:Gl X x)(g:X.mg x=some (.ref f))(m:W.keepIn X.K (.ref f)=true)(hb:ax X.K fd ps ds)(hd:aJ dvs ds)(hx:iX CX X E)
 (l:PA X (e::es) t) (b:(x == ("__debug__" : Str))=false:=by decide) (n:starEach (e::es) X.env=(false,eval e X.env)::starEach es X.env:=by rfl) (c:(backTo pos (starEach es X.env)).any (·.1)=false:=by rfl) :
 PE X (.Call (.Name x p) (e::es) [] pos) (sf sp dvs E t):=by
 intro a s σ H Q I h;refine wpAny_Call_Name_kw (jp I i g ?_ b);refine W.callWith_K (h₀:=X.base) I.ok.mod.kin m (az (l pos a s σ H _ I h) λus s1 ⟨vs,o,d,r,q⟩=>⟨d.kIn,?_⟩) n c;exact sF F j hb hd hx d r q
def AO{pl:Sem Bool}(z:PE X o ta)(c:dA X.K C)(i:bE X.K C m f)(F:bL X.prog X.w X.K X.mg X.base CX k f fd ps sp)(v:bO k X.A)(hb:ax X.K fd ps ds)(hd:aJ dvs ds)(hx:iX CX X E)(y:PA X (e::es) t)
 (g:starEach (e::es) X.env=(false,eval e X.env)::starEach es X.env:=by rfl) (d:(backTo pos (starEach es X.env)).any (·.1)=false:=by rfl)
 (J:eval (.Call (.Attribute o m apos) (e::es) [] pos) X.env=(do
   let ov <- eval o X.env
   standAt apos.atName
   let (f,first) <- holding [ov] (getMethod ov m pl)
   callWith pos f first (backTo pos (starEach (e::es) X.env)) (backToKw pos (keywordEach [] X.env))):=by rfl) :
 PE X (.Call (.Attribute o m apos) (e::es) [] pos) (my C m sp dvs E ta t):=by
 intro b s σ H Q I h;refine W.methodCall_KW (pl:=pl) (az (z b s σ H _ I h) λu s1 ⟨x,D,j,G,a,dx,fs,ex,p,l,q⟩=>?_) J;subst ex;obtain rfl:u=Value.ref a:=G;refine Cn j p c i l ?_;refine W.callWith_K (first:=[.ref a]) (h₀:=X.base) I.ok.mod.kin i.kp (az (y pos b s1 σ D _ j q) λus L ⟨vs,M,n,r,B⟩=>⟨n.kIn,?_⟩) g d;exact sF (us:=.ref a::us) (vs:=.ref a::vs) F v hb hd hx n (.cons Z r) B
def JO{pl:Sem Bool}(j:PE X o ta)(c:dA X.K C)(e:bE X.K C m f)(F:bL X.prog X.w X.K X.mg X.base CX k f fd ps sp)(i:bO k X.A)(hb:ax X.K fd ps ds)(hd:aJ dvs ds)(hx:iX CX X E)
 (p:eval (.Call (.Attribute o m apos) [] [] pos) X.env=(do
   let ov <- eval o X.env
   standAt apos.atName
   let (f,first) <- holding [ov] (getMethod ov m pl)
   callWith pos f first (backTo pos (starEach [] X.env)) (backToKw pos (keywordEach [] X.env))):=by rfl) :
 PE X (.Call (.Attribute o m apos) [] [] pos) (my C m sp dvs E ta i8):=by
 intro b s σ H Q I h;refine W.methodCall_KW (pl:=pl) (az (j b s σ H _ I h) λu s1 ⟨x,r,d,n,a,dx,fs,ex,g,l,q⟩=>?_) p;subst ex;obtain rfl:u=Value.ref a:=n;refine Cn d g c e l ?_;exact W.callWith_K0 (first:=[.ref a]) d.kIn e.kp (sF (us:=[.ref a]) (vs:=[.ref a]) F i hb hd hx d (.cons rfl .nil) q)
structure Mk (K:W.Frag) (C f:Addr):Prop where
 makes:W.makesIn K C=true
 init:W.findIn K (.ref C) "__init__" = some (some (.ref f))
 fn:W.isFn K (.ref f)=true
 kp:W.keepIn K (.ref C)=true
def HX{a:List (Addr × Obj)}{σ:St}{H:Hp}{s:fy}{Q:VK}{us:List Value}{vs:List V}(M:Mk X.K C f)(F:bL X.prog X.w X.K X.mg X.base CX k f fd ps sp)(m:bO (k+1) X.A)(hb:ax X.K fd ps ds)(hd:aJ dvs ds)
 (hx:iX CX X E) (I:af X a σ H s) (r:aJ vs us)
 (h:∀x dx,H x=none->H dx=none->dx≠x->sp (.ref x::(vs++dvs)) (upd (upd H dx (.own x)) x (.ins C dx [])) (λv q=>v=.non/\Q (.ref x) q) E) :
 wpAny (model X.prog X.w) X.A (call (.ref C) us) (EP X a σ Q) X.xe s:=by
 have g:=h (s.heap.objs.size+1) s.heap.objs.size (I.hok.fresh (UF _)) (I.hok.fresh (Tp _)) (Tx (TR _));have c:=af.made (C:=C) I;have d:aJ (V.ref (s.heap.objs.size+1)::(vs++dvs)) (Value.ref (s.heap.objs.size+1)::(us++ds)):=.cons rfl (r.append hd);have y:(Value.ref (s.heap.objs.size+1)::us++ds).length=ps.length:=by
  have e:=d.length;rw[F.len _ _ _ _ g]at e;exact e.symm
 refine wpAny_call (LM (f:=f) I.kIn M.makes M.init (beq_iff_eq.mp M.fn) (codeAny_mono (F.run _ X.stack _ _ ⟨Value.ref (s.heap.objs.size+1)::us,[]⟩ (Value.ref (s.heap.objs.size+1)::(us++ds)) _ _ E (m.make C us [])
  (c.env0.make C us []) (hb _ (Value.ref (s.heap.objs.size+1)::us) c.kIn y) d g) λr p b=>?_))
 cases r with
 | error e=>exact hx a σ _ _ e p c b
 | ok fl =>
  cases fl with
  | ret u =>
   obtain⟨v,n,i,o,j,l⟩:=c.after b;subst j;exact⟨o,⟨V.ref (s.heap.objs.size+1),n,i,Z,l⟩⟩
  | next=>exact False.elim b
  | brk=>exact False.elim b
  | cont=>exact False.elim b
def JP(M:Mk X.K C f)(F:bL X.prog X.w X.K X.mg X.base CX k f fd ps sp)(j:bO (k+1) X.A)(i:Gl X x)(g:X.mg x=some (.ref C))(hb:ax X.K fd ps ds)(hd:aJ dvs ds)(hx:iX CX X E)
 (l:PA X (e::es) t) (b:(x == ("__debug__" : Str))=false:=by decide) (m:starEach (e::es) X.env=(false,eval e X.env)::starEach es X.env:=by rfl) (c:(backTo pos (starEach es X.env)).any (·.1)=false:=by rfl) :
 PE X (.Call (.Name x p) (e::es) [] pos) (zk C sp dvs E t):=by
 intro a s σ H Q I h;refine wpAny_Call_Name_kw (jp I i g ?_ b);refine W.callWith_K (h₀:=X.base) I.ok.mod.kin M.kp (az (l pos a s σ H _ I h) λus s1 ⟨vs,n,d,r,q⟩=>⟨d.kIn,?_⟩) m c;exact HX M F j hb hd hx d r q
end
section
variable {X:Cx}{CX:gx}{k:Nat}{f C:Addr}{fd:FuncData}{ps ks:List Str}{sp:Sp}{E:XK}{x m:Str}{p pos apos kpos:Pos}{e o:Expr}{es:List Expr}{kws:List Keyword}{te ta:TE}{t tk:TA}{nm:Option Str}
structure S5 (K:W.Frag) (fd:FuncData) (ps ks:List Str) (g:List Value->List Value->List Value) (gV:List V->List V->List V):Prop where
 to:∀(s:fy) (us ws:List Value),K.In s.heap->(g us ws).length=ps.length->BindsTo s fd ⟨us,ks.zip ws⟩ (ps.zip (g us ws))
 rel:∀ {vs:List V} {us:List Value} {zs:List V} {ws:List Value},aJ vs us->aJ zs ws->aJ (gV vs zs) (g us ws)
variable {g:List Value->List Value->List Value}{gV:List V->List V->List V}
end
structure aL (N P:List Str) (sc:Scope):Prop where
 kind:sc.kind=.function
 co:sc.isCoroutine=false
 gen:sc.isGenerator=false
 nd:N.Nodup
 pre:N.take P.length=P
 par:∀x∈P,sc.names.lookup x=some .local\/sc.names.lookup x=some .cell
 nofree:∀y∈sc.names,y.2 ≠ .free
theorem Da{kindOf:Str->Option NameKind}{x:Str}:∀ {binds:List (Str × Value)} {m:Str->Option Value},(∀v,(x,v)∉binds)->bindL kindOf binds m x=m x
 | [],_,_=>rfl
 | (n,v)::r,m,h=>by
  unfold bindL;rw[Da λw hw=>h w (TW _ hw)]
  split
  ·have:x≠n:=by rintro rfl;exact h v TV
   simp[this]
  ·rfl
theorem Dc{kindOf:Str->Option NameKind}{x:Str}:∀ {binds:List (Str × Value)} {m:Str->Option Value},(∀v,(x,v)∉binds)->bindC kindOf binds m x=m x
 | [],_,_=>rfl
 | (n,v)::r,m,h=>by
  unfold bindC;rw[Dc λw hw=>h w (TW _ hw)]
  split
  ·rfl
  ·have:x≠n:=by rintro rfl;exact h v TV
   simp[this]
theorem Db{kindOf:Str->Option NameKind}{x:Str}{v:Value}:∀ {P:List Str} {vs:List Value} {i:Nat} {m:Str->Option Value},P.Nodup->P[i]? = some x->vs[i]? = some v->kindOf x=some .local ->
 bindL kindOf (P.zip vs) m x=some v
 | [],_,_,_,_,h,_,_=>by simp at h
 | _::_,[],_,_,_,_,h,_=>by simp at h
 | p::P,w::vs,0,m,nd,h1,h2,hk=>by
  simp at h1 h2;subst h1;subst h2;show bindL kindOf ((p,w)::P.zip vs) m p=_;unfold bindL;rw[Da λv a=>(UV.mp nd).1 (VA a).1,Ww hk];simp
 | p::P,w::vs,i+1,m,nd,h1,h2,hk=>by
  show bindL kindOf ((p,w)::P.zip vs) m x=_;unfold bindL;exact Db (i:=i) (UV.mp nd).2 (by simpa using h1) (by simpa using h2) hk
theorem Dd{kindOf:Str->Option NameKind}{x:Str}{v:Value}:∀ {P:List Str} {vs:List Value} {i:Nat} {m:Str->Option Value},P.Nodup->P[i]? = some x->vs[i]? = some v->kindOf x≠some .local ->
 bindC kindOf (P.zip vs) m x=some v
 | [],_,_,_,_,h,_,_=>by simp at h
 | _::_,[],_,_,_,_,h,_=>by simp at h
 | p::P,w::vs,0,m,nd,h1,h2,hk=>by
  simp at h1 h2;subst h1;subst h2;show bindC kindOf ((p,w)::P.zip vs) m p=_;unfold bindC;rw[Dc λv a=>(UV.mp nd).1 (VA a).1,Wv hk];simp
 | p::P,w::vs,i+1,m,nd,h1,h2,hk=>by
  show bindC kindOf ((p,w)::P.zip vs) m x=_;unfold bindC;exact Dd (i:=i) (UV.mp nd).2 (by simpa using h1) (by simpa using h2) hk
def gD(N:List Str)(vs:List V):St:=vs.map some++List.replicate (N.length-vs.length) none
def f6(CX:gx)(P:Program)(w:World)(K:W.Frag)(mg:Str->Option Value)(base:Heap)(N:List Str)(qual:Str)(scope:Scope)(f:Addr)(b:Value)(A:Around)(outer:List Env)(s:fy)(H:Hp)(E:XK):Cx where
 prog:=P
 w:=w
 K:=K
 mg:=mg
 base:=base
 A:=A.deeper (envOfC qual scope s.heap.objs.size f b)
 N:=N
 s₀:=s
 H₀:=H
 env:=envOfC qual scope s.heap.objs.size f b
 outer:=outer
 stack:=envOfC qual scope s.heap.objs.size f b::outer
 ex:=[]
 calm:=true
 fn:=λ_=>true
 pn:=[]
 xe:=λe d=>wpAny (model P w) (A.deeper (envOfC qual scope s.heap.objs.size f b)) (leaving (envOfC qual scope s.heap.objs.size f b) e) (λ_ a=>CX outer H s E e a) (λc a=>CX outer H s E c a) d
def C3{a:Scope}{n:Nat}{x:Str}(h:a.names.lookup x=some .cell):∃c,(cellsFrom n a.names []).lookup x=some c:=by
 have q:=W.cellsFrom_some a.names n [] (.inl h);exact VB.mp q
def Mj{CX:gx}{P:Program}{w:World}{K:W.Frag}{mg:Str->Option Value}{base:Heap}{N ps:List Str}{qual:Str}{scope:Scope}{f:Addr}{o:Value}{A:Around}{outer:List Env}{s s1:fy}{H:Hp}{E:XK}{us:List Value}{vs:List V}
 (S:aL N ps scope) (hd:A.handled=none) (g:i4 P w K mg base A outer s H) (J:vs.length=ps.length) (r:aJ vs us)
 (x:InCallC s s.heap.objs.size (bindL (envOfC qual scope s.heap.objs.size f o).kindOf (ps.zip us) λ_=>none) (cellsFrom (s.heap.objs.size+1) scope.names []) (bindC (envOfC qual scope s.heap.objs.size f o).kindOf (ps.zip us) λ_=>none) s1) :
 af (f6 CX P w K mg base N qual scope f o A outer s H E) [] (gD N vs) H s1:=by
 have I:ps.length<=N.length:=by have:=congrArg List.length S.pre;rw[TyZ]at this;omega
 obtain⟨m,L,rfl,D⟩:=x.done;have noA:∀b:Addr,b∉(f6 CX P w K mg base N qual scope f o A outer s H E).ex:=λb z=>Wx (show b∈([]:List Addr) from z) (by simp);refine⟨⟨g.mod,S.kind,rfl,rfl,Tp _,λy z c m d=>?_,λy j=>?_,λy c _ h=>?_,λ_=>hd,Around.frames_deeper g.frames,.inr ⟨rfl,rfl⟩,λb z=>Wx z (noA b),g.bs,g.bsz,λb _ _=>noA b,λb z=>Wx z (noA b),g.funs,g.frf⟩,
  rfl,g.bare,Un.kept D,⟨_,x.toInCall.ns,λi y v m d M=>?_⟩,λy c h=>⟨_,x.cell y c h⟩,g.hok.fresh (Tp _),λy c h=>?_,λp l=>Wx (show p∈([]:List (Addr × Obj)) from l) (by simp),g.hok.kept D,?_⟩
 ·exact name_of_addr x.apart (UW m) (UW d)
 ·have j:scope.names.lookup y=some .cell\/scope.names.lookup y=some .free:=j;rcases j with j|j
  ·exact C3 j
  ·exact Wx Z (S.nofree _ (UW j))
 ·exact Vz (x.above y c (UW h))
 ·have B:i<vs.length:=by
   unfold gD at d;by_cases B:i<vs.length
   ·exact B
   ·rw[UG (by simpa using B)]at d;rw[V1]at d
    split at d<;>cases d
  have G:vs[i]? = some v:=by
   unfold gD at d;rw[UH (by simpa using B),Tv]at d;cases e:vs[i]? with
   | none=>rw[e]at d;cases d
   | some a=>rw[e]at d;cases d;rfl
  obtain⟨u,C,F⟩:=r.get G;have l:ps[i]? = some y:=by
   rw[<- S.pre,Vf (by omega)];exact m
  have ndP:ps.Nodup:=by rw[<- S.pre];exact S.nd.sublist (List.take_sublist _ _)
  refine⟨u,F,?_⟩;rcases S.par y (TY l) with k|k
  ·exact .inl ⟨k,Db ndP l C k⟩
  ·obtain⟨c,e⟩:=C3 (n:=s.heap.objs.size+1) k;refine .inr ⟨.inl k,c,e,?_⟩;have q:=x.cell y c e;rw[Dd ndP l C (by show scope.names.lookup y≠_;rw[k];decide)]at q;exact q
 ·exact g.hok.fresh (Vz (x.above y c (UW h)))
 ·unfold gD;show _=N.length;rw[Tq,To,VC];omega
def ud{CX:gx}{P:Program}{w:World}{K:W.Frag}{mg:Str->Option Value}{base:Heap}{k:Nat}{f:Addr}{name qual:Str}{params:Arguments}{body:List Stmt}{scope:Scope}{dV kV l L a ct oc:Value}{M R:Option Addr}
 {D:Array (Option Value)} {N ps:List Str} {sp:Sp} (Y:K.lookup f=some ⟨oc,R,.func (W.fnOf name qual params body scope dV kV l L M a ct),D⟩) (B:W.codeIn K a qual=true) (S:aL N ps scope)
 (len:∀vs H Q E,sp vs H Q E->vs.length=ps.length)
 (d:∀(A:Around) (outer:List Env) (s:fy) (H:Hp) (vs:List V) (Q:VK) (E:XK),bO k (A.deeper (envOfC qual scope s.heap.objs.size f a))->sp vs H Q E ->
   ∃t,gc (f6 CX P w K mg base N qual scope f a A outer s H E) body t/\t { nx:=λ_ c=>Q .non c,rt:=Q } (gD N vs) H) :
 bL P w K mg base CX (k+1) f (W.fnOf name qual params body scope dV kV l L M a ct) ps sp:=by
 refine⟨len,λA outer s H args us vs Q E F j hb r i=>?_⟩;have U:=len _ _ _ _ i;have G:K.In s.heap:=j.mod.kin.keeps λb o e=>(j.bs b o e).1;have p:s.heap.NoLimit:=j.mod.nolimit.keeps λb o e=>(j.bs b o e).1;have g:∀y∈ps.zip us,scope.names.lookup y.1=some .local\/(scope.names.lookup y.1=some .cell/\((cellsFrom (s.heap.objs.size+1) scope.names []).lookup y.1).isSome=true):=λ⟨n,v⟩ O=>by
  rcases S.par n (VA O).1 with q|q
  ·exact .inl q
  ·exact .inr ⟨q,W.cellsFrom_some _ _ _ (.inl q)⟩
 refine codeAny_call_function F.depth (G _ _ Y) Z S.co S.gen Z (W.codeRec_of G B) (hb _ _ _ _ ?_);refine wpAny_newFunctionEnv_cells S.kind g λenv he s1 x=>?_;subst he;refine⟨p.keeps x.toInCall.keep,codeAny_func ?_⟩;obtain⟨t,ht,hq⟩:=d A outer s H vs Q E (F.deeper _) i;have I:af (f6 CX P w K mg base N qual scope f a A outer s H E) [] (gD N vs) H s1:=Mj S F.hd j U r x;refine wpAny_mono (ht [] s1 (gD N vs) H _ I hq) (λfl C hs=>?_) λe C hs=>hs;have h:∀ {m:St} {c:Hp} {v:V} {u:Value},af (f6 CX P w K mg base N qual scope f a A outer s H E) [] m c C->aO v u->Q v c->CE outer P w H s Q u C :=
  λ{m c v u} J z q=>⟨v,c,J.os,J.bare,J.base,J.hok,z,q⟩
 cases fl with
 | ret u =>
  obtain⟨v,m,c,J,z,q⟩:=hs;exact h J z q
 | next =>
  obtain⟨m,c,J,q⟩:=hs;exact h (v:=V.non) (u:=Value.none) J Z q
 | brk =>
  obtain⟨_,_,_,q⟩:=hs;exact False.elim q
 | cont =>
  obtain⟨_,_,_,q⟩:=hs;exact False.elim q
section
variable {X:Cx}{x:Str}{p pos:Pos}{e:Expr}{es:List Expr}{t:TA}{id T:String}{r:List V->Hp->VK->Prop}
def jH(r:List V->Hp->VK->Prop)(t:TA):TE:=λσ H Q=>t σ H λvs a=>r vs a Q
def J0 (j:cy X (.builtin id) r) (f:Gl X x) (d:X.mg x=none) (n:bootBuiltins x=some (.builtin id)) (k:PA X (e::es) t) (q:x ≠ "__name__":=by decide) (b:(x == ("__debug__" : Str))=false:=by decide)
 (l:starEach (e::es) X.env=(false,eval e X.env)::starEach es X.env:=by rfl) (c:(backTo pos (starEach es X.env)).any (·.1)=false:=by rfl):PE X (.Call (.Name x p) (e::es) [] pos) (jH r t):=by
 intro a s σ H Q I h;refine wpAny_Call_Name_kw (gL I f d n ?_ q b);exact V2 (az (k pos a s σ H _ I h) λus s1 ⟨vs,o,i,g,m⟩=>j a s1 σ o vs us Q i g m) l c
def JZ (j:cy X (.type T) r) (f:Gl X x) (d:X.mg x=none) (n:bootBuiltins x=some (.type T)) (k:PA X (e::es) t) (q:x ≠ "__name__":=by decide) (b:(x == ("__debug__" : Str))=false:=by decide)
 (l:starEach (e::es) X.env=(false,eval e X.env)::starEach es X.env:=by rfl) (c:(backTo pos (starEach es X.env)).any (·.1)=false:=by rfl):PE X (.Call (.Name x p) (e::es) [] pos) (jH r t):=by
 intro a s σ H Q I h;refine wpAny_Call_Name_kw (gL I f d n ?_ q b);exact Uu (az (k pos a s σ H _ I h) λus s1 ⟨vs,o,i,g,m⟩=>j a s1 σ o vs us Q i g m) l c
end
section
variable {κ:Type}[DecidableEq κ]
def bF(a:List (κ × V))(k:κ):Option V:=(a.find? λb=>decide (b.1=k)).map (·.2)
def cF(a:List (κ × V))(k:κ)(v:V):List (κ × V) :=
 if (a.any λb=>decide (b.1=k))=true then a.map (λb=>if b.1=k then (b.1,v) else b) else a++[(k,v)]
def gy{p:κ × V}{r:List (κ × V)}{k:κ}(e:p.1=k):bF (p::r) k=some p.2:=by simp[bF,Ug,e]
def gz{p:κ × V}{r:List (κ × V)}{k:κ}(e:¬p.1=k):bF (p::r) k=bF r k:=by simp[bF,Ug,e]
theorem mn(k:κ):∀kvs:List (κ × V),(kvs.any λa=>decide (a.1=k))=(bF kvs k).isSome
 | []=>rfl
 | p::r=>by
  rw[UI];by_cases e:p.1=k
  ·simp only [gy e,WA e,Bool.true_or,Option.isSome_some]
  ·rw[gz e,WB e,Bool.false_or];exact mn k r
theorem yS(k j:κ)(y:V):∀kvs:List (κ × V),bF (kvs.map λa=>if a.1=k then (a.1,y) else a) j=(bF kvs j).map λx=>if j=k then y else x
 | []=>rfl
 | p::r=>by
  have ih:=yS k j y r;rw[Uc];by_cases h:p.1=k
  ·rw[Ww h];by_cases e:p.1=j
   ·rw[gy (p:=(p.1,y)) e,gy e,UJ,Ww (e.symm.trans h)]
   ·rw[gz (p:=(p.1,y)) e,gz e,ih]
  ·rw[Wv h];by_cases e:p.1=j
   ·rw[gy (p:=p) e,gy e,UJ,Wv (λz=>h (e.trans z))]
   ·rw[gz (p:=p) e,gz e,ih]
theorem yR(k j:κ)(y:V):∀kvs:List (κ × V),bF kvs k=none->bF (kvs++[(k,y)]) j=if j=k then some y else bF kvs j
 | [],_=>by
  by_cases e:k=j
  ·rw[Ww e.symm];exact gy (p:=(k,y)) e
  ·rw[Wv (λz=>e z.symm)];exact gz (p:=(k,y)) e
 | p::r,hn=>by
  rw[VD];have a:¬p.1=k:=λz=>by rw[gy z]at hn;cases hn
  rw[gz a]at hn;have ih:=yR k j y r hn;by_cases e:p.1=j
  ·rw[gy e,gy e,Wv (λz=>a (e.trans z))]
  ·rw[gz e,gz e,ih]
def gT(b:List (κ × V))(k j:κ)(y:V):bF (cF b k y) j=if j=k then some y else bF b j:=by
 unfold cF;by_cases a:(b.any λc=>decide (c.1=k))=true
 ·rw[Ww a,yS];rw[mn]at a;by_cases e:j=k
  ·obtain⟨x,hx⟩:=VB.mp a;rw[Ww e,e,hx,UJ,Ww rfl]
  ·rw[Wv e];cases bF b j with
   | none=>rfl
   | some x=>rw[UJ,Wv e]
 ·rw[Wv a];refine yR k j y b ?_;rw[mn]at a;cases q:bF b k with
  | none=>rfl
  | some x=>rw[q]at a;exact (a Z).elim
def mW(a:List (κ × V))(k:κ)(v:V):(cF a k v).length<=a.length+1:=by
 unfold cF
 split
 ·rw[To];omega
 ·rw[Tq,TX,Vg];omega
def IU{a:List (κ × V)}{k:κ}(v:V)(h:bF a k=none):cF a k v=a++[(k,v)]:=by
 unfold cF;rw[mn,h];exact Wv (by decide)
def dl.isSome_eq{o:Option V}{u:Option Value}(r:dl o u):o.isSome=u.isSome:=by
 cases o with
 | none=>cases u with
  | none=>rfl
  | some _=>exact (show False from r).elim
 | some _=>cases u with
  | none=>exact (show False from r).elim
  | some _=>rfl
def dl.getD{o:Option V}{u:Option Value}{d:V}{d':Value}(r:dl o u)(rd:aO d d'):aO (o.getD d) (u.getD d'):=by
 cases o with
 | none=>cases u with
  | none=>exact rd
  | some _=>exact (show False from r).elim
 | some _=>cases u with
  | none=>exact (show False from r).elim
  | some _=>exact r
def KV.val{a:List (κ × V)}{vs:List (κ × Value)}(r:KV a vs)(k:κ):dl (bF a k) (valueAt vs k):=by
 unfold KV at r
 induction r with
 | nil=>exact True.intro
 | @cons p q ps qs h t ih =>
  obtain⟨d,f⟩:=h;by_cases e:p.1=k
  ·have c:q.1=k:=d.symm.trans e;have b:valueAt (q::qs) k=some q.2:=by simp[valueAt,Ug,c]
   rw[gy e,b];exact f
  ·have c:¬q.1=k:=λz=>e (d.trans z);have b:valueAt (q::qs) k=valueAt qs k:=by simp[valueAt,Ug,c]
   rw[gz e,b];exact ih
def KV.any{a:List (κ × V)}{vs:List (κ × Value)}(r:KV a vs)(k:κ):(a.any λb=>decide (b.1=k))=vs.any λb=>decide (b.1=k):=by
 unfold KV at r
 induction r with
 | nil=>rfl
 | cons h t ih=>rw[UI,UI,ih,h.1]
def KV.repl{b:List (κ × V)}{vs:List (κ × Value)}(r:KV b vs)(k:κ){y:V}{u:Value}(d:aO y u) :
 KV (b.map λa=>if a.1=k then (a.1,y) else a) (vs.map λa=>if a.1=k then (a.1,u) else a):=by
 unfold KV at r ⊢
 induction r with
 | nil=>exact .nil
 | @cons p q ps qs h t ih =>
  rw[Uc,Uc];refine .cons ?_ ih;obtain⟨c,f⟩:=h;by_cases e:p.1=k
  ·rw[Ww e,Ww (c.symm.trans e)];exact⟨c,d⟩
  ·rw[Wv e,Wv (λz=>e (c.trans z))];exact⟨c,f⟩
def KV.put{a:List (κ × V)}{vs:List (κ × Value)}(r:KV a vs)(k:κ){y:V}{u:Value}(b:aO y u):KV (cF a k y) (stored vs k u):=by
 unfold cF stored;rw[r.any k];by_cases e:(vs.any λc=>decide (c.1=k))=true
 ·rw[Ww e,Ww e];exact r.repl k b
 ·rw[Wv e,Wv e];exact Paired.snoc r ⟨rfl,b⟩
def KV.length{a:List (κ × V)}{vs:List (κ × Value)}(r:KV a vs):a.length=vs.length:=Paired.length r
end
def iM{P:Program}{w:World}{k:aQ}{u:Value}(r:aO (kV k) u):(cA P w).is k u=true:=by
 cases k with
 | inl i=>obtain⟨t,e⟩:=(show ∃t,u=Value.int i t from r);subst e;exact Bj P w i t
 | inr x=>obtain⟨t,e⟩:=(show ∃t,u=Value.str x t from r);subst e;exact Bi P w x t
theorem BB{P:Program}{w:World}:∀ {ks:List aQ} {us:List Value},aJ (ks.map kV) us->ItemsAre (cA P w) ks us
 | [],_,r=>by rw[List.map_nil]at r;cases r;exact .nil
 | k::ks,_,r=>by
  rw[Uc]at r;cases r with
  | cons h t=>exact .cons (iM h) (BB t)
abbrev KT(H:Hp):List (List aQ × V)->List (List aQ × Addr × Value)->Prop:=Paired λp q=>p.1=q.1/\H q.2.1=some (.tup (p.1.map kV))/\aO p.2 q.2.2
def KT.val{H:Hp}{a:List (List aQ × V)}{xs:List (List aQ × Addr × Value)}(r:KT H a xs)(k:List aQ):dl (bF a k) ((atKey xs k).map (·.2)):=by
 induction r with
 | nil=>exact True.intro
 | @cons p q ps qs h t ih =>
  obtain⟨d,_,f⟩:=h;by_cases e:p.1=k
  ·have c:q.1=k:=d.symm.trans e;have b:atKey (q::qs) k=some q.2:=by simp[atKey,Ug,c]
   rw[gy e,b];exact f
  ·have c:¬q.1=k:=λz=>e (d.trans z);have b:atKey (q::qs) k=atKey qs k:=by simp[atKey,Ug,c]
   rw[gz e,b];exact ih
def KT.repl{H:Hp}{a:List (List aQ × V)}{xs:List (List aQ × Addr × Value)}(r:KT H a xs)(k:List aQ){y:V}{u:Value}(f:aO y u) :
 KT H (a.map λc=>if c.1=k then (c.1,y) else c) (xs.map (putAt k u)):=by
 induction r with
 | nil=>exact .nil
 | @cons p q ps qs h t ih =>
  rw[Uc,Uc];refine .cons ?_ ih;obtain⟨b,d,g⟩:=h;unfold putAt;by_cases e:p.1=k
  ·rw[Ww e,Ww (b.symm.trans e)];exact⟨b,d,f⟩
  ·rw[Wv e,Wv (λz=>e (b.trans z))];exact⟨b,d,g⟩
def KT.put{H:Hp}{a:List (List aQ × V)}{xs:List (List aQ × Addr × Value)}(r:KT H a xs)(k:List aQ){b:Addr}{y:V}{u:Value}(hb:H b=some (.tup (k.map kV)))(c:aO y u) :
 KT H (cF a k y) (storedH xs k b u):=by
 have e:(a.any λd=>decide (d.1=k))=(atKey xs k).isSome:=by
  rw[mn,(r.val k).isSome_eq,Vh]
 unfold cF storedH;rw[e];by_cases q:(atKey xs k).isSome=true
 ·rw[Ww q,Ww q];exact r.repl k c
 ·rw[Wv q,Wv q];exact Paired.snoc r ⟨rfl,hb,c⟩
def KT.keeps{H c:Hp}{a:List (List aQ × V)}{xs:List (List aQ × Addr × Value)}(r:KT H a xs)(d:∀b ys,H b=some (.tup ys)->c b=some (.tup ys)):KT c a xs :=
 Paired.mapP r λ_ _ z=>⟨z.1,d _ _ z.2.1,z.2.2⟩
section
variable {P:Program}{w:World}{H:Hp}{h:Heap}{a:Addr}
def Aq{u:HO}(ok:bK P w H h)(e:Rd H a u):bI P w H h a u:=e.ok ok
def nR{b:List (aQ × V)}(ok:bK P w H h)(e:Rd H a (.dK b)):b.length<=sizeLine/\(a == sysModules)=false/\∃vs,KV b vs/\h.DictOf (cA P w) a vs :=
 show bI P w H h a (.dK b) from Aq ok e
def Pg{b:List (aQ × V)}(ok:bK P w H h)(e:H a=some (.dK b)):b.length<=sizeLine/\(a == sysModules)=false/\∃vs,KV b vs/\h.DictOf (cA P w) a vs:=nR ok (.inl e)
def mZ{ks:List aQ}(ok:bK P w H h)(e:H a=some (.tup (ks.map kV))):(tupleKind (cA P w)).is h ks a:=by
 obtain⟨_,b,r,o,d,c,n,f⟩:=(show bI P w H h a (.tup (ks.map kV)) from ok a _ e);exact⟨o,b.toArray,n,d,c,f,by simpa using BB r⟩
def nQ{b:List (List aQ × V)}(ok:bK P w H h)(e:Rd H a (.dT b)):b.length<=sizeLine/\(a == sysModules)=false /\
 ∃xs,KT H b xs/\h.DictOfH (tupleKind (cA P w)) a xs:=by
 obtain⟨z,y,xs,r,o,es,i,g,f,j,c,d⟩:=(show bI P w H h a (.dT b) from Aq ok e);refine⟨z,y,xs,r,o,es,i,g,f,j,c,λx hx=>?_,d⟩;have all:∀ {l:List (List aQ × V)} {m:List (List aQ × Addr × Value)},KT H l m->∀x∈m,(tupleKind (cA P w)).is h x.1 x.2.1:=by
  intro l m q
  induction q with
  | nil=>intro x hx;exact nomatch hx
  | @cons p q ps qs hq t ih =>
   intro x hx;rcases TF.mp hx with e|hx
   ·subst e;exact mZ ok (by rw[<- hq.1];exact hq.2.1)
   ·exact ih x hx
 exact all r x hx
def Pa{b:List (List aQ × V)}(ok:bK P w H h)(e:H a=some (.dT b)):b.length<=sizeLine/\(a == sysModules)=false /\
 ∃xs,KT H b xs/\h.DictOfH (tupleKind (cA P w)) a xs:=nQ ok (.inl e)
end
def fz(H:Hp)(a:Addr)(y:V)(r:Option V):Prop :=
 (∃kvs k,Rd H a (.dK kvs)/\y=kV k/\r=bF kvs k)\/∃kvs k b,Rd H a (.dT kvs)/\y=.ref b/\H b=some (.tup (k.map kV))/\r=bF kvs k
def hW(H:Hp)(a:Addr)(y v:V)(c:Hp):Prop :=
 (∃kvs k,H a=some (.dK kvs)/\y=kV k/\kvs.length<sizeLine/\c=upd H a (.dK (cF kvs k v))) \/
 ∃kvs k b,H a=some (.dT kvs)/\y=.ref b/\H b=some (.tup (k.map kV))/\kvs.length<sizeLine/\c=upd H a (.dT (cF kvs k v))
def fz.k{H:Hp}{a:Addr}{b:List (aQ × V)}{k:aQ}(e:H a=some (.dK b)):fz H a (kV k) (bF b k):=.inl ⟨b,k,.inl e,rfl,rfl⟩
def fz.t{H:Hp}{a b:Addr}{c:List (List aQ × V)}{k:List aQ}(e:H a=some (.dT c))(d:H b=some (.tup (k.map kV))):fz H a (.ref b) (bF c k):=.inr ⟨c,k,b,.inl e,rfl,d,rfl⟩
def hW.k{H:Hp}{a:Addr}{b:List (aQ × V)}{k:aQ}{v:V}(e:H a=some (.dK b))(c:b.length<sizeLine):hW H a (kV k) v (upd H a (.dK (cF b k v))):=.inl ⟨b,k,e,rfl,c,rfl⟩
def hW.t{H:Hp}{a b:Addr}{c:List (List aQ × V)}{k:List aQ}{v:V}(e:H a=some (.dT c))(f:H b=some (.tup (k.map kV)))(d:c.length<sizeLine) :
 hW H a (.ref b) v (upd H a (.dT (cF c k v))):=.inr ⟨c,k,b,e,rfl,f,d,rfl⟩
section
variable {X:Cx}{pins:List (Addr × Obj)}{σ:St}{H:Hp}{s:fy}{a:Addr}{y v:V}{u r:Value}{o:Option V}{A:Around}{E:Value->fy->Prop}
def af.big(I:af X pins σ H s):sysModules<s.heap.objs.size:=by
 have h:mainGlobals<s.heap.objs.size:=(I.mod.glob.keeps I.bk).lt;exact Nat.lt_trans (by decide) h
def Pn{Q:Value->fy->Prop}(i:A.units+1<cLine)(I:af X pins σ H s)(g:fz H a y o)(f:aO y u)(h:∀s',af X pins σ H s'->Q (.bool o.isSome) s') :
 wpAny (model X.prog X.w) A (compareOp .In u (.ref a)) Q E s:=by
 rcases g with ⟨kvs,k,e,ey,l⟩|⟨kvs,k,b,e,ey,eb,l⟩
 ·subst ey;obtain⟨z,hd,vs,c,d⟩:=nR I.hok e;refine wpAny_in_of (iM f) hd d.mapOf ?_;rw[<- (c.val k).isSome_eq,<- l];exact h _ (I.tok _)
 ·subst ey;cases (show u=Value.ref b from f);obtain⟨z,hd,xs,c,d⟩:=nQ I.hok e;refine wpAny_in_heap (tupleKind_room_in1 i) (mZ I.hok eb) hd d ?_;have q:=(c.val k).isSome_eq;rw[Vh]at q;rw[<- q,<- l];exact h _ (I.tok _)
def Pl{Q:Value->fy->Prop}(i:A.units+1<cLine)(I:af X pins σ H s)(g:fz H a y o)(f:aO y u)(h:∀s',af X pins σ H s'->Q (.bool (!o.isSome)) s') :
 wpAny (model X.prog X.w) A (compareOp .NotIn u (.ref a)) Q E s:=by
 rcases g with ⟨kvs,k,e,ey,l⟩|⟨kvs,k,b,e,ey,eb,l⟩
 ·subst ey;obtain⟨z,hd,vs,c,d⟩:=nR I.hok e;refine wpAny_notIn_of (iM f) hd d.mapOf ?_;rw[<- (c.val k).isSome_eq,<- l];exact h _ (I.tok _)
 ·subst ey;cases (show u=Value.ref b from f);obtain⟨z,hd,xs,c,d⟩:=nQ I.hok e;refine wpAny_notIn_heap (tupleKind_room_in1 i) (mZ I.hok eb) hd d ?_;have q:=(c.val k).isSome_eq;rw[Vh]at q;rw[<- q,<- l];exact h _ (I.tok _)
def CT{h':Heap}{t':Nat}{c:HO}(I:af X pins σ H s)(d:ol (H a))(hs:Heap.SameBut a s.heap h')(f:∃q,h'.get? a=some q)(new:bI X.prog X.w (upd H a c) h' a c) :
 af X pins σ (upd H a c) { s with heap:=h',toks:=t' } :=
 I.write (x:=a) (e:=a) d (.inl rfl) (λb q hb z=>(hs.2 b hb).trans z) f new
def Ph{P:Program}{w:World}{d:Hp}{h':Heap}{b:List (aQ × V)}{vs:List (aQ × Value)}(z:b.length<=sizeLine)(hd:(a == sysModules)=false)(c:KV b vs)(e:h'.DictOf (cA P w) a vs) :
 bI P w d h' a (.dK b):=⟨z,hd,vs,c,e⟩
def Pk{o:Hp}{Q:Unit->fy->Prop}(D:A.units+1<cLine)(I:af X pins σ H s)(g:hW H a y v o)(n:aO y u)(p:aO v r)(h:∀s',af X pins σ o s'->Q () s') :
 wpAny (model X.prog X.w) A (setItem (.ref a) u r) Q E s:=by
 rcases g with ⟨kvs,k,e,ey,l,eH⟩|⟨kvs,k,b,e,ey,eb,l,eH⟩
 ·subst ey eH;obtain⟨z,hd,vs,d,j⟩:=Pg I.hok e;have hz:vs.length<=sizeLine:=by rw[<- d.length];exact z
  have m:(cF kvs k v).length<=sizeLine:=by have:=mW kvs k v;omega
  refine wpAny_setItem_pairs (hsz:=hz) (iM n) j λh' f hs=>h _ ?_;have F:∃q,h'.get? a=some q:=let ⟨q,_,_,i,_⟩:=f;⟨q,i⟩
  exact CT I (by rw[e];exact True.intro) hs F (Ph m hd (d.put k p) f)
 ·subst ey eH;cases (show u=Value.ref b from n);obtain⟨z,hd,xs,d,j⟩:=Pa I.hok e;have hz:xs.length<=sizeLine:=by rw[<- Paired.length d];exact z
  have m:(cF kvs k v).length<=sizeLine:=by have:=mW kvs k v;omega
  refine wpAny_setItem_heap (hsz:=hz) (tupleKind_room_in1 D) (mZ I.hok eb) j λh' f hs=>h _ ?_;obtain⟨q,es,J,i,G,L,B,_,C⟩:=f;refine CT I (by rw[e];exact True.intro) hs ⟨q,i⟩ ⟨m,hd,_,(d.put k eb p).keeps λc M x=>?_,q,es,J,i,G,L,B,C⟩;rw[au (KI x e (λz=>nomatch z))];exact x
end
def Dw(i:Expr):Prop:=∀ov iv,subscripted i false ov iv=operate [ov,iv] (getItem ov iv)
def FM{prog:Program}{w:World}{A:Around}{E:Value->fy->Prop}{s:fy}{env:Env}{value a:Expr}{pos:Pos}{T id:String}{Q:Value->fy->Prop}
 (k:typeLookup (.type T) "__getitem__" = pure (some (.builtin id))) (hs:Dw a)
 (h:wpAny (model prog w) A (eval value env) (λo f=>wpAny (model prog w) A (eval a env) (λi c=>c.TypeIs o T/\wpAny (model prog w) A (getItem o i) Q E c) E f) E s) :
 wpAny (model prog w) A (eval (.Subscript value a pos) env) Q E s:=by
 refine Subscript_ (wpAny_mono h (λo f g=>wpAny_mono g (λi c d=>?_) λ_ _ x=>x) λ_ _ x=>x);obtain⟨hT,d⟩:=d;unfold subscriptTail;refine kb ?_;rw[getitemInPython_of_ne hT.not_modules];refine kb (wpAny_specialOf hT k ?_);have b:wpAny (model prog w) A (subscripted a false o i) (λr e=>wpAny (model prog w) A (letTemporaryGo value o r >>= λ_=>pure r) Q E e) E c:=by
  rw[hs o i];exact wpAny_operating (wpAny_mono d (λr e j=>kb (wpAny_letTemporaryGo (on j))) λ_ _ x=>x)
 first
  | exact on (kb b)
  | exact kb (on (kb b))
  | exact kb b
def Ak(d ty c:TE):TS:=λD σ H=>c σ H λv f=>d σ f λx e=>ty σ e λy b=>∃a H4,x=.ref a/\hW b a y v H4/\D.nx σ H4
section
variable {X:Cx}{o i e value:Expr}{pos pos' tpos:Pos}{td ty tv:TE}
def Jl(B:X.A.units+1<cLine)(ho:PE X o td)(k:PE X i ty)(n:PE X value tv)(hs:swapsWith value (some (.Subscript o i pos')) pos.line X.env=pure false) :
 PS X (.Assign [.Subscript o i pos'] value pos) (Ak td ty tv):=by
 intro b s σ H D I h;refine wpAny_Assign_Subscript (az (n b s σ H _ I h) λr s1 ⟨v,j,f,c,F⟩=>az (ho b s1 σ j _ f F) λu C ⟨x,J,d,e,G⟩=>az (k b C σ J _ d G) λM O ⟨y,L,p,q,a,m,ex,g,z⟩=>?_) hs;subst ex;obtain rfl:u=Value.ref a:=e;exact Pk B p g q c λN l=>⟨σ,m,l,z⟩
end
def Pj{P:Program}{w:World}{H:Hp}(h:Heap)(hb:sysModules<h.objs.size):bI P w H (h.push { cls:=.type "dict",data:=.dict #[] }) h.objs.size (.dK []) :=
 ⟨TJ _,beq_eq_false_iff_ne.mpr (Ne.symm (Tx hb)),[],.nil,Heap.DictOf.new h⟩
def Pb{P:Program}{w:World}{H:Hp}(h:Heap)(hb:sysModules<h.objs.size):bI P w H (h.push { cls:=.type "dict",data:=.dict #[] }) h.objs.size (.dT []) :=
 ⟨TJ _,beq_eq_false_iff_ne.mpr (Ne.symm (Tx hb)),[],.nil,_,#[],0,T6 _ rfl,⟨rfl,rfl,rfl⟩,rfl,rfl,List.nodup_nil⟩
def FJ:TE:=λ_ H Q=>∀p,H p=none->Q (.ref p) (upd H p (.dK []))
def FI:TE:=λ_ H Q=>∀p,H p=none->Q (.ref p) (upd H p (.dT []))
section
variable {X:Cx}{pos:Pos}
def JU:PE X (.Dict [] [] pos) FJ:=λb s σ H Q I h =>
 wpAny_Dict_empty ⟨.ref s.heap.objs.size,_,I.laid (a:=s.heap.objs.size) (o:=.dK []) (t':=s.toks) (λ_ _ q=>Tu _ q) (Tp _) (Pj s.heap I.big),rfl,h _ (I.hok.fresh (Tp _))⟩
def JT:PE X (.Dict [] [] pos) FI:=λb s σ H Q I h =>
 wpAny_Dict_empty ⟨.ref s.heap.objs.size,_,I.laid (a:=s.heap.objs.size) (o:=.dT []) (t':=s.toks) (λ_ _ q=>Tu _ q) (Tp _) (Pb s.heap I.big),rfl,h _ (I.hok.fresh (Tp _))⟩
end
structure M1 (X:Cx) (o:Expr) (m:Str) (apos:Pos) (e:Expr) (cpos:Pos):Prop where
 base:attributeBase o m X.env (eval o X.env)=eval o X.env
 few:((backTo cpos (starEach [e] X.env)).all (λx=>!x.1) && (backToKw cpos (keywordEach [] X.env)).all (λx=>x.1.isSome)
  && decide (([e]:List Expr).length+([]:List Keyword).length+(if ([]:List Keyword).isEmpty then 0 else 1)<30))=true
 line:(apos.endLine == cpos.line)=true
 trees:backTo cpos (starEach [e] X.env)=[(false,eval e X.env)]
structure M2 (X:Cx) (o:Expr) (m:Str) (apos:Pos) (e f:Expr) (cpos:Pos):Prop where
 base:attributeBase o m X.env (eval o X.env)=eval o X.env
 few:((backTo cpos (starEach [e,f] X.env)).all (λx=>!x.1) && (backToKw cpos (keywordEach [] X.env)).all (λx=>x.1.isSome)
  && decide (([e,f]:List Expr).length+([]:List Keyword).length+(if ([]:List Keyword).isEmpty then 0 else 1)<30))=true
 line:(apos.endLine == cpos.line)=true
 trees:backTo cpos (starEach [e,f] X.env)=[(false,eval e X.env),(false,eval f X.env)]
def Dx(H:Hp)(a:Addr):Prop:=(∃kvs,Rd H a (.dK kvs))\/∃kvs,Rd H a (.dT kvs)
def Mi{X:Cx}{g:List (Addr × Obj)}{σ:St}{H:Hp}{s:fy}{a:Addr}(I:af X g σ H s)(d:Dx H a) :
 s.TypeIs (.ref a) "dict"/\(∀b,Value.ref a=.ref b->∃c,s.heap.get? b=some c/\c.dict=none)/\(a == sysModules)=false:=by
 rcases d with ⟨kvs,e⟩|⟨kvs,e⟩
 ·obtain⟨_,hd,vs,_,f⟩:=nR I.hok e;refine⟨f.typeIs,λb q=>?_,hd⟩;cases q;obtain⟨c,_,_,i,h,_⟩:=f;exact⟨c,i,h.2.1⟩
 ·obtain⟨_,hd,xs,_,f⟩:=nQ I.hok e;refine⟨f.typeIs,λb q=>?_,hd⟩;cases q;obtain⟨c,_,_,i,h,_⟩:=f;exact⟨c,i,h.2.1⟩
section
variable {X:Cx}{pins:List (Addr × Obj)}{σ:St}{H:Hp}{s:fy}{a:Addr}{y d:V}{u r:Value}{o:Option V}{A:Around}{E:Value->fy->Prop}
def Pp{Q:Value->fy->Prop}(i:A.units+1<cLine)(I:af X pins σ H s)(g:fz H a y o)(f:aO y u)(h:∀w' s',af X pins σ H s'->aO (o.getD .non) w'->Q w' s') :
 wpAny (model X.prog X.w) A (call (.builtin "dict.get") [.ref a,u]) Q E s:=by
 rcases g with ⟨kvs,k,e,ey,l⟩|⟨kvs,k,b,e,ey,eb,l⟩
 ·subst ey;obtain⟨z,hd,vs,c,d⟩:=nR I.hok e;refine call_meetsIn UX d.typeIs VE (V3 _ _) (meets_dict_get (cA X.prog X.w) a (iM f) hd) ⟨_,d.mapOf,h _ _ (I.tok _) ?_⟩;rw[l];exact (c.val k).getD Z
 ·subst ey;cases (show u=Value.ref b from f);obtain⟨z,hd,xs,c,d⟩:=nQ I.hok e;refine call_meetsIn UX d.typeIs VE (V3 _ _) (meetsH_dict_get (tupleKind (cA X.prog X.w)) a b hd) ⟨tupleKind_room_in1 i,k,xs,mZ I.hok eb,d,h _ _ (I.tok _) ?_⟩;rw[l];exact (c.val k).getD Z
end
def zt(d ty:TE):TE:=λσ H Q=>d σ H λx c=>∃a,x=.ref a/\Dx c a/\ty σ c λy b=>∃o,fz b a y o/\Q (o.getD .non) b
section
variable {X:Cx}{o e f:Expr}{apos cpos:Pos}{td ty tx:TE}
def JV (v:X.A.units+1<cLine) (ho:PE X o td) (k:PE X e ty) (m:M1 X o "get" apos e cpos):PE X (.Call (.Attribute o "get" apos) [e] [] cpos) (zt td ty):=by
 intro b s σ H Q I h;refine wpAny_Call_method m.base m.few m.line V4 UX V5 (az (ho b s σ H _ I h) λu s1 ⟨x,l,f,j,a,ex,d,z⟩=>?_);subst ex;obtain rfl:u=Value.ref a:=j;obtain⟨n,p,_⟩:=Mi f d;refine⟨n,p,?_⟩;rw[m.trees];refine Calls.callWith_builtin Z (Calls.evalArgs_plain (Calls.spliced_cons (az (k b s1 σ l _ f z) λF J ⟨y,C,i,r,D,g,B⟩=>Calls.spliced_nil ?_)));exact Pp v i g r λG L q c=>⟨_,C,q,c,B⟩
end
end L2
namespace HT
open PySem PyProof.Rows
section
variable {prog:Program}{w:World}{A:Around}{E:Value->fy->Prop}{s:fy}
def sIx(n d:Nat):Option Int->Nat
 | none=>d
 | some v=>if v<0 then (v+(n:Int)).toNat else min v.toNat n
def HS(n d:Nat)(hd:d<=n)(o:Option Int):sIx n d o<=n:=by
 cases o with
 | none=>exact hd
 | some v =>
  show (if v<0 then (v+(n:Int)).toNat else min v.toNat n)<=n;by_cases hv:v<0
  ·rw[Ww hv];omega
  ·rw[Wv hv];exact Nat.min_le_right _ _
def C2(v:Int)(n d:Nat):(if v<0 then max (v+(n:Int)) 0 else min v (n:Int))=((sIx n d (some v):Nat):Int):=by
 show (if v<0 then max (v+(n:Int)) 0 else min v (n:Int))=(((if v<0 then (v+(n:Int)).toNat else min v.toNat n):Nat):Int);by_cases hv:v<0
 ·simp only [Ww hv];omega
 ·simp only [Wv hv];omega
def RT(lo a:Option Int)(n:Nat):Builtin.Slice.sliceAdjust lo a 1 (n:Int)=(((sIx n 0 lo:Nat):Int),((sIx n n a:Nat):Int)):=by
 have b:¬((1:Int)<0):=by omega
 unfold Builtin.Slice.sliceAdjust;simp only [b,if_false];refine Prod.ext ?_ ?_
 ·cases lo with
  | none=>rfl
  | some v=>exact C2 v n 0
 ·cases a with
  | none=>rfl
  | some v=>exact C2 v n n
def Jv(i j:Nat):Builtin.Slice.slicePlaces (i:Int) (j:Int) 1=j-i:=by
 unfold Builtin.Slice.slicePlaces;have a:(1:Int) > 0:=by omega
 simp only [a,if_true,Int.ediv_one]
 split<;>omega
def zM{v:Value}{o:Option Int}{Q:Option Int->fy->Prop}(p:IsPart v o)(h:Q o s):wpAny (model prog w) A (Builtin.Slice.slicePartIndex v) Q E s:=by
 cases p with
 | none=>exact slicePart_none h
 | int i t=>exact slicePart_int h
def zN{f:Addr}{d e:Value}{lo b:Option Int}{n:Nat}{Q:Int × Int × Nat->fy->Prop}(hs:s.heap.IsSliceOf f d e .none)(pl:IsPart d lo)(i:IsPart e b)
 (h:Q (((sIx n 0 lo:Nat):Int),1,sIx n n b-sIx n 0 lo) s):wpAny (model prog w) A (Builtin.Slice.sliceApplied (.ref f) (pure (n:Int))) Q E s:=by
 obtain⟨os,c,g,a⟩:=id hs;unfold Builtin.Slice.sliceApplied Builtin.Slice.sliceFields;refine kb (kb (wpAny_field c a (x:=d) Z (kb (wpAny_field c a (x:=e) Z (kb (wpAny_field c a (x:=.none) Z (on ?_)))))));refine kb (slicePart_none ?_);show wpAny _ _ (if ((1:Int) == 0)=true then _ else _) _ _ s;rw[Wv (by decide)];refine kb (zM pl (kb (zM i (kb (on ?_)))));show wpAny _ _ (match Builtin.Slice.sliceAdjust lo b 1 (n:Int) with|(lo,b)=>pure (lo,(1:Int),Builtin.Slice.slicePlaces lo b 1)) _ _ s;rw[RT lo b n];show wpAny _ _ (pure (((sIx n 0 lo:Nat):Int),(1:Int),Builtin.Slice.slicePlaces ((sIx n 0 lo:Nat):Int) ((sIx n n b:Nat):Int) 1)) _ _ s;rw[Jv];exact on h
def Jw(xs:Array Value)(i k:Nat):((List.range k).filterMap λ(m:Nat)=>xs[((i:Int)+(m:Int)*1).toNat]?).toArray=((xs.toList.drop i).take k).toArray:=by
 have e:(λ(m:Nat)=>xs[((i:Int)+(m:Int)*1).toNat]?)=λm=>xs[i+m]?:=by
  funext m
  have:((i:Int)+(m:Int)*1).toNat=i+m:=by omega
  rw[this]
 rw[e];have:=pick_run xs i k;rw[List.filterMap_map]at this;have a:((λx=>xs[x]?) ∘ λx=>i+x)=λm=>xs[i+m]?:=rfl;rw[a]at this;rw[this]
def getItem_tuple_cut{t g:Addr}{items:Array Value}{i j:Value}{lo b:Option Int}{Q:Value->fy->Prop}(c:IsTup s.heap t items)(hs:s.heap.IsSliceOf g i j .none)(pl:IsPart i lo)(l:IsPart j b)
 (hw:¬(sIx items.size 0 lo=0/\sIx items.size items.size b=items.size))
 (h:Q (.ref s.heap.objs.size) { s with heap:=s.heap.push { cls:=.type "tuple",data:=.seq ((items.toList.drop (sIx items.size 0 lo)).take (sIx items.size items.size b-sIx items.size 0 lo)).toArray } })
 (hsz:items.size<=sizeLine):wpAny (model prog w) A (getItem (.ref t) (.ref g)) Q E s:=by
 have a:sizeOk (.seq ((items.toList.drop (sIx items.size 0 lo)).take (sIx items.size items.size b-sIx items.size 0 lo)).toArray):=by
  show ((items.toList.drop (sIx items.size 0 lo)).take (sIx items.size items.size b-sIx items.size 0 lo)).toArray.size<=sizeLine;rw[TB,TyZ,Uv,T2];omega
 have n:sIx items.size items.size b<=items.size:=HS _ _ (Tp _) b;obtain⟨os,f,d,k⟩:=id hs;have hTs:s.TypeIs (.ref g) "slice":=⟨os,f,d⟩;unfold getItem
 try with_reducible refine wpAny_holding ?_
 first|refine kb (on ?_)|skip
 refine kb (wpAny_sequenceKey c.typeIs (by decide) ?_);refine kb (wpAny_callSpecial?_slot (name:=Str.ofString "__getitem__") c.typeIs UK
  (wpAny_call_entry UK c.typeIs entry_tuple_getitem ?_ (args_tuple_getitem _ _)))
 show wpAny _ _ (Builtin.Tuple.tupleItemsOf (.ref t) >>= _) _ _ s;refine kb (tupleItemsOf_ c ?_);refine kb (wpAny_typeOf hTs ?_);rw[Ww (by decide)];refine kb (zN hs pl l ?_);have e:¬((((sIx items.size 0 lo:Nat):Int) == 0 && (1:Int) == 1 && (sIx items.size items.size b-sIx items.size 0 lo) == items.size)=true):=by
  intro q;rw[T7,T7]at q;have o:((sIx items.size 0 lo:Nat):Int)=0:=eq_of_beq q.1.1;have p:sIx items.size items.size b-sIx items.size 0 lo=items.size:=eq_of_beq q.2;exact hw ⟨by omega,by omega⟩
 show wpAny _ _ (if (((sIx items.size 0 lo:Nat):Int) == 0 && (1:Int) == 1 && (sIx items.size items.size b-sIx items.size 0 lo) == items.size)=true then _ else _) _ _ s;rw[Wv e,Jw]
 first
  | exact kb (m:=Builtin.Tuple.tupleExact _) (wpAny_newObj_type (on ⟨_,rfl,on h⟩) a)
  | exact kb (m:=Builtin.Tuple.tupleExact _) (wpAny_newObj_type (kb (on (on ⟨_,rfl,on h⟩))) a)
  | exact kb (kb (m:=Builtin.Tuple.tupleExact _) (wpAny_newObj_type (on (on ⟨_,rfl,on h⟩)) a))
  | exact kb (kb (m:=Builtin.Tuple.tupleExact _) (wpAny_newObj_type (on ⟨_,rfl,on h⟩) a))
end
end HT
namespace L2
open PySem PySem.Spec PyProof.Rows
abbrev TO:=St->Hp->(Option Int->Hp->Prop)->Prop
def PO(X:Cx)(e:Option Expr)(t:TO):Prop :=
 ∀(a:List (Addr × Obj)) (s:fy) (σ:St) (H:Hp) (Q:Option Int->Hp->Prop),af X a σ H s->t σ H Q ->
  wpAny (model X.prog X.w) X.A (evalPart e X.env) (λu b=>∃o H',af X a σ H' b/\IsPart u o/\Q o H') X.xe s
def zg:TO:=λ_ H Q=>Q none H
def zc(t:TE):TO:=λσ H Q=>t σ H λx a=>∃i,x=.int i/\Q (some i) a
section
variable {X:Cx}{e:Expr}{te:TE}{lo hi:Option Expr}{tl th:TO}{pos p2:Pos}
def Ju:PO X none zg:=by
 intro a s σ H Q I h;rw[evalPart_none];exact on ⟨none,H,I,.none,h⟩
def Jt(h:PE X e te):PO X (some e) (zc te):=by
 intro a s σ H Q I hw;rw[evalPart_some];refine az (h a s σ H _ I hw) λu s1 ⟨x,f,c,b,d⟩=>?_;obtain⟨i,rfl,q⟩:=d;obtain⟨t,rfl⟩:=b;exact⟨some i,f,c,.int i t,q⟩
def iW(X:Cx)(r:V->Option Int->Option Int->Hp->VK->Prop):Prop :=
 ∀(a:List (Addr × Obj)) (s:fy) (σ:St) (H:Hp) (x:V) (v b c:Value) (lo d:Option Int) (e:Addr) (Q:VK),af X a σ H s->aO x v->s.heap.IsSliceOf e b c .none->IsPart b lo->IsPart c d->r x lo d H Q ->
  ∃T id,typeLookup (.type T) "__getitem__" = pure (some (.builtin id))/\s.TypeIs v T/\wpAny (model X.prog X.w) X.A (getItem v (.ref e)) (EP X a σ Q) X.xe s
def y9(r:V->Option Int->Option Int->Hp->VK->Prop)(b:TE)(c f:TO):TE:=λσ H Q=>b σ H λx e=>c σ e λl d=>f σ d λu a=>r x l u a Q
def JK{r:V->Option Int->Option Int->Hp->VK->Prop}(D:iW X r)(n:PE X e te)(j:PO X lo tl)(F:PO X hi th):PE X (.Subscript e (.Slice lo hi none p2) pos) (y9 r te tl th):=by
 intro a s σ H Q I h;refine Subscript_ (az (n a s σ H _ I h) λv s1 ⟨x,o,m,y,J⟩=>?_);refine wpAny_Slice (az (j a s1 σ o _ m J) λd G ⟨l,M,i,pl,L⟩=>az (F a G σ M _ i L) λf c ⟨u,g,B,N,C⟩=>?_);rw[evalPart_none];refine on ?_;have p:af X a σ g { c with heap:=c.heap.push { cls:=.type "slice",data:=.fields #[d,f,.none] } }:=B.kept (t':=c.toks) λb O q=>Tu _ q;obtain⟨T,id,hT,z,k⟩:=D a { c with heap:=c.heap.push { cls:=.type "slice",data:=.fields #[d,f,.none] } } σ g x v d f l u c.heap.objs.size Q p y (Heap.IsSliceOf.new ..) pl N C;show wpAny (model X.prog X.w) X.A (subscriptTail e (.Slice lo hi none p2) v (.ref c.heap.objs.size)) (EP X a σ Q) X.xe { c with heap:=c.heap.push { cls:=.type "slice",data:=.fields #[d,f,.none] } };exact tail_any (ops:=[.ref c.heap.objs.size,v]) z hT k (by with_unfolding_all rfl)
def d7(xs:List V)(lo a:Option Int):List V:=(xs.drop (HT.sIx xs.length 0 lo)).take (HT.sIx xs.length xs.length a-HT.sIx xs.length 0 lo)
def CV(xs:List V)(lo a:Option Int):(d7 xs lo a).length<=xs.length:=by
 unfold d7;rw[TyZ,Uv];omega
def Ig(K:W.Frag):V->Option Int->Option Int->Hp->VK->Prop:=λx lo b H Q=>∃a xs,x=.ref a/\bv K H a xs /\
 ¬(HT.sIx xs.length 0 lo=0/\HT.sIx xs.length xs.length b=xs.length)/\∀p,H p=none->Q (.ref p) (upd H p (.tup (d7 xs lo b)))
def GU:iW X (Ig X.K):=by
 intro f s σ H x v k m lo e n Q I i hs pl j h;obtain⟨a,xs,rfl,hx,hw,q⟩:=h;cases i;obtain⟨d,r,g,hz⟩:=I.tuple hx;have c:d.toArray.size=xs.length:=by rw[TB];exact r.length.symm
 refine⟨"tuple",_,UK.lookup,g.typeIs,?_⟩;refine HT.getItem_tuple_cut g hs pl j (by rw[c];exact hw) ?_ (by rw[c];exact hz);rw[c];refine⟨.ref s.heap.objs.size,_,I.laid (t':=s.toks) (o:=.tup (d7 xs lo e)) (λb l q=>Tu _ q) (Tp _) ?_,Z,q _ (I.hok.fresh (Tp _))⟩;exact⟨TH (CV xs lo e) hz,_,(r.drop (HT.sIx xs.length 0 lo)).take (HT.sIx xs.length xs.length e-HT.sIx xs.length 0 lo),IsTup.new _ _⟩
end
def lV(n:Nat)(i:Int):Option Nat:=if 0<=i then (if i<n then some i.toNat else none) else if -(n:Int)<=i then some (i+n).toNat else none
def cY{α:Type}(xs:List α)(i:Int):Option α:=(lV xs.length i).bind λj=>xs[j]?
def Mg{n:Nat}{i:Int}{j:Nat}(h:lV n i=some j):seqIndex? i n=some j/\j<n/\-(n:Int)<=i/\i<n:=by
 unfold lV at h;by_cases h0:0<=i
 ·rw[Ww h0]at h;by_cases h1:i<n
  ·rw[Ww h1]at h;have e:i.toNat=j:=T9 h;exact⟨by rw[seqIndex_of h0 h1,e],by omega,by omega,h1⟩
  ·rw[Wv h1]at h;cases h
 ·rw[Wv h0]at h;by_cases h1 : -(n:Int)<=i
  ·rw[Ww h1]at h;have e:(i+n).toNat=j:=T9 h;exact⟨by rw[seqIndex_neg (by omega) h1,e],by omega,h1,by omega⟩
  ·rw[Wv h1]at h;cases h
def Di{α:Type}{xs:List α}{i:Int}{v:α}(h:cY xs i=some v):∃j,seqIndex? i xs.length=some j/\xs[j]? = some v/\j<xs.length/\-(xs.length:Int)<=i/\i<xs.length:=by
 unfold cY at h;cases e:lV xs.length i with
 | none=>rw[e]at h;cases h
 | some j =>
  rw[e]at h;obtain⟨b,a,d,c⟩:=Mg e;exact⟨j,b,h,a,d,c⟩
def aH{α:Type}{xs:List α}{j:Nat}{v:α}(h:xs[j]? = some v):cY xs (j:Int)=some v:=by
 have a:j<xs.length:=(Tz.mp h).1;have e:lV xs.length (j:Int)=some j:=by
  unfold lV;rw[Ww (by omega),Ww (by omega)];simp
 unfold cY;rw[e];exact h
def Du(b:Expr):Prop:=∀o i,subscripted b false o i=operate [o,i] (getItem o i)
def gh(X:Cx)(r:R2):Prop :=
 ∀(value a:Expr) (b:List (Addr × Obj)) (s:fy) (σ:St) (H:Hp) (x y:V) (v u:Value) (Q:VK),af X b σ H s->aO x v->aO y u->r x y H Q ->
  subscripted a false v u=operate [v,u] (getItem v u)->wpAny (model X.prog X.w) X.A (subscriptTail value a v u) (EP X b σ Q) X.xe s
def gf(X:Cx)(id:String)(r:V->List V->Hp->VK->Prop):Prop :=
 ∀(a:List (Addr × Obj)) (s:fy) (σ:St) (H:Hp) (x:V) (xs:List V) (v:Value) (us:List Value) (Q:VK),af X a σ H s->aO x v->aJ xs us->r x xs H Q ->
  wpAny (model X.prog X.w) X.A (call (.builtin id) (v::us)) (EP X a σ Q) X.xe s
section
variable {X:Cx}{a b:Expr}{ta tb:TE}{pos:Pos}
def gh.or{r d:R2}(h:gh X r)(h':gh X d):gh X (λx y H Q=>r x y H Q\/d x y H Q):=by
 intro value a b s σ H x y v u Q I e c q hs;rcases q with q|q
 ·exact h value a b s σ H x y v u Q I e c q hs
 ·exact h' value a b s σ H x y v u Q I e c q hs
def JQ{r:R2}(e:gh X r)(f:PE X a ta)(hb:PE X b tb)(hs:Du b):PE X (.Subscript a b pos) (hZ r ta tb):=by
 intro c s σ H Q I h;exact Subscript_ (wV f hb I h λv u g x y j i k d q=>e a b c g σ j x y v u Q i k d q (hs _ _))
def Im(K:W.Frag):R2:=λx y H Q=>∃p xs i v,x=.ref p/\y=.int i/\aE K H p xs/\cY xs i=some v/\Q v H
def Il(K:W.Frag):R2:=λx y H Q=>∃p xs i v,x=.ref p/\y=.int i/\bv K H p xs/\cY xs i=some v/\Q v H
def Mf:gh X (Im X.K):=by
 intro value g a s σ H x y v u Q I o F h hs;obtain⟨p,xs,i,z,rfl,rfl,C,B,q⟩:=h;cases o;obtain⟨t,rfl⟩:=F;obtain⟨d,r,pl,hz⟩:=I.list C;obtain⟨j,c,G,L,D,l⟩:=Di B;obtain⟨w,k,e⟩:=r.get G;have n:=r.length;have J:=pM;have b:EP X a σ Q w s:=⟨z,H,I,e,q⟩;by_cases h0:0<=i
 ·have f:i.toNat=j:=by
   rw[seqIndex_of h0 l]at c;exact T9 c
  exact item_listR pl.isList h0 (by omega) (by rw[f];simpa using k) b hs
 ·have f:(i+(d.toArray.size:Int)).toNat=j:=by
   rw[seqIndex_neg (by omega) D]at c;rw[TB,<- n];exact T9 c
  exact subscriptTail_builtinR (x:=w) pl.isList.typeIs slot_list_getitem.lookup
   (wpAny_getItem_list_neg (Q:=λr m=>r=w/\EP X a σ Q r m) pl.isList (by omega) (by rw[TB]<;>omega) (by omega) (by rw[f];simpa using k) ⟨rfl,b⟩) hs
def Me:gh X (Il X.K):=by
 intro value d a s σ H x y v u Q I C e h hs;obtain⟨p,xs,i,z,rfl,rfl,B,l,q⟩:=h;cases C;obtain⟨t,rfl⟩:=e;obtain⟨g,r,pl,hz⟩:=I.tuple B;obtain⟨j,n,m,G,D,F⟩:=Di l;obtain⟨w,f,b⟩:=r.get m;have k:=r.length;have J:=pM;have c:EP X a σ Q w s:=⟨z,H,I,b,q⟩;exact subscriptTail_builtinR (x:=w) pl.typeIs slot_tuple_getitem.lookup
  (getItem_tuple (j:=j) (Q:=λr o=>r=w/\EP X a σ Q r o) pl (by omega) (by omega) (by rw[TB,<- k];exact n) (by simpa using f) ⟨rfl,c⟩) hs
def GS(lo a:Option Int)(n:Nat):(sliceBounds lo a none n).1=((HT.sIx n 0 lo:Nat):Int)/\(sliceBounds lo a none n).2.1=((HT.sIx n n a:Nat):Int)/\(sliceBounds lo a none n).2.2=1:=by
 refine⟨?_,?_,Z⟩
 ·cases lo with
  | none=>simp[sliceBounds,HT.sIx]
  | some i =>
   simp only [sliceBounds,HT.sIx,VF,show (1:Int) > 0 by decide,if_true];by_cases h:i<0
   ·simp only [h,if_true]<;>omega
   ·simp only [h,if_false]<;>omega
 ·cases a with
  | none=>simp[sliceBounds,HT.sIx]
  | some i =>
   simp only [sliceBounds,HT.sIx,VF,show (1:Int) > 0 by decide,if_true];by_cases h:i<0
   ·simp only [h,if_true]<;>omega
   ·simp only [h,if_false]<;>omega
def GT(a:List Value)(lo b:Option Int):slicePick a.toArray lo b none=((a.drop (HT.sIx a.length 0 lo)).take (HT.sIx a.length a.length b-HT.sIx a.length 0 lo)).toArray:=by
 obtain⟨d,c,e⟩:=GS lo b a.toArray.size;unfold slicePick;rw[d,c,e];simp only [sliceRange_one,pick_run,TB]<;>rfl
def Ih(K:W.Frag):V->Option Int->Option Int->Hp->VK->Prop:=λx lo b H Q=>∃a xs,x=.ref a/\aE K H a xs/\∀p,H p=none->Q (.ref p) (upd H p (.lst (d7 xs lo b)))
def GV:iW X (Ih X.K):=by
 intro e s σ H x v k m lo d n Q I i hs pl j h;obtain⟨a,xs,rfl,hx,q⟩:=h;cases i;obtain⟨g,r,f,hz⟩:=I.list hx;have c:=r.length;refine⟨"list",_,slot_list_getitem.lookup,f.isList.typeIs,?_⟩;refine wpAny_getItem_list_slice f.isList hs pl j .none (by simp) ?_ (by rw[TB]<;>omega);rw[GT,<- c];refine⟨.ref s.heap.objs.size,_,I.laid (t':=s.toks) (o:=.lst (d7 xs lo d)) (λb l q=>Tu _ q) (Tp _) ?_,Z,q _ (I.hok.fresh (Tp _))⟩;exact⟨TH (CV xs lo d) hz,_,0,(r.drop (HT.sIx xs.length 0 lo)).take (HT.sIx xs.length xs.length d-HT.sIx xs.length 0 lo),T6 _ Z⟩
def fL:V->Bool
 | .non=>true
 | .bl _=>true
 | .int _=>true
 | .str _=>true
 | _=>false
def di:V->V->Bool
 | .non,.non=>true
 | .bl a,.bl b=>a == b
 | .bl a,.int b=>(if a then 1 else 0) == b
 | .int a,.bl b=>a == (if b then 1 else 0)
 | .int a,.int b=>a == b
 | .str a,.str b=>a == b
 | _,_=>false
def O7{A:Around}{s:fy}{y x:V}{u v:Value}(d:aO y u)(c:aO x v)(e:fL y=true)(fx:fL x=true):SeqAt.EqAt A s u v (di y x):=by
 cases y with
 | non =>
  cases d;cases x with
  | non=>cases c;exact SeqAt.EqAt.same _
  | bl b=>cases c;exact SeqAt.EqAt.none_bool b
  | int b=>obtain⟨t,rfl⟩:=c;exact SeqAt.EqAt.none_int b t
  | str b=>obtain⟨t,rfl⟩:=c;exact SeqAt.EqAt.none_str b t
  | _=>exact Wx (show false=true from fx) TC
 | bl a =>
  cases d;cases x with
  | non=>cases c;exact SeqAt.EqAt.bool_none a
  | bl b=>cases c;exact SeqAt.EqAt.bool_bool a b
  | int b=>obtain⟨t,rfl⟩:=c;exact SeqAt.EqAt.bool_int a b t
  | str b=>obtain⟨t,rfl⟩:=c;exact SeqAt.EqAt.bool_str a b t
  | _=>exact Wx (show false=true from fx) TC
 | int a =>
  obtain⟨t',rfl⟩:=d;cases x with
  | non=>cases c;exact SeqAt.EqAt.int_none a t'
  | bl b=>cases c;exact SeqAt.EqAt.int_bool a t' b
  | int b=>obtain⟨t,rfl⟩:=c;exact SeqAt.EqAt.int_int a t' b t
  | str b=>obtain⟨t,rfl⟩:=c;exact SeqAt.EqAt.int_str a t' b t
  | _=>exact Wx (show false=true from fx) TC
 | str a =>
  obtain⟨t',rfl⟩:=d;cases x with
  | non=>cases c;exact SeqAt.EqAt.str_none a t'
  | bl b=>cases c;exact SeqAt.EqAt.str_bool a t' b
  | int b=>obtain⟨t,rfl⟩:=c;exact SeqAt.EqAt.str_int a t' b t
  | str b=>obtain⟨t,rfl⟩:=c;exact SeqAt.EqAt.str_str a t' b t
  | _=>exact Wx (show false=true from fx) TC
 | _=>exact Wx (show false=true from e) TC
def dZ(x:V)(u:Value):Bool:=match u with
 | .none=>di .non x
 | .bool b=>di (.bl b) x
 | .int i _=>di (.int i) x
 | .str z _=>di (.str z) x
 | _=>false
def vG{x y:V}{u:Value}(r:aO y u)(f:fL y=true):dZ x u=di y x:=by
 cases y with
 | non=>cases r;rfl
 | bl b=>cases r;rfl
 | int i=>obtain⟨t,rfl⟩:=r;rfl
 | str z=>obtain⟨t,rfl⟩:=r;rfl
 | _=>exact Wx (show false=true from f) TC
theorem nX{x:V}:∀ {xs:List V} {us:List Value},aJ xs us->xs.all fL=true->us.any (dZ x)=xs.any λy=>di y x
 | _,_,.nil,_=>rfl
 | y::xs,u::us,.cons r t,f=>by
  rw[List.all_cons,T7]at f;rw[UI,UI,vG r f.1,nX t f.2]
theorem lQ{A:Around}{s:fy}{x:V}{v:Value}(b:aO x v)(fx:fL x=true):∀ {xs:List V} {us:List Value},aJ xs us->xs.all fL=true->∀u∈us,SeqAt.EqAt A s u v (dZ x u)
 | _,_,.nil,_=>λu a=>by cases a
 | y::xs,u::us,.cons r t,f=>λc a=>by
  rw[List.all_cons,T7]at f;rcases TF.mp a with rfl|a
  ·rw[vG r f.1];exact O7 r b f.1 fx
  ·exact lQ b fx t f.2 c a
def bB(x:V)(xs:List V):Bool:=xs.any λy=>di y x
def Au(K:W.Frag)(neg:Bool):R2:=λx y H Q=>∃p xs,y=.ref p/\(aE K H p xs\/bv K H p xs)/\fL x=true/\xs.all fL=true/\Q (.bl (if neg then !bB x xs else bB x xs)) H
def Kg:be X (compareOp .In) (Au X.K false):=by
 intro c s σ H x y v u Q I d e h;obtain⟨p,xs,rfl,b,fx,fs,q⟩:=h;cases e;rcases b with b|b
 ·obtain⟨a,r,pl,hz⟩:=I.list b;refine SeqAt.in_listAt (dZ x) pl.isList (λw hw=>lQ d fx r fs w (by simpa using hw)) ⟨.bl _,H,I,rfl,?_⟩;rw[show a.toArray.any (dZ x)=a.any (dZ x) by simp,nX r fs];exact q
 ·obtain⟨a,r,pl,hz⟩:=I.tuple b;refine SeqAt.in_tupleAt (dZ x) pl (λw hw=>lQ d fx r fs w (by simpa using hw)) ⟨.bl _,H,I,rfl,?_⟩;rw[show a.toArray.any (dZ x)=a.any (dZ x) by simp,nX r fs];exact q
def Kb:be X (compareOp .NotIn) (Au X.K true):=by
 intro c s σ H x y v u Q I d e h;obtain⟨p,xs,rfl,b,fx,fs,q⟩:=h;cases e;rcases b with b|b
 ·obtain⟨a,r,pl,hz⟩:=I.list b;refine SeqAt.notIn_listAt (dZ x) pl.isList (λw hw=>lQ d fx r fs w (by simpa using hw)) ⟨.bl _,H,I,rfl,?_⟩;rw[show a.toArray.any (dZ x)=a.any (dZ x) by simp,nX r fs];exact q
 ·obtain⟨a,r,pl,hz⟩:=I.tuple b;refine SeqAt.notIn_tupleAt (dZ x) pl (λw hw=>lQ d fx r fs w (by simpa using hw)) ⟨.bl _,H,I,rfl,?_⟩;rw[show a.toArray.any (dZ x)=a.any (dZ x) by simp,nX r fs];exact q
def PL:cy X (.builtin "len") (λxs H Q=>∃p b,xs=[.ref p]/\(aE X.K H p b\/bv X.K H p b)/\Q (.int b.length) H):=by
 intro f s σ H xs us Q I r h;obtain⟨p,b,rfl,c,q⟩:=h;obtain⟨u,rfl,g⟩:=hX r;cases g;have i:=pM;rcases c with c|c
 ·obtain⟨e,d,pl,hz⟩:=I.list c;have a:=d.length;exact Calls.call_len_list pl.isList (by simp only [TB]<;>omega) ⟨.int b.length,H,I.tok _,⟨s.toks+1,by rw[TB,a]⟩,q⟩
 ·obtain⟨e,d,pl,hz⟩:=I.tuple c;have a:=d.length;exact len_tuple pl (by simp only [TB]<;>omega) ⟨.int b.length,H,I.tok _,⟨s.toks+1,by rw[TB,a]⟩,q⟩
def PK:cy X (.type "list") (λxs H Q=>∃p d,xs=[.ref p]/\(aE X.K H p d\/bv X.K H p d)/\∀l,H l=none->Q (.ref l) (upd H l (.lst d))):=by
 intro i s σ H xs us Q I r h;obtain⟨p,d,rfl,j,q⟩:=h;obtain⟨u,rfl,m⟩:=hX r;cases m;have g:∀(a:List Value),aJ d a->d.length<=sizeLine->∀(h':Heap) (c':Nat),(∀b o',s.heap.get? b=some o'->h'.get? b=some o') ->
  h'.get? s.heap.objs.size=some { cls:=.type "list",dict:=none,data:=.seq a.toArray c',slots:=#[] }->EP X i σ Q (.ref s.heap.objs.size) { s with heap:=h' }:=λa c hz h' c' kp e =>
  ⟨.ref s.heap.objs.size,_,I.laid (t':=s.toks) kp (Tp _) (show bI X.prog X.w _ h' _ (.lst d) from ⟨hz,a,c',c,e⟩),rfl,q _ (I.hok.fresh (Tp _))⟩
 rcases j with j|j
 ·obtain⟨a,c,pl,hz⟩:=I.list j;have f:=c.length;obtain⟨o,ho,k,n,hd⟩:=pl.isList;exact call_list_seq p (.inl rfl) ho k hd (λh' c' kp e=>g a c hz h' c' kp e) (by simp only [TB]<;>omega)
 ·obtain⟨a,c,pl,hz⟩:=I.tuple j;have f:=c.length;obtain⟨o,ho,k,n,hd⟩:=pl;exact call_list_seq p (.inr rfl) ho k hd (λh' c' kp e=>g a c hz h' c' kp e) (by simp only [TB]<;>omega)
def PJ:cy X (.type "tuple") (λxs H Q=>∃p d,xs=[.ref p]/\((aE X.K H p d/\∀l,H l=none->Q (.ref l) (upd H l (.tup d)))\/(bv X.K H p d/\Q (.ref p) H))):=by
 intro a s σ H xs us Q I r h;obtain⟨p,d,rfl,h⟩:=h;obtain⟨u,rfl,k⟩:=hX r;cases k;rcases h with ⟨hq,q⟩|⟨hq,q⟩
 ·obtain⟨c,f,pl,hz⟩:=I.list hq;have i:=f.length;refine call_tuple_list pl.isList (λh' kp=>?_) (by simp only [TB]<;>omega);have g:af X a σ H { s with heap:=h' }:=I.kept (t':=s.toks) kp;have j:af X a σ (upd H h'.objs.size (.tup d)) { s with heap:=h'.push { cls:=.type "tuple",data:=.seq c.toArray } } :=
   g.laid (t':=s.toks) (λb o e=>Tu _ e) (Tp _) (show bI X.prog X.w _ _ _ (.tup d) from ⟨hz,c,f,IsTup.new _ _⟩)
  exact⟨.ref h'.objs.size,_,j,Z,q _ (g.hok.fresh (Tp _))⟩
 ·obtain⟨c,f,pl,hz⟩:=I.tuple hq;exact call_tuple_same pl ⟨.ref p,H,I,Z,q⟩
def rY(K:W.Frag)(T:String)(x:V)(H:Hp):Prop:=match x with
 | .str _=>T = "str"
 | .int _=>T = "int"
 | .ref p=>(T = "list"/\∃xs,aE K H p xs)\/(T = "tuple"/\∃o,K.lookup p=some o/\o.cls=.type "tuple"/\o.dict=none) \/
  (T = "dict"/\((∃kvs,H p=some (.dK kvs))\/∃kvs,H p=some (.dT kvs)))\/(T = "set"/\∃S n,H p=some (.set S n))
 | _=>False
def yX{b:List (Addr × Obj)}{σ:St}{H:Hp}{s:fy}{T:String}{x:V}{v:Value}(I:af X b σ H s)(r:aO x v)(ty:rY X.K T x H) :
 s.TypeIs v T/\∀a,v=.ref a->∃ob,s.heap.get? a=some ob/\ob.dict=none:=by
 cases x with
 | str z =>
  obtain⟨t,rfl⟩:=r;cases (show T = "str" from ty);exact⟨typeIs_str s z t,λ_ e=>nomatch e⟩
 | int i =>
  obtain⟨t,rfl⟩:=r;cases (show T = "int" from ty);exact⟨typeIs_int s i t,λ_ e=>nomatch e⟩
 | ref p =>
  cases r;rcases ty with ⟨rfl,xs,hq⟩|⟨rfl,o,hk,hc,hd⟩|⟨rfl,hk⟩|⟨rfl,S,n,hk⟩
  ·obtain⟨f,_,pl,_⟩:=I.list hq;refine⟨pl.isList.typeIs,λa e=>?_⟩;cases e;obtain⟨o,n,e,c,hd,_⟩:=pl;exact⟨o,e,hd⟩
  ·refine⟨⟨o,I.kIn p o hk,hc⟩,λa e=>?_⟩;cases e;exact⟨o,I.kIn _ o hk,hd⟩
  ·have z:∃o,s.heap.get? p=some o/\o.ExactDict:=by
    rcases hk with ⟨kvs,hk⟩|⟨kvs,hk⟩
    ·obtain⟨_,_,_,_,o,_,_,e,ex,_⟩:=I.hok p _ hk;exact⟨o,e,ex⟩
    ·obtain⟨_,_,_,_,o,_,_,e,ex,_⟩:=I.hok p _ hk;exact⟨o,e,ex⟩
   obtain⟨o,e,ex⟩:=z;refine⟨⟨o,e,ex.1⟩,λa d=>?_⟩;cases d;exact⟨o,e,ex.2.1⟩
  ·obtain⟨o,_,_,_,e,ex,_⟩:=I.hok p _ hk;refine⟨⟨o,e,ex.1⟩,λa d=>?_⟩;cases d;exact⟨o,e,ex.2.1⟩
 | _=>exact False.elim ty
def si(K:W.Frag)(T:String)(r:V->List V->Hp->VK->Prop)(b:TE):TE:=λσ H Q=>b σ H λx a=>rY K T x a/\r x [] a Q
def sj(K:W.Frag)(T:String)(r:V->List V->Hp->VK->Prop)(b:TE)(t:TA):TE:=λσ H Q=>b σ H λx a=>rY K T x a/\t σ a λxs c=>r x xs c Q
variable {o e:Expr}{es:List Expr}{to:TE}{t:TA}{name:Str}{apos cpos:Pos}{T id:String}{r:V->List V->Hp->VK->Prop}
def J2 (i:PlainAttrs T) (slot:Slot T name id) (d:typeOf (.builtin id)=pure (.type "method_descriptor")) (g:gf X id r) (ho:PE X o to)
 (c:attributeBase o name X.env (eval o X.env)=eval o X.env:=by rfl) (b:(apos.endLine == cpos.line)=true:=by rfl):PE X (.Call (.Attribute o name apos) [] [] cpos) (si X.K T r to):=by
 intro a s σ H Q I h;refine wpAny_Call_method0_late c b (az (ho a s σ H _ I h) λv s1 ⟨x,m,f,e,ty,k⟩=>?_);obtain⟨l,j⟩:=yX f e ty;exact⟨T,id,i,slot,d,l,j,Calls.callWith_builtin Z (PySem.evalArgs_none (g a s1 σ m x [] v [] Q f e .nil k))⟩
def J3 (n:PlainAttrs T) (slot:Slot T name id) (g:typeOf (.builtin id)=pure (.type "method_descriptor")) (u:gf X id r) (ho:PE X o to) (l:PA X (e::es) t)
 (d:attributeBase o name X.env (eval o X.env)=eval o X.env:=by rfl)
 (f:((backTo cpos (starEach (e::es) X.env)).all (λx=>!x.1) && (backToKw cpos (keywordEach [] X.env)).all (λx=>x.1.isSome)
   && decide ((e::es).length+([]:List Keyword).length+(if ([]:List Keyword).isEmpty then 0 else 1)<30))=true:=by rfl)
 (c:(apos.endLine == cpos.line)=true:=by rfl) (hs:starEach (e::es) X.env=(false,eval e X.env)::starEach es X.env:=by rfl) (b:(backTo cpos (starEach es X.env)).any (·.1)=false:=by rfl) :
 PE X (.Call (.Attribute o name apos) (e::es) [] cpos) (sj X.K T r to t):=by
 intro a s σ H Q I h;refine wpAny_Call_method_late d f c Z (az (ho a s σ H _ I h) λv s1 ⟨x,m,i,j,ty,B⟩=>?_);obtain⟨p,z⟩:=yX i j ty;refine⟨T,id,n,slot,g,p,z,?_⟩;have hA:=l cpos a s1 σ m _ i B;rw[hs]at hA ⊢;refine Calls.callWith_builtin (by show (false || (backTo cpos (starEach es X.env)).any (·.1))=false;rw[b]<;>rfl) (Calls.evalArgs_plain ?_);exact az hA λus y ⟨vs,D,k,q,C⟩=>u a y σ D x vs v us Q k j q C
end
def yp(X:Cx)(id:String)(r:V->List V->Hp->VK->Prop):Prop :=
 ∀(a:List (Addr × Obj)) (s:fy) (σ:St) (H:Hp) (x:V) (xs:List V) (v:Value) (us:List Value) (Q:VK),af X a σ H s->aO x v->aJ xs us->r x xs H Q ->
  wpAny (model X.prog X.w) X.A (call (.builtin id) (v::us)) (EP X a σ Q) X.xe s
theorem aJ.one:∀ {x:V} {us:List Value},aJ [x] us->∃u,us=[u]/\aO x u
 | _,_,.cons r .nil=>⟨_,rfl,r⟩
theorem aJ.zero:∀ {us:List Value},aJ [] us->us=[]
 | _,.nil=>rfl
def aJ.reverse{xs:List V}{us:List Value}(h:aJ xs us):aJ xs.reverse us.reverse:=by
 induction h with
 | nil=>exact .nil
 | cons r t ih=>rw[List.reverse_cons,List.reverse_cons];exact aJ.append ih (.cons r .nil)
theorem aJ.rep{xs:List V}{us:List Value}(h:aJ xs us):∀k:Nat,aJ (List.replicate k xs).flatten (List.replicate k us).flatten
 | 0=>.nil
 | k+1=>by
  rw[UL,UL,Vi,Vi];exact aJ.append h (aJ.rep h k)
theorem CF(a:List Value):∀(k:Nat) (b:List Value),
 List.foldl (λc f=>c++f) b.toArray (List.replicate k a.toArray)=(b++(List.replicate k a).flatten).toArray
 | 0,b=>by simp
 | k+1,b=>by
  have e:b.toArray++a.toArray=(b++a).toArray:=by simp
  have d:(b++a)++(List.replicate k a).flatten=b++(List.replicate (k+1) a).flatten:=by
   rw[UL,Vi,T8]
  rw[<- d,<- CF a k (b++a),<- e,UL,UM]
section
variable {X:Cx}{pins:List (Addr × Obj)}{σ:St}{H:Hp}{s:fy}{l b:Addr}{xs ys zs:List V}
def af.lset{a its':List Value}{n:Nat}{f:Array Value->Array Value}{t':Nat}(I:af X pins σ H s)(hH:H l=some (.lst xs))
 (e:s.heap.get? l=some { cls:=.type "list",data:=.seq a.toArray n }) (hf:f a.toArray=its'.toArray) (c:aJ ys its') (hz:ys.length<=sizeLine) :
 af X pins σ (upd H l (.lst ys)) { s with heap:=s.heap.update l (Obj.mapSeq f),toks:=t' }:=by
 have q:=PySem.IsL.update e f;rw[hf]at q;refine I.write (x:=l) (e:=l) (by rw[hH];exact trivial) (.inl Z) (λb' u hb b=>(Uw s.heap (Obj.mapSeq f) (Ne.symm hb)).trans b) ⟨_,q⟩ ?_;exact⟨hz,its',_,c,q⟩
def af.lnew{a:List Value}{t':Nat}(I:af X pins σ H s)(b:aJ ys a)(hz:ys.length<=sizeLine) :
 af X pins σ (upd H s.heap.objs.size (.lst ys)) { s with heap:=s.heap.push { cls:=.type "list",data:=.seq a.toArray },toks:=t' } :=
 I.laid (λ_ _ q=>Tu _ q) (Tp _) ⟨hz,a,0,b,T6 _ rfl⟩
def af.fresh(I:af X pins σ H s):H s.heap.objs.size=none:=I.hok.fresh (Tp _)
def af.lstM(I:af X pins σ H s)(hH:H l=some (.lst xs)):xs.length<=sizeLine/\∃(a:List Value) (n:Nat),aJ xs a/\xs.length=a.length/\s.heap.get? l=some { cls:=.type "list",data:=.seq a.toArray n }:=by
 obtain⟨z,a,n,r,e⟩:=I.hok l _ hH;exact⟨z,a,n,r,r.length,e⟩
def pD{n:Nat}(h:n<=sizeLine):Builtin.List.listTooLong n=false:=by
 unfold Builtin.List.listTooLong;exact WB (by omega)
end
section
variable {X:Cx}
def Iq:V->List V->Hp->VK->Prop:=λx vs H Q=>∃l xs y,x=.ref l/\vs=[y]/\H l=some (.lst xs)/\xs.length<sizeLine/\Q .non (upd H l (.lst (xs++[y])))
def KQ:yp X "list.append" Iq:=by
 intro b s σ H x vs v us Q I f d h;obtain⟨l,xs,y,rfl,rfl,hH,hz,q⟩:=h;cases f;obtain⟨u,rfl,c⟩:=d.one;obtain⟨z,a,n,r,g,e⟩:=I.lstM hH;refine call_meets F.slot_list_append ⟨_,e,rfl⟩ F.entry_list_append (F.args_list_append_2 _ _) (PySem.list_append l a.toArray n u (by rw[TB];omega)) ⟨e,?_⟩;refine⟨.non,_,I.lset (its':=a++[u]) hH e (by simp) (r.append (.cons c .nil)) ?_,rfl,q⟩;rw[Tq,List.length_singleton];omega
def Io:V->List V->Hp->VK->Prop:=λx vs H Q=>∃l b xs zs,x=.ref l/\vs=[.ref b]/\H l=some (.lst xs)/\H b=some (.lst zs)/\xs.length+zs.length<=sizeLine/\Q .non (upd H l (.lst (xs++zs)))
def KN:yp X "list.extend" Io:=by
 intro f s σ H x vs v us Q I p k h;obtain⟨l,b,xs,zs,rfl,rfl,hH,hB,hz,q⟩:=h;cases p;obtain⟨u,rfl,j⟩:=k.one;cases j;obtain⟨z,c,n,r,y,e⟩:=I.lstM hH;obtain⟨z2,a,g,o,i,m⟩:=I.lstM hB;have hsz:c.toArray.size+a.toArray.size<=sizeLine:=by rw[TB,TB];omega
 have d:¬(!c.toArray.isEmpty && Builtin.List.listTooLong (c.toArray.size+a.toArray.size))=true:=by
  rw[pD hsz,VG];exact TC
 refine call_meets F.slot_list_extend ⟨_,e,Z⟩ F.entry_list_extend (F.args_list_extend_2 _ _)
  (AutoSeq1.list_extend_list_list_0 l c.toArray n b a.toArray g d (by rw[TB];omega) (by omega)) ⟨e,m,?_⟩
 refine⟨.non,_,I.lset (its':=c++a) hH e (by simp) (r.append o) ?_,rfl,q⟩;rw[Tq];omega
def Ii:V->List V->Hp->VK->Prop:=λx vs H Q=>∃l xs,x=.ref l/\vs=[]/\H l=some (.lst xs)/\Q .non (upd H l (.lst xs.reverse))
def KM:yp X "list.reverse" Ii:=by
 intro c s σ H x vs v us Q I f d h;obtain⟨l,xs,rfl,rfl,hH,q⟩:=h;cases f;have b:=d.zero;subst b;obtain⟨z,a,n,r,g,e⟩:=I.lstM hH;refine call_meets F.slot_list_reverse ⟨_,e,rfl⟩ F.entry_list_reverse (F.args_list_reverse_1 _) (AutoSeq1.list_reverse_list_0 l a.toArray n (by rw[TB];omega)) ⟨e,?_⟩;refine⟨.non,_,I.lset (its':=a.reverse) hH e (by simp) r.reverse ?_,rfl,q⟩;rw[V6];omega
def Ij:R2:=λx y H Q=>∃l k xs,x=.ref l/\y=.int k/\H l=some (.lst xs)/\-(2 ^ 63)<=k/\k<2 ^ 63/\xs.length*k.toNat<=sizeLine /\
 ∀p,H p=none->Q (.ref p) (upd H p (.lst (List.replicate k.toNat xs).flatten))
def LX{α:Type}(xs:List α)(k:Nat):(List.replicate k xs).flatten.length=k*xs.length:=by
 induction k with
 | zero=>simp
 | succ k ih=>rw[UL,Vi,Tq,ih,Nat.succ_mul,Nat.add_comm]
def J9:be X (binaryOp .Mult) Ij:=by
 intro p s σ H x y v u Q I L B h;obtain⟨l,k,xs,rfl,rfl,hH,G,D,hz,q⟩:=h;cases L;obtain⟨t,rfl⟩:=B;obtain⟨z,b,n,r,M,e⟩:=I.lstM hH;have d:b.toArray.size*k.toNat<=sizeLine:=by rw[TB,<- M];exact hz
 have f:¬b.toArray.size*k.toNat > (2 ^ 63-1)/8:=by
  have:(sizeLine:Nat)<=(2 ^ 63-1)/8:=by decide
  omega
 have g:¬(!Builtin.List.listFitsIndex k)=true:=by
  rw[fitsIndex_both G D];exact TC
 have c:¬Builtin.List.listTooLong (b.toArray.size*k.toNat)=true:=by
  rw[pD d];exact TC
 have i:List.foldl (λj o=>j++o) #[] (List.replicate (if b.toArray.isEmpty=true then 0 else k.toNat) b.toArray)=(List.replicate k.toNat b).flatten.toArray:=by
  have C:∀m:Nat,List.foldl (λj o=>j++o) #[] (List.replicate m b.toArray)=(List.replicate m b).flatten.toArray:=λm=>by
   have:=CF b m [];rw[VH]at this;exact this
  rw[C];cases b with
  | nil=>simp
  | cons a r'=>rw[Wv (by simp)]
 refine wpAny_binaryOp_repeat_ref (T := "list") (U := "int") (by decide) ⟨_,e,rfl⟩ (λJ=>typeIs_int J k t) noFill_list_mul F.fills_int_mul F.slot_int_rmul repeat_list F.slot_int_index.lookup
  (call_meets F.slot_int_rmul (typeIs_int s k t) F.entry_int_rmul (F.args_int_rmul_2 _ _) (int___rmul___int_list k t l b.toArray n)
    ⟨e,rfl,⟨_,e,rfl⟩,call_meets F.slot_list_mul ⟨_,e,rfl⟩ F.entry_list_mul (F.args_list_mul_2 _ _) (AutoListH.list___mul___list_int_3 l b.toArray n k t g f c) ⟨e,?_⟩⟩)
 rw[i];exact⟨.ref _,_,I.lnew (t':=s.toks) (r.rep k.toNat) (by rw[LX,Nat.mul_comm];exact hz),Z,q _ I.fresh⟩
end
section
variable {prog:Program}{w:World}{A:Around}{E:Value->fy->Prop}{s:fy}
def Qk{a c n:Nat}(b:a<=c)(f:c<=n):sliceBounds (some (a:Int)) (some (c:Int)) none n=((a:Int),(c:Int),1):=by
 simp only [sliceBounds,VF];have e:¬((a:Int)<0):=by omega
 have d:¬((c:Int)<0):=by omega
 simp only [e,d,if_false,show (1:Int) > 0 by decide,if_true]
 congr 1
 ·omega
 ·congr 1;omega
set_option maxRecDepth 100000 in
def SO{l b k:Addr}{items new:Array Value}{n B:Nat}{o v:Value}{a c:Nat}{Q:Unit->fy->Prop}
 (e:s.heap.get? l=some { cls:=.type "list",data:=.seq items n }) (z:s.heap.get? b=some { cls:=.type "list",data:=.seq new B }) (q:l≠b)
 (hs:s.heap.IsSliceOf k o v .none) (pl:IsPart o (some (a:Int))) (D:IsPart v (some (c:Int))) (u:a<=c) (C:c<=items.size)
 (hsz:items.size+new.size<=sizeLine) (h:Q () { s with heap:=s.heap.update l (Obj.mapSeq λxs=>xs.extract 0 a++new++xs.extract c xs.size) }) :
 wpAny (model prog w) A (setItem (.ref l) (.ref k) (.ref b)) Q E s:=by
 have y:s.heap.IsList l items:=PySem.IsL.isList e;have hb:s.heap.IsList b new:=PySem.IsL.isList z;obtain⟨os,f,p,g⟩:=id hs;have hTs:s.TypeIs (.ref k) "slice":=⟨os,f,p⟩;have i:¬((rawPart none == rawInt 0)=true):=TC;have d:Builtin.List.listSameRef (.ref l) (.ref b)=false:=by
  unfold Builtin.List.listSameRef;exact beq_eq_false_iff_ne.mpr q
 have j:(max (a:Int) (c:Int)).toNat=c:=by omega
 have r:((λxs:Array Value=>xs.extract 0 a++new++xs.extract c xs.size) items).size<=sizeLine+1:=by
  simp only [Array.size_append,VI];omega
 unfold setItem
 try with_reducible refine wpAny_holding ?_
 first|refine kb (on ?_)|skip
 refine kb (wpAny_sequenceKey y.typeIs (by decide) ?_);refine kb (wpAny_callSpecial?_slot (name:=Str.ofString "__setitem__") y.typeIs slot_list_setitem
  (wpAny_call_entry slot_list_setitem y.typeIs entry_list_setitem ?_ (args_list_setitem _ _ _)))
 show wpAny _ _ (Builtin.List.listSubscript? (.ref k) >>= _) _ _ s;refine kb ?_;unfold Builtin.List.listSubscript?;refine kb (wpAny_specialOf hTs slice_no_index ?_);simp only [Option.isNone_none,if_true];refine on ?_;show wpAny _ _ (typeOf (.ref k) >>= _) _ _ s;refine kb (wpAny_typeOf hTs ?_)
 first
  | rw[Wv (by decide)]
  | refine W.KFB.if_not (by decide) ?_
 rw[listSliceParts_eq];refine kb (kb (wpAny_field f g (x:=.none) Z (kb (wpAny_listPart .none ?_))));rw[Wv i];refine kb (wpAny_field f g (x:=o) Z (kb (wpAny_listPart pl ?_)));refine kb (wpAny_field f g (x:=v) Z (kb (wpAny_listPart D (on ?_))))
 first
  | simp only [d,Uh,if_false]
  | refine W.KFB.if_not d ?_
  | (dsimp only
     rw[Wv (by rw[d];exact TC)])
 refine kb (m:=Builtin.List.listAllItems (.ref b) "must assign iterable to extended slice") ?_;unfold Builtin.List.listAllItems;refine kb (wpAny_typeOf hb.typeIs ?_)
 first
  | refine W.KFB.if_so (by decide) ?_
  | rw[Ww (by decide)]
  | simp only [beq_self_eq_true,Bool.true_or,if_true]
 unfold Builtin.List.listItems;refine kb (wpAny_seqItems z Z (on ?_));refine kb (kb (wpAny_seqItems e Z (on ?_)));refine kb (wpAny_of_eq ((sliceIndices_raw (some (a:Int)) (some (c:Int)) none items.size (by simp)).trans (congrArg (pure:Int × Int × Int->Sem (Int × Int × Int)) (Qk u C))) ?_);show wpAny _ _ (if ((1:Int) == 1)=true then _ else _) _ _ s;rw[Ww (by decide)];refine kb (wpAny_rule ?_)
 first
  | simp only [pD hsz,Uh,if_false]
  | refine W.KFB.if_not (pD hsz) ?_
 first|refine kb (on ?_)|skip
 show wpAny _ _ (updateSeq l (λxs=>xs.extract 0 ((a:Int)).toNat++new++xs.extract (max (a:Int) (c:Int)).toNat xs.size) >>= _) _ _ s;rw[j,Vj];refine kb (wpAny_updateSeq (hz:=TH (VJ _ _) hsz) (_hz':=r) e Z ?_);refine kb (wpAny_letGo ?_)
 first
  | exact kb (on (on ⟨.none,rfl,on h⟩))
  | exact on ⟨.none,rfl,on h⟩
end
end L2
namespace Att
open PySem PySem.W PySem.Calls PyProof.Rows
def Mm{P:Params}{h:Heap}:∀(ns:e7) (vs:List Value),WellAll P h vs (ns.map WData.int)->IntsAre vs ns:=by
 intro ns
 induction ns with
 | nil =>
  intro vs w;rw[List.map_nil]at w;cases w;exact .nil
 | cons n ns ih =>
  intro vs w;rw[Uc]at w;cases w with
  | cons a b =>
   cases a;exact .cons _ _ (ih _ b)
def G5{l:OpenLaw}{n:Nat}(s:l.most=some n){P:Params}{h:Heap}{args:List WData}{vals:List Value}
 (b:l.row.toRowW.claim.pre args=true) (i:WellAll P h vals args) :
 ∃a vs ns,vals=[Value.ref a]/\args=[WData.list (ns.map WData.int)]/\h.get? a=some { cls:=.type "list",data:=.seq vs.toArray }/\IntsAre vs ns/\ns.length<=n:=by
 have g:WShape.hasAll [] args [.list .int]=true:=(pre_splitW b).1;have j:l.pre.holds [] { args:=args }=true:=(pre_splitW b).2;obtain⟨d,r,rfl,o,m⟩:=hasAllW_cons g;obtain rfl:=hasAllW_nil m;obtain⟨xs,rfl,p⟩:=hasW_list o;obtain⟨ns,rfl⟩:=items_int p;have c:ns.length<=n:=by
  unfold OpenLaw.pre at j;have e:(WTm.not (.lt (.lit (.int (n:Int))) (.len (.arg 0)))).holds [] { args:=[.list (ns.map .int)] }=true:=by
   have e:=(holds_andW j).1;rw[s]at e;exact e
  have f:=condW_of e (w_not (w_lt w_lit (w_len_list (w_arg rfl))));rw[To]at f;refine Nat.le_of_not_lt λq=>?_;have k:(n:Int)<((ns.length:Nat):Int):=by omega
  first
   | (rw[WA k]at f;exact Wx f (by decide))
   | (simp at f;omega)
 cases i with
 | cons w1 w2 =>
  cases w2;cases w1 with
  | list ho hall=>exact⟨_,_,ns,rfl,rfl,ho,Mm ns _ hall,c⟩
def Js(l:OpenLaw)(args:List WData):l.row.toRowW.claim.post args (.bool true) args=true :=
 postW_of (r:=l.row.toRowW) (X:=(true == true))
  (show WShape.has [] (.bool true) .bool=true by first|rfl|decide|simp[WShape.has,WShape.arms,WShape.armsAll])
  (show (WTm.eq .res (.lit (.bool true))).value [] { args:=args,res:=some (.bool true),after:=args }=some (.bool (true == true)) from w_eq_bool (w_res rfl) w_lit) rfl
def attach_call{l:OpenLaw}{n:Nat}{q:Program}{c:List Str}{D:(Str->Option Value)->Heap->Prop}{C:World->Heap->Prop}{d:DefRec}
 (M:l.most=some n) (x:d.params.defaults=[])
 (call:∀(w:World) (s₀ b:fy) (mg z:Str->Option Value) (h:Addr) (o:Obj) (v p g:Value) (a:Addr) (vs:List Value) (ns:e7),
   Ground q c [] D w s₀ mg z b.heap->C w b.heap ->
   b.heap.get? h=some o->o.data=.func (docDef d.name d.params d.body d.scope v p g)->b.heap.CodeRec p d.name->mg d.name=some (.ref h) ->
   b.heap.get? a=some { cls:=.type "list",data:=.seq vs.toArray }->IntsAre vs ns->ns.length<=n->b.gens = #[] ->
   codeAny (model l.prog w) callerA (.call (.ref h) ⟨[.ref a],[]⟩) (λr m=>r=.ok (.ret (.bool true))/\OldK b.heap m.heap/\m.os=b.os/\AllBare m.gens) b) :
 WalkO q c D C l.row.toRowW d [] (λf vs=>PySem.call f vs):=by
 intro w s₀ b mg z G Y h o v p g dV kV ho hd s hD y I args vals as i B F u O;obtain rfl:dV=.none:=Dflts.none hD x;obtain rfl:kV=.none:=Dflts.noKw hD;obtain⟨a,vs,ns,rfl,rfl,j,e,k⟩:=G5 M i u;refine enter_call (codeAny_mono (call w s₀ b mg z h o v p g a vs ns G Y ho (fd_plain hd) s y j e k I) λr m J=>?_);obtain⟨rfl,R,S,L⟩:=J;exact⟨.inl ⟨.bool true,.bool true,[],rfl,λ_=>rfl,.bool true,Js l _,λ_=>⟨List.Pairwise.nil,λ_ N=>(nomatch N)⟩⟩,R,S,L⟩
end Att
namespace L2
open PySem PySem.Spec PyProof.Rows
theorem yP:∀ {vs:List Value} {ns:e7},IntsAre vs ns->aJ (ns.map V.int) vs
 | _,_,.nil=>.nil
 | _,_,.cons n t h=>.cons ⟨t,rfl⟩ (yP h)
def yo(H:Hp):Prop:=∀b,H b=none\/∃o xs,H b=some (.frz o (.lst xs))
def L5{P:Program}{w:World}{K:W.Frag}{mg L:Str->Option Value}{CX:gx}{k:Nat}{G a:Addr}{U:FuncData}{x:Str}{sp:Sp}{c:fy}{vs:List Value}{ns:e7}
 (S:K.In c.heap) (l:c.heap.Ns mainGlobals mg) (hb:c.heap.Ns builtinsNs L) (M:∀x:Str,x ≠ "__name__"->L x=bootBuiltins x) (B:c.heap.NoLimit) (hg:c.gens = #[])
 (D:c.heap.get? a=some { cls:=.type "list",data:=.seq vs.toArray }) (Y:IntsAre vs ns) (R:ns.length<=sizeLine) (hr:bO k callerA)
 (F:∀base:Heap,K.In base->base.Ns mainGlobals mg->bL P w K mg base CX k G U [x] sp) (j:∀(s:fy) (u:Value),BindsTo s U ⟨[u],[]⟩ [(x,u)])
 (I:∀H:Hp,yo H->aE K H a (ns.map V.int)->sp [.ref a] H (λv _=>v=.bl true) λ_ _ _=>False)
 (hCX:∀H e g,CX [] H c (λ_ _ _=>False) e g->False) :
 codeAny (model P w) callerA (.call (.ref G) ⟨[.ref a],[]⟩) (λr g=>r=.ok (.ret (.bool true))/\OldK c.heap g.heap/\g.os=c.os/\AllBare g.gens) c:=by
 have O:=yP Y;have lenV:=Y.length;have i:∀H:Hp,yo H->aE K H a (ns.map V.int)->bK P w H c.heap->(∀b,H b≠none->b=a)->(H a≠none->K.lookup a=none) ->
  codeAny (model P w) callerA (.call (.ref G) ⟨[.ref a],[]⟩) (λr g=>r=.ok (.ret (.bool true))/\OldK c.heap g.heap/\g.os=c.os/\AllBare g.gens) c:=by
  intro H hO hS hok hA hK;have f:∀ {b:Addr} {o:Obj},c.heap.get? b=some o->H b=none->(iq c.heap H).get? b=some o:=λe n=>MD e n;have noA:∀ {b:Addr} {o:Obj} {es:Array DictEntry} {y:Nat},c.heap.get? b=some o->o.data=.dict es y->H b=none:=λ{b o es y} e d=>by
   cases q:H b with
   | none=>rfl
   | some u =>
    have J:b=a:=hA b (by rw[q];simp);subst J;rw[D]at e;cases e;have d':Data.seq vs.toArray _=Data.dict es y:=d;cases d'
  have nsK:∀ {b:Addr} {m:Str->Option Value},c.heap.Ns b m->(iq c.heap H).Ns b m:=λ{b m} ⟨o,es,y,e,d,r⟩=>⟨o,es,y,f e (noA e d),d,r⟩;have hKb:K.In (iq c.heap H):=λb o e=>f (S b o e) (by
   cases q:H b with
   | none=>rfl
   | some u =>
    have J:b=a:=hA b (by rw[q];simp);subst J;rw[hK (by rw[q];simp)]at e;cases e)
  have hM:Mod K mg (iq c.heap H):=⟨hKb,nsK l,⟨L,nsK hb,M⟩,let ⟨mc,h1,h2⟩:=B;⟨mc,nsK h1,h2⟩⟩;have e0:i4 P w K mg (iq c.heap H) callerA [] c H:=⟨rfl,hM,λb o e=>KC e,UU (MC _ _),trivial,λb hb=>Wx (show b∈([]:List Addr) from hb) (by simp),hok,.of_eq hg⟩;refine codeAny_mono ((F _ hKb (nsK l)).run callerA [] c H ⟨[.ref a],[]⟩ [.ref a] [.ref a] _ _ hr e0 (j c (.ref a)) (.cons Z .nil) (I H hO hS)) λr g h=>?_;cases r with
  | error e=>exact (hCX H e g h).elim
  | ok fl =>
   cases fl with
   | next=>exact False.elim h
   | brk=>exact False.elim h
   | cont=>exact False.elim h
   | ret u =>
    obtain⟨v,H',os,bare,un,p,r',q⟩:=h;have q':v=.bl true:=q;subst q';obtain rfl:u=Value.bool true:=r';refine⟨rfl,OldK.of_keep λb o e=>?_,os,bare⟩;cases q:H b with
    | none=>exact un.keep b o e q (by intro z;exact Wx (show b∈([]:List Addr) from z) (by simp)) (by simp)
    | some u =>
     rcases hO b with z|⟨ob,xs,z⟩
     ·rw[q]at z;cases z
     ·have z2:=un.frzs b ob _ z;obtain⟨N,_⟩:=hok b _ z;obtain⟨e2,_⟩:=p b _ z2;rw[e]at N;cases N;exact e2
 cases hk:K.lookup a with
 | some o =>
  have e:=S a o hk;rw[D]at e;cases e;refine i (λ_=>none) (λ_=>.inl rfl) (.inr ⟨_,vs.toArray,_,hk,rfl,rfl,rfl,by rw[TB,lenV];exact R,by simpa using O⟩) (λb u z=>by have C:(none:Option HO)=some u:=z;cases C) (λb z=>Wx rfl z) λz=>Wx rfl z
 | none =>
  refine i (λb=>if b=a then some (.frz { cls:=.type "list",data:=.seq vs.toArray } (.lst (ns.map V.int))) else none) (λb=>?_) (.inl (.inr ⟨{ cls:=.type "list",data:=.seq vs.toArray },Ww Z⟩)) (λb u z=>?_) (λb z=>?_) λ_=>hk
  ·by_cases hb:b=a
   ·exact .inr ⟨_,_,Ww hb⟩
   ·exact .inl (Wv hb)
  ·by_cases hb:b=a
   ·have C:=(Ww hb).symm.trans z;cases C;subst hb;exact⟨D,by rw[To];exact R,vs,_,O,D⟩
   ·have C:=(Wv hb).symm.trans z;cases C
  ·by_cases hb:b=a
   ·exact hb
   ·exact Wx (Wv hb) z
abbrev KOf{K:W.Frag}{h:Heap}(_:K.In h):W.Frag:=K
def walk_of{l:W.OpenLaw}{n k:Nat}{q:Program}{j:List Str}{U:(Str->Option Value)->Heap->Prop}{J:World->Heap->Prop}{d:DefRec}{K:Params->W.Frag}{CX:World->gx}{sp:World->Sp}{x:Str}
 (O:l.most=some n) (D:n<=sizeLine) (B:d.params.defaults=[]) (S:bO k callerA)
 (hY:∀(w:World) (h:Heap),J w h->(K w.params).In h)
 (F:∀(w:World) (mg:Str->Option Value) (p:Addr) (h:Heap),(K w.params).In h->h.Ns mainGlobals mg->mg d.name=some (.ref p) ->
   ∃z:FuncData,(∀(s:fy) (u:Value),BindsTo s z ⟨[u],[]⟩ [(x,u)]) /\
    ∀base:Heap,(K w.params).In base->base.Ns mainGlobals mg->bL l.prog w (K w.params) mg base (CX w) k p z [x] (sp w))
 (y:∀(w:World) (H:Hp) (a:Addr) (ns:e7),ns.length<=n->yo H->aE (K w.params) H a (ns.map V.int)->sp w [.ref a] H (λv _=>v=.bl true) λ_ _ _=>False)
 (hCX:∀(w:World) (H:Hp) (s:fy) (e:Value) (r:fy),CX w [] H s (λ_ _ _=>False) e r->False) :
 W.WalkO q j U J l.row.toRowW d [] (λf vs=>PySem.call f vs):=by
 refine Att.attach_call O B λw s₀ N mg mb p o pm cd R a vs ns G Y ho hd L C m i c M=>?_;have I:=hY w _ Y;obtain⟨z,hb,hF⟩:=F w mg p _ I G.T.g C;exact L5 I G.T.g G.T.b G.T.builtins G.T.nolimit M m i (TH c D) S hF hb (λH hO hS=>y w H a ns c hO hS) λH e r=>hCX w H N e r
end L2
namespace L2
open PySem PySem.Spec PyProof.Rows
def bW(s:Stmt)(j:Nat):Stmt:=match s with
 | .ClassDef _ _ _ body _ _ _ _ _ _ _=>body.getD j (.Pass ⟨0,0,0,0⟩)
 | _=>.Pass ⟨0,0,0,0⟩
def aK(s:Stmt):Arguments:=match s with
 | .FunctionDef _ a _ _ _ _ _ _ _ _=>a
 | _=>{ posonlyargs:=[],args:=[],vararg:=none,kwonlyargs:=[],kw_defaults:=[],kwarg:=none,defaults:=[] }
def aI(s:Stmt):List Stmt:=match s with
 | .FunctionDef _ _ b _ _ _ _ _ _ _=>b
 | _=>[]
def ao(s:Stmt):Scope:=match s with
 | .FunctionDef _ _ _ _ _ _ sc _ _ _=>sc
 | _=>{ kind:=.function,names:=[],isGenerator:=false,isCoroutine:=false }
abbrev bY:gx:=λ_ _ _ _ _ _=>False
abbrev E0:XK:=λ_ _ _=>False
def J5{X:Cx}:iX bY X E0:=λ_ _ _ _ _ _ _ h=>h.elim
structure aR (K:W.Frag) (x qual:Str) (st:Stmt) (f:Addr) (fd:FuncData):Prop where
 ex:∃(oc:Value) (od:Option Addr) (kV doc pm:Value) (an:Option Addr) (cdv ct:Value) (osl:Array (Option Value)),
  fd=W.fnOf x qual (aK st) (aI st) (ao st) .none kV doc pm an cdv ct/\K.lookup f=some ⟨oc,od,.func fd,osl⟩/\W.codeIn K cdv qual=true
 kp:W.keepIn K (.ref f)=true
section
variable {P:Program}{w:World}{K:W.Frag}{mg:Str->Option Value}{base:Heap}
def aR.ok{x qual:Str}{st:Stmt}{f:Addr}{e:FuncData}{N ps:List Str}{k:Nat}{sp:Sp}(F:aR K x qual st f e)(S:aL N ps (ao st))(len:∀vs H Q E,sp vs H Q E->vs.length=ps.length)
 (b:∀(a:Value) (A:Around) (outer:List Env) (s:fy) (H:Hp) (vs:List V) (Q:VK) (E:XK),bO k (A.deeper (envOfC qual (ao st) s.heap.objs.size f a))->sp vs H Q E ->
   ∃t,gc (f6 bY P w K mg base N qual (ao st) f a A outer s H E).nox (aI st) t/\t { nx:=λ_ j=>Q .non j,rt:=Q } (gD N vs) H):bL P w K mg base bY (k+1) f e ps sp:=by
 obtain⟨n,o,kV,g,r,p,a,ct,m,rfl,l,d⟩:=F.ex;refine ud l d S len λA outer s H vs Q E i c=>?_;obtain⟨t,h,q⟩:=b a A outer s H vs Q E i c;exact⟨t,h.nox,q⟩
def aR.binds{x qual:Str}{st:Stmt}{f:Addr}{e:FuncData}{ps:List Str}(F:aR K x qual st f e)
 (h:∀(kV a c:Value) (d:Option Addr) (b ct:Value) (us:List Value),us.length=ps.length->bindArgs (W.fnOf x qual (aK st) (aI st) (ao st) .none kV a c d b ct) ⟨us,[]⟩=pure (ps.zip us)):ax K e ps []:=by
 obtain⟨l,k,kV,a,c,d,b,ct,i,rfl,j,g⟩:=F.ex;exact .all (h kV a c d b ct)
def aX{x qual:Str}{st:Stmt}{f:Addr}{h:Value}{i e:Option Addr}{d:Array (Option Value)}{kV b g a ct:Value}(l:K.lookup f=some ⟨h,i,.func (W.fnOf x qual (aK st) (aI st) (ao st) .none kV b g e a ct),d⟩)
 (c:W.codeIn K a qual=true) (k:W.keepIn K (.ref f)=true):aR K x qual st f (W.fnOf x qual (aK st) (aI st) (ao st) .none kV b g e a ct):=⟨⟨h,i,kV,b,g,e,a,ct,d,rfl,l,c⟩,k⟩
end
section
variable {X:Cx}
def pv(i:Nat){x:Str}{pos:Pos}(hN:X.N[i]? = some x:=by rfl)(b:n5 X.env.scope x:=by first|exact Or.inl rfl|exact Or.inr (Or.inl rfl)|exact Or.inr (Or.inr rfl))(hd:(x == ("__debug__" : Str))=false:=by decide)
 (a:(x == ("__classdict__" : Str))=false:=by decide):PE X (.Name x pos) (y6 i):=AL hN b hd a
end
def BC{A B:Prop}(h:B):if false=true then A else B:=by
 rw[Wv TC];exact h
def iN{A B:Prop}(h:A):if true=true then A else B:=by
 rw[Ww rfl];exact h
def ak{c A B:Prop}[Decidable c](b:c->A)(a:¬c->B):if c then A else B:=by
 by_cases h:c
 ·rw[Ww h];exact b h
 ·rw[Wv h];exact a h
def am(H a:Hp):Prop:=∀b o,H b=some o->a b=some o
def am.refl(H:Hp):am H H:=λ_ _ h=>h
def am.trans{H e d:Hp}(a:am H e)(b:am e d):am H d:=λc o h=>b c o (a c o h)
def am.free{H a:Hp}(e:am H a){l:Addr}(h:a l=Option.none):H l=Option.none:=by
 cases q:H l with
 | none=>rfl
 | some o =>
  rw[e l o q]at h;cases h
def am.seq{K:W.Frag}{H b:Hp}{a:Addr}{xs:List V}(e:am H b)(h:aE K H a xs):aE K b a xs:=by
 rcases h with (h|⟨o,h⟩)|h
 ·exact .inl (.inl (e _ _ h))
 ·exact .inl (.inr ⟨o,e _ _ h⟩)
 ·exact .inr h
end L2
set_option maxHeartbeats 4000000
namespace HT
open PySem PyProof.Rows
end HT
namespace L2
open PySem PySem.Spec PyProof.Rows
def PE.imp{X:Cx}{e:Expr}{t t':TE}(h:PE X e t)(k:∀σ H Q,t' σ H Q->t σ H Q):PE X e t':=λa s σ H Q I q=>h a s σ H Q I (k σ H Q q)
def be.imp{X:Cx}{f:Value->Value->Sem Value}{r b:R2}(h:be X f r)(k:∀x y H Q,b x y H Q->r x y H Q):be X f b:=λa s σ H x y v u Q I d c q=>h a s σ H x y v u Q I d c (k x y H Q q)
def cy.imp{X:Cx}{f:Value}{r b:List V->Hp->VK->Prop}(h:cy X f r)(k:∀xs H Q,b xs H Q->r xs H Q):cy X f b:=λa s σ H xs us Q I c q=>h a s σ H xs us Q I c (k xs H Q q)
def gh.imp{X:Cx}{r c:R2}(h:gh X r)(k:∀x y H Q,c x y H Q->r x y H Q):gh X c:=λvalue a b s σ H x y v u Q I e d q hs=>h value a b s σ H x y v u Q I e d (k x y H Q q) hs
def am.new{H:Hp}{p:Addr}{o:HO}(h:H p=none):am H (upd H p o):=λb u e=>by rw[au (ba e h)];exact e
structure bA (H:Hp) (p:Addr) (o:HO) (H':Hp):Prop where
 nw:H p=none
 sm:am H H'
 at_:H' p=some o
def bA.mk'{H:Hp}{p:Addr}{o:HO}(h:H p=none):bA H p o (upd H p o):=⟨h,am.new h,aV⟩
def bA.lst{K:W.Frag}{H a:Hp}{p:Addr}{xs:List V}(g:bA H p (.lst xs) a):aE K a p xs:=.of g.at_
def bA.tup{K:W.Frag}{H a:Hp}{p:Addr}{xs:List V}(g:bA H p (.tup xs) a):bv K a p xs:=.of g.at_
def am.put{H a:Hp}{p:Addr}{o:HO}(s:am H a)(h:H p=none):am H (upd a p o):=λb u e=>by
 rw[au (ba e h)];exact s b u e
def mV(i:Nat):TE:=λσ H Q=>match σ[i]? with
 | some (some v)=>Q v H
 | _=>False
def vv(i:Nat){X:Cx}{x:Str}{pos:Pos}(hN:X.N[i]? = some x:=by rfl)(b:n5 X.env.scope x:=by first|exact Or.inl rfl|exact Or.inr (Or.inl rfl)|exact Or.inr (Or.inr rfl))(hd:(x == ("__debug__" : Str))=false:=by decide)
 (a:(x == ("__classdict__" : Str))=false:=by decide):PE X (.Name x pos) (mV i):=(AL hN b hd a).imp λσ H Q q=>by
 unfold mV at q
 split at q
 ·exact⟨_,by assumption,q⟩
 ·exact q.elim
section
variable {X:Cx}{a b:Expr}{ta tb:TE}{pos:Pos}{bJ:List Expr}
def Bo(b tb:TE):TE:=λσ H Q=>b σ H λx a=>match x with
 | .bl c=>if c=true then tb σ a Q else Q (.bl false) a
 | _=>False
def Bk(b tb:TE):TE:=λσ H Q=>b σ H λx a=>match x with
 | .bl c=>if c=true then Q (.bl true) a else tb σ a Q
 | _=>False
def Bl(a:TE):TE:=λσ H Q=>a σ H λx b=>match x with
 | .bl c=>Q (.bl (!c)) b
 | _=>False
def LJ(j:PE X a ta)(hb:PE X (.BoolOp .And (b::bJ) pos) tb):PE X (.BoolOp .And (a::b::bJ) pos) (Bo ta tb):=by
 intro d s σ H Q I h;refine BoolOp_and (az (j d s σ H _ I h) λv s1 ⟨x,f,g,i,e⟩=>?_);cases x with
 | bl c =>
  cases i;refine wpAny_truthy_bool ?_;cases c with
  | true=>exact hb d s1 σ f Q g e
  | false=>exact⟨.bl false,f,g,rfl,e⟩
 | _=>exact False.elim e
def LB(j:PE X a ta)(hb:PE X (.BoolOp .Or (b::bJ) pos) tb):PE X (.BoolOp .Or (a::b::bJ) pos) (Bk ta tb):=by
 intro d s σ H Q I h;refine BoolOp_or (az (j d s σ H _ I h) λv s1 ⟨x,f,g,i,e⟩=>?_);cases x with
 | bl c =>
  cases i;refine wpAny_truthy_bool ?_;cases c with
  | false=>exact hb d s1 σ f Q g e
  | true=>exact⟨.bl true,f,g,rfl,e⟩
 | _=>exact False.elim e
def LC(i:PE X a ta):PE X (.UnaryOp .Not a pos) (Bl ta):=by
 intro b s σ H Q I h;refine UnaryOp_ (az (i b s σ H _ I h) λv s1 ⟨x,e,g,f,d⟩=>?_);cases x with
 | bl c =>
  cases f;exact not_of (wpAny_truthy_bool ⟨.bl (!c),e,g,Z,d⟩)
 | _=>exact False.elim d
def mB(t:TE):TT:=λσ H Q=>t σ H λx a=>match x with
 | .bl c=>Q c a
 | _=>False
def KK{e:Expr}{t:TE}(h:PE X e t)(i:∀whole,isTrue e X.env whole=(do let v <- whole;standAt e.pos;holding [v] (truthy v)):=by intro _;rfl):PT X e (mB t):=by
 intro a s σ H Q I hw;refine isTrue_plain (az (h a s σ H _ I hw) λv s1 ⟨x,d,g,f,b⟩=>?_) (i _);cases x with
 | bl c =>
  cases f;exact wpAny_truthy_bool ⟨d,g,b⟩
 | _=>exact False.elim b
def KO{e:CmpOp}{r:R2}(ho:be X (compareOp e) r)(o:PE X a ta)(hb:PE X b tb)(g:behindInMarks e b=false):PT X (.Compare a [e] [b] pos) (mB (hZ r ta tb)):=by
 intro d s σ H Q I h;refine wpAny_isTrue_Compare1 (az (o d s σ H _ I h) λv s1 ⟨x,G,l,j,B⟩=>az (hb d s1 σ G _ l B) λu p ⟨y,F,C,q,D⟩ =>
  az (ho d p σ F x y v u _ C j q D) λc J ⟨z,m,i,n,f⟩=>?_) g
 cases z with
 | bl k =>
  cases n;exact wpAny_truthy_bool ⟨m,i,f⟩
 | _=>exact False.elim f
def pK(r d:R2)(e tb c:TE):TE:=λσ H Q=>e σ H λx g=>tb σ g λy f=>r x y f λz a=>match z with
 | .bl k=>if k=true then c σ a λh b=>d y h b Q else Q (.bl false) a
 | _=>False
def LH{c:Expr}{l:TE}{i f:CmpOp}{r n:R2}(ho:be X (compareOp i) r)(g:be X (compareOp f) n)(F:PE X a ta)(hb:PE X b tb)(R:PE X c l)
 (U:lastMarks [i,f] [b,c]=false:=by with_unfolding_all rfl):PE X (.Compare a [i,f] [b,c] pos) (pK r n ta tb l):=by
 intro e s σ H Q I h;refine Compare_chain (az (F e s σ H _ I h) λv s1 ⟨x,G,D,M,Y⟩=>chain_link (az (hb e s1 σ G _ D Y) λu W ⟨y,H2,B,o,q2⟩ =>
  az (ho e W σ H2 x y v u _ B M o q2) λd s3 ⟨z,m,p,q,j⟩=>?_)) U
 cases z with
 | bl k =>
  cases q;refine wpAny_truthy_bool ?_;cases k with
  | false=>exact ite_ff ⟨.bl false,m,p,rfl,j⟩
  | true=>exact ite_tt (chain_last (az (R e s3 σ m _ p j) λJ O ⟨V,N,L,C,S⟩=>g e O σ N y V u J Q L o C S))
 | _=>exact False.elim j
def KP{c:Expr}{l:TE}{i f:CmpOp}{r n:R2}(ho:be X (compareOp i) r)(g:be X (compareOp f) n)(J:PE X a ta)(hb:PE X b tb)(U:PE X c l)
 (Y:lastMarks [i,f] [b,c]=false:=by with_unfolding_all rfl):PT X (.Compare a [i,f] [b,c] pos) (mB (pK r n ta tb l)):=by
 intro e s σ H Q I h;refine isTrue_chain (az (J e s σ H _ I h) λv s1 ⟨x,L,G,O,q1⟩=>test_link (az (hb e s1 σ L _ G q1) λu s2 ⟨y,H2,D,o,q2⟩ =>
  az (ho e s2 σ H2 x y v u _ D O o q2) λd s3 ⟨z,m,p,C,j⟩=>?_)) Y
 cases z with
 | bl k =>
  cases C;refine wpAny_truthy_bool ?_;cases k with
  | false=>exact ite_ff ⟨m,p,j⟩
  | true =>
   refine ite_tt (test_last (az (U e s3 σ m _ p j) λM S ⟨z',R,N,F,V⟩=>az (g e S σ R y z' u M _ N o F V) λd' s5 ⟨z2,B,I5,W,q⟩=>?_));cases z2 with
   | bl k2 =>
    cases W;exact wpAny_truthy_bool ⟨B,I5,q⟩
   | _=>exact False.elim q
 | _=>exact False.elim j
def sZ(K:W.Frag)(t:TE):TT:=λσ H Q=>t σ H λx a=>match x with
 | .non=>Q false a
 | .bl c=>Q c a
 | .int i=>Q (i != 0) a
 | .ref p=>∃xs,(aE K a p xs\/bv K a p xs)/\Q (!xs.isEmpty) a
 | _=>False
def KL{e:Expr}{t:TE}(h:PE X e t)(j:∀whole,isTrue e X.env whole=(do let v <- whole;standAt e.pos;holding [v] (truthy v)):=by intro _;rfl):PT X e (sZ X.K t):=by
 intro a s σ H Q I hw;refine isTrue_plain (az (h a s σ H _ I hw) λv s1 ⟨x,d,g,f,b⟩=>?_) (j _);cases x with
 | non=>exact mv a s1 σ d _ v Q g f ⟨false,rfl,b⟩
 | bl c=>exact mv a s1 σ d _ v Q g f ⟨c,rfl,b⟩
 | int i=>exact mv a s1 σ d _ v Q g f ⟨i != 0,rfl,b⟩
 | ref p =>
  obtain⟨xs,hx,b⟩:=b;rcases hx with hx|hx
  ·exact mv a s1 σ d _ v Q g f ⟨_,.inl ⟨xs,hx,Z⟩,b⟩
  ·exact mv a s1 σ d _ v Q g f ⟨_,.inr (.inl ⟨xs,hx,Z⟩),b⟩
 | _=>exact False.elim b
end
section
variable {X:Cx}{a b:Expr}{ta tb:TE}{pos:Pos}
def gI(C:Int->Int->Prop)(g:Int->Int->V):R2:=λx y H Q=>match x,y with
 | .int i,.int j=>C i j/\Q (g i j) H
 | _,_=>False
def lY(g:Int->Int->V):R2:=λx y H Q=>match x,y with
 | .int i,.int j=>Q (g i j) H
 | _,_=>False
def m8{f:Value->Value->Sem Value}{g:Int->Int->V}(h:be X f (ib g)):be X f (lY g):=h.imp λx y H Q q=>by
 cases x<;>cases y<;>first|exact False.elim q|exact⟨_,_,rfl,rfl,q⟩
def Cv{f:Value->Value->Sem Value}{C:Int->Int->Prop}{g:Int->Int->V}(h:be X f (rI C g)):be X f (gI C g):=h.imp λx y H Q q=>by
 cases x<;>cases y<;>first|exact False.elim q|exact⟨_,_,rfl,rfl,q.1,q.2⟩
def dw:be X (binaryOp .Sub) (lY λi j=>.int (i-j)):=m8 J8
def m6:be X (binaryOp .Mod) (gI (λ_ j=>0<j) λi j=>.int (i%j)):=Cv A6
def c7:be X (compareOp .Lt) (lY λi j=>.bl (decide (i<j))):=m8 Kd
def dE:be X (compareOp .LtE) (lY λi j=>.bl (decide (i<=j))):=m8 Ke
def eT:be X (compareOp .Gt) (lY λi j=>.bl (decide (j<i))):=m8 Kh
def Cr:be X (compareOp .GtE) (lY λi j=>.bl (decide (j<=i))):=m8 Ki
def Bm(j:Int)(a:TE):TE:=λσ H Q=>a σ H λx b=>match x with
 | .int i=>Q (.int (i/j)) b
 | _=>False
def pJ(j:Int)(a:TE):TE:=λσ H Q=>a σ H λx b=>match x with
 | .int i=>Q (.int (i%j)) b
 | _=>False
def LF{j:Int}{k:Nat}{p:Pos}(n:PE X a ta)(m:0<j/\j<1073741824:=by decide):PE X (.BinOp a .FloorDiv (.Constant (.int j) k p) pos) (Bm j ta):=by
 intro b s σ H Q I h;refine wpAny_BinOp (az (n b s σ H _ I h) λv s1 ⟨x,e,l,g,d⟩=>?_);refine az (ph b s1 σ e (λy c=>y=.int j/\c=e) l ⟨rfl,rfl⟩) λu o ⟨y,c,r,q,f,z⟩=>?_;subst f z;cases x with
 | int i=>exact Kj b o σ c (.int i) (.int j) v u Q r g q ⟨i,j,rfl,rfl,m,d⟩
 | _=>exact False.elim d
def LD{j:Int}{k:Nat}{p:Pos}(n:PE X a ta)(m:0<j:=by decide):PE X (.BinOp a .Mod (.Constant (.int j) k p) pos) (pJ j ta):=by
 intro b s σ H Q I h;refine wpAny_BinOp (az (n b s σ H _ I h) λv s1 ⟨x,e,l,g,d⟩=>?_);refine az (ph b s1 σ e (λy c=>y=.int j/\c=e) l ⟨rfl,rfl⟩) λu o ⟨y,c,r,q,f,z⟩=>?_;subst f z;cases x with
 | int i=>exact A6 b o σ c (.int i) (.int j) v u Q r g q ⟨i,j,rfl,rfl,m,d⟩
 | _=>exact False.elim d
def rX:n6 X (unaryOp .USub) (λx H Q=>match x with|.int i=>Q (.int (-i)) H|_=>False):=by
 intro a s σ H x v Q I b q;cases x with
 | int i=>exact E3 a s σ H _ v Q I b ⟨i,rfl,q⟩
 | _=>exact False.elim q
end
section
variable {X:Cx}
def PH{c:List (Addr × Obj)}{s:fy}{σ:St}{H:Hp}{l b:Addr}{xs zs:List V}{Q:VK}(I:af X c σ H s)(y:aE X.K H l xs)(hb:aE X.K H b zs)(hz:xs.length+zs.length<=sizeLine)
 (q:∀p H',bA H p (.lst (xs++zs)) H'->Q (.ref p) H'):wpAny (model X.prog X.w) X.A (binaryOp .Add (.ref l) (.ref b)) (EP X c σ Q) X.xe s:=by
 obtain⟨d,r,pl,_⟩:=I.list y;obtain⟨a,u,i,_⟩:=I.list hb;have C:=r.length;have D:=u.length;obtain⟨⟨cls,v,data,x⟩,ho,o,n,hd⟩:=pl.isList;obtain⟨⟨m,h,j,k⟩,g,f,z,e⟩:=i.isList;simp only at o hd f e;subst o hd f e;have B:d.toArray++a.toArray=(d++a).toArray:=by simp
 refine concat_meets ⟨_,ho,rfl⟩ ⟨_,g,rfl⟩ noFill_list_add seq_list_add PySem.F.slot_list_add PySem.F.entry_list_add (PySem.F.args_list_add_2 _ _) (list_addW l b d.toArray a.toArray n z v h x k (by rw[TB,TB];omega)) ⟨ho,g,?_⟩;rw[B];exact⟨.ref _,_,I.lnew (t':=s.toks) (r.append u) (by rw[Tq];omega),rfl,q _ _ (.mk' I.fresh)⟩
def ua(K:W.Frag):R2:=λx y H Q=>match x,y with
 | .int i,.int j=>Q (.int (i+j)) H
 | .ref l,.ref b=>∃xs zs,aE K H l xs/\aE K H b zs/\xs.length+zs.length<=sizeLine/\∀p H',bA H p (.lst (xs++zs)) H'->Q (.ref p) H'
 | _,_=>False
def OL:be X (binaryOp .Add) (ua X.K):=by
 intro a s σ H x y v u Q I d c q;cases x with
 | int i =>
  cases y with
  | int j=>exact Kk a s σ H _ _ v u Q I d c ⟨i,j,rfl,rfl,q⟩
  | _=>exact False.elim q
 | ref l =>
  cases y with
  | ref b =>
   obtain⟨xs,zs,f,e,g,q⟩:=q;cases d;cases c;exact PH I f e g q
  | _=>exact False.elim q
 | _=>exact False.elim q
def ON:R2:=λx y H Q=>match x,y with
 | .int i,.int j=>rO i j/\Q (.int (i*j)) H
 | .ref l,.int k=>∃xs,H l=some (.lst xs)/\-(2 ^ 63)<=k/\k<2 ^ 63/\xs.length*k.toNat<=sizeLine/\∀p H',bA H p (.lst (List.replicate k.toNat xs).flatten) H'->Q (.ref p) H'
 | _,_=>False
def fi:be X (binaryOp .Mult) ON:=by
 intro a s σ H x y v u Q I c b q;cases x with
 | int i =>
  cases y with
  | int j=>exact Kc a s σ H _ _ v u Q I c b ⟨i,j,rfl,rfl,q.1,q.2⟩
  | _=>exact False.elim q
 | ref l =>
  cases y with
  | int k =>
   obtain⟨xs,g,f,h,d,q⟩:=q;exact J9 a s σ H _ _ v u Q I c b ⟨l,k,xs,Z,Z,g,f,h,d,λp e=>q p _ (.mk' e)⟩
  | _=>exact False.elim q
 | _=>exact False.elim q
def tE(x:V)(c:Bool):Bool:=match x with
 | .bl d=>d == c
 | _=>false
def Ao{x:V}{v:Value}{c:Bool}(r:aO x v)(hf:∀f,x ≠ .ty f):plainIs v (.bool c)=true/\(v == Value.bool c)=tE x c:=by
 cases x with
 | non=>cases r;exact⟨rfl,rfl⟩
 | bl d=>cases r;exact⟨rfl,by cases d<;>cases c<;>rfl⟩
 | int _=>obtain⟨t,rfl⟩:=r;exact⟨rfl,rfl⟩
 | str _=>obtain⟨t,rfl⟩:=r;exact⟨rfl,rfl⟩
 | byt _=>obtain⟨t,rfl⟩:=r;exact⟨rfl,rfl⟩
 | flt _=>obtain⟨t,rfl⟩:=r;exact⟨rfl,rfl⟩
 | ref _=>cases r;exact⟨rfl,rfl⟩
 | ty f=>exact Wx rfl (hf f)
def Cu(neg:Bool):R2:=λx y H Q=>match y with
 | .non=>Q (.bl (if neg then !decide (x=.non) else decide (x=.non))) H
 | .bl c=>(∀f,x ≠ .ty f)/\Q (.bl (if neg then !tE x c else tE x c)) H
 | _=>False
def gN:be X (compareOp .Is) (Cu false):=by
 intro a s σ H x y v u Q I d b q;cases y with
 | non=>exact Kf a s σ H x _ v u Q I d b ⟨rfl,q⟩
 | bl c =>
  cases b;obtain⟨f,e⟩:=Ao (c:=c) d q.1;exact wpAny_is_plain f ⟨.bl _,H,I,by rw[e];rfl,q.2⟩
 | _=>exact False.elim q
def js:be X (compareOp .IsNot) (Cu true):=by
 intro a s σ H x y v u Q I d b q;cases y with
 | non=>exact Ka a s σ H x _ v u Q I d b ⟨rfl,q⟩
 | bl c =>
  cases b;obtain⟨f,e⟩:=Ao (c:=c) d q.1;exact wpAny_isNot_plain f ⟨.bl _,H,I,by rw[e];rfl,q.2⟩
 | _=>exact False.elim q
end
def c6(K:W.Frag)(H:Hp)(d:PyData)(x:V):Prop:=∀(X:Cx) (a:List (Addr × Obj)) (σ:St) (s:fy) (u:Value),X.K=K->af X a σ H s->aO x u->∃as,Reads s.heap u d as
def fS(K:W.Frag)(H:Hp)(ds:List PyData)(xs:List V):Prop:=∀(X:Cx) (a:List (Addr × Obj)) (σ:St) (s:fy) (us:List Value),X.K=K->af X a σ H s->aJ xs us->∃as,ReadsAll s.heap us ds as
section
variable {K:W.Frag}{H:Hp}
def c6.non:c6 K H .none .non:=λ_ _ _ _ _ _ _ r=>by cases r;exact⟨_,.none⟩
def c6.int(i:Int):c6 K H (.int i) (.int i):=λ_ _ _ _ _ _ _ r=>by obtain⟨t,rfl⟩:=r;exact⟨_,.int i t⟩
def c6.str(x:Str):c6 K H (.str x) (.str x):=λ_ _ _ _ _ _ _ r=>by obtain⟨t,rfl⟩:=r;exact⟨_,.str x t⟩
def fS.nil:fS K H [] []:=λ_ _ _ _ _ _ _ r=>by cases r;exact⟨_,.nil⟩
def fS.cons{d:PyData}{ds:List PyData}{x:V}{xs:List V}(a:c6 K H d x)(b:fS K H ds xs):fS K H (d::ds) (x::xs):=λX c σ s us e I r=>by
 cases r with
 | cons r1 r2 =>
  obtain⟨as,f⟩:=a X c σ s _ e I r1;obtain⟨bs,hb⟩:=b X c σ s _ e I r2;exact⟨_,.cons f hb⟩
def c6.lst{ds:List PyData}{p:Addr}{xs:List V}(h:aE K H p xs)(b:fS K H ds xs):c6 K H (.list ds) (.ref p):=λX a σ s u e I r=>by
 cases r;subst e;obtain⟨c,d,⟨o,n,ho,f,_,hd⟩,_⟩:=I.list h;obtain⟨as,g⟩:=b X a σ s c rfl I d;exact⟨_,.list ho f hd (by simpa using g)⟩
theorem fS.ints:∀ns:e7,fS K H (ns.map PyData.int) (ns.map V.int)
 | []=>.nil
 | n::ns=>.cons (.int n) (fS.ints ns)
end
open SeqAt (shaped)
def m9(K:W.Frag)(neg:Bool):R2:=λx y H Q=>match x,y with
 | .int i,.int j=>Q (.bl (if neg then !decide (i=j) else decide (i=j))) H
 | .bl a,.bl b=>Q (.bl (if neg then !(a == b) else a == b)) H
 | _,_=>∃d e,c6 K H d x/\c6 K H e y/\shaped d=true/\shaped e=true/\Q (.bl (if neg then !d.eqv e else d.eqv e)) H
section
variable {X:Cx}
def CL{a:List (Addr × Obj)}{s:fy}{σ:St}{H:Hp}{x y:V}{v u:Value}{Q:VK}{neg:Bool}(c:X.A.units+64<cLine)(I:af X a σ H s)(k:aO x v)(i:aO y u)
 (q:∃d e,c6 X.K H d x/\c6 X.K H e y/\shaped d=true/\shaped e=true/\Q (.bl (if neg then !d.eqv e else d.eqv e)) H) :
 wpAny (model X.prog X.w) X.A (compareOp (if neg then .NotEq else .Eq) v u) (EP X a σ Q) X.xe s:=by
 obtain⟨d,e,hd,j,g,f,q⟩:=q;obtain⟨as,b⟩:=hd X a σ s v rfl I k;obtain⟨bs,h⟩:=j X a σ s u rfl I i;cases neg with
 | true=>exact ne_dataH b h g f c ⟨.bl _,H,I,rfl,q⟩
 | false=>exact eq_dataH b h g f c ⟨.bl _,H,I,rfl,q⟩
def CO{i j:Int}:decide (V.int i=V.int j)=decide (i=j):=by simp
def OE(e:X.A.units+64<cLine):be X (compareOp .Eq) (m9 X.K false):=by
 intro a s σ H x y v u Q I c b q;have D:=λd=>CL (neg:=false) (Q:=Q) e I c b d;cases x with
 | int i =>
  cases y with
  | int j=>exact A7 a s σ H _ _ v u Q I c b ⟨rfl,by rw[CO];exact q⟩
  | _=>exact D q
 | bl i =>
  cases y with
  | bl j=>exact A7 a s σ H _ _ v u Q I c b ⟨rfl,by rw[qx];exact q⟩
  | _=>exact D q
 | _=>exact D q
def Oo(e:X.A.units+64<cLine):be X (compareOp .NotEq) (m9 X.K true):=by
 intro a s σ H x y v u Q I c b q;have D:=λd=>CL (neg:=true) (Q:=Q) e I c b d;cases x with
 | int i =>
  cases y with
  | int j=>exact AZ a s σ H _ _ v u Q I c b ⟨rfl,by rw[CO];exact q⟩
  | _=>exact D q
 | bl i =>
  cases y with
  | bl j=>exact AZ a s σ H _ _ v u Q I c b ⟨rfl,by rw[qx];exact q⟩
  | _=>exact D q
 | _=>exact D q
def qc(K:W.Frag)(neg:Bool):R2:=λx y H Q=>match y with
 | .ref p=>∃xs,(aE K H p xs\/bv K H p xs)/\fL x=true/\xs.all fL=true/\Q (.bl (if neg then !bB x xs else bB x xs)) H
 | _=>False
def OC:be X (compareOp .In) (qc X.K false):=Kg.imp λx y H Q q=>by
 cases y with
 | ref p=>obtain⟨xs,b,a,c,q⟩:=q;exact⟨p,xs,Z,b,a,c,q⟩
 | _=>exact False.elim q
def On:be X (compareOp .NotIn) (qc X.K true):=Kb.imp λx y H Q q=>by
 cases y with
 | ref p=>obtain⟨xs,b,a,c,q⟩:=q;exact⟨p,xs,Z,b,a,c,q⟩
 | _=>exact False.elim q
def fk(K:W.Frag):R2:=λx y H Q=>match x,y with
 | .ref p,.int i=>∃xs v,(aE K H p xs\/bv K H p xs)/\cY xs i=some v/\Q v H
 | _,_=>False
def Os:gh X (fk X.K):=(Mf.or Me).imp λx y H Q q=>by
 cases x with
 | ref p =>
  cases y with
  | int i =>
   obtain⟨xs,v,a,b,q⟩:=q;rcases a with a|a
   ·exact .inl ⟨p,xs,i,v,Z,Z,a,b,q⟩
   ·exact .inr ⟨p,xs,i,v,Z,Z,a,b,q⟩
  | _=>exact False.elim q
 | _=>exact False.elim q
def rf{α:Type}{xs:List α}{i:Int}(b:0<=i)(c:i<xs.length):∃v,v∈xs/\cY xs i=some v/\xs[i.toNat]? = some v:=by
 have a:i.toNat<xs.length:=by omega
 refine⟨xs[i.toNat],VL a,?_,by simp[a]⟩;have e:xs[i.toNat]? = some xs[i.toNat]:=by simp[a]
 have:=aH e
 rwa [VM b]at this
def Ct(K:W.Frag):V->Option Int->Option Int->Hp->VK->Prop:=λx lo b H Q=>match x with
 | .ref a=>∃xs,aE K H a xs/\∀p H',bA H p (.lst (d7 xs lo b)) H'->Q (.ref p) H'
 | _=>False
def Oe:iW X (Ct X.K):=by
 intro b s σ H x v c e lo g h Q I i hs pl j q;cases x with
 | ref a=>obtain⟨xs,f,q⟩:=q;exact GV b s σ H _ v c e lo g h Q I i hs pl j ⟨a,xs,Z,f,λp d=>q p _ (.mk' d)⟩
 | _=>exact False.elim q
def tY(K:W.Frag):List V->Hp->VK->Prop:=λxs H Q=>match xs with
 | [.ref p]=>∃ys,(aE K H p ys\/bv K H p ys)/\Q (.int ys.length) H
 | _=>False
def PY:cy X (.builtin "len") (tY X.K):=PL.imp λxs H Q q=>by
 unfold tY at q
 split at q
 ·obtain⟨a,b,q⟩:=q;exact⟨_,a,Z,b,q⟩
 ·exact q.elim
def tX(K:W.Frag):List V->Hp->VK->Prop:=λxs H Q=>match xs with
 | [.ref p]=>∃ys,(aE K H p ys\/bv K H p ys)/\∀l H',bA H l (.lst ys) H'->Q (.ref l) H'
 | _=>False
def PX:cy X (.type "list") (tX X.K):=PK.imp λxs H Q q=>by
 unfold tX at q
 split at q
 ·obtain⟨b,a,q⟩:=q;exact⟨_,b,Z,a,λl c=>q l _ (.mk' c)⟩
 ·exact q.elim
def tZ:List V->Hp->VK->Prop:=λxs H Q=>match xs with
 | [.int i]=>Q (.int i) H
 | [.bl k]=>Q (.int (if k then 1 else 0)) H
 | _=>False
def ix:cy X (.type "int") tZ:=PM.imp λxs H Q q=>by
 unfold tZ at q
 split at q
 ·exact .inl ⟨_,Z,q⟩
 ·exact .inr ⟨_,Z,q⟩
 ·exact q.elim
def t0(K:W.Frag):List V->Hp->VK->Prop:=λxs H Q=>match xs with
 | [x,.ty T]=>∃t b,c9 K H x t/\W.kitOne K t (.type T)=some b/\Q (.bl b) H
 | [x,.ref C]=>∃t b,c9 K H x t/\W.kitOne K t (.ref C)=some b/\Q (.bl b) H
 | _=>False
def PZ:cy X (.builtin "isinstance") (t0 X.K):=by
 intro f s σ H xs us Q I r q;unfold t0 at q
 split at q
 ·obtain⟨t,b,e,c,q⟩:=q;obtain⟨u,h,rfl,a,d⟩:=yQ r;cases d;exact BD I a e c λg=>⟨.bl b,H,I.tok _,Z,q⟩
 ·obtain⟨t,b,e,c,q⟩:=q;obtain⟨u,h,rfl,a,d⟩:=yQ r;cases d;exact BD I a e c λg=>⟨.bl b,H,I.tok _,Z,q⟩
 ·exact q.elim
def Qj {x:Str} {T:String} {pos:Pos} (c:Gl X x) (a:X.mg x=none) (d:bootBuiltins x=some (.type T)) (b:x ≠ "__name__":=by decide) (hd:(x == ("__debug__" : Str))=false:=by decide):PE X (.Name x pos) (tC (.ty T)) :=
 J4 c a d rfl b hd
end
def dh:Expr->Bool
 | .Starred _ _=>true
 | _=>false
def cq{e:Expr}{es:List Expr}{env:Env}(h:dh e=false):starEach (e::es) env=(false,eval e env)::starEach es env:=by
 cases e<;>first|rfl|cases h
def du:List Expr->Bool
 | []=>true
 | e::r=>!dh e && du r
theorem gH{env:Env}{pos:Pos}:∀ {es:List Expr},du es=true->(backTo pos (starEach es env)).any (·.1)=false
 | [],_=>rfl
 | e::r,h=>by
  have h':(!dh e && du r)=true:=h;rw[T7]at h';have a:dh e=false:=by simpa using h'.1
  rw[cq a];show (false || (backTo pos (starEach r env)).any (·.1))=false;rw[Bool.false_or];exact gH h'.2
def dq{e:Expr}{es:List Expr}(h:du (e::es)=true):dh e=false/\du es=true:=by
 have h':(!dh e && du es)=true:=h;rw[T7]at h';exact⟨by simpa using h'.1,h'.2⟩
def AV{X:Cx}{e:Expr}{es:List Expr}{a:TE}{t:TA}(c:PE X e a)(b:PA X es t)(hs:dh e=false:=by rfl):PA X (e::es) (jG a t):=J6 c b (cq hs)
def qM:Expr->Option V
 | .Constant (.int i) _ _=>some (.int i)
 | .Constant (.bool b) _ _=>some (.bl b)
 | .Constant .none _ _=>some .non
 | .Constant (.str x) _ _=>some (.str x)
 | _=>none
def qL:List Expr->Option (List V)
 | []=>some []
 | e::r=>match qM e,qL r with
  | some v,some vs=>some (v::vs)
  | _,_=>none
def sd(vs:List V):TA:=λ_ H Q=>Q vs H
def JW{X:Cx}{e:Expr}{v:V}(h:qM e=some v):PE X e (tC v):=by
 unfold qM at h
 split at h
 ·cases h;exact ph
 ·cases h;exact AR
 ·cases h;exact AN
 ·cases h;exact AM
 ·cases h
def Px{e:Expr}{v:V}(h:qM e=some v):dh e=false:=by
 cases e<;>first|rfl|cases h
theorem AU{X:Cx}:∀ {es:List Expr} {vs:List V},qL es=some vs->PA X es (sd vs)
 | [],vs,h=>by
  cases h;exact AT
 | e::r,vs,h=>by
  unfold qL at h
  split at h
  ·rename_i v ws h1 h2;cases h;exact AV (JW h1) (AU h2) (Px h1)
  ·cases h
section
variable {X:Cx}{es:List Expr}{t:TA}{pos:Pos}
def sY(t:TA):TE:=λσ H Q=>t σ H λxs a=>xs.length<=sizeLine/\∀p H',bA a p (.tup xs) H'->Q (.ref p) H'
def mT(t:TA):TE:=λσ H Q=>t σ H λxs a=>xs.length<=sizeLine/\∀p H',bA a p (.lst xs) H'->Q (.ref p) H'
def LA{x1}(h:PA X es t):PE X (.Tuple es x1 pos) (sY t):=by
 intro a s σ H Q I f;refine wpAny_Tuple_spliced (az (h pos a s σ H _ I f) λus s1 ⟨xs,d,c,r,z,q⟩=>⟨by rw[<- r.length];exact z,?_⟩);have hf:d s1.heap.objs.size=none:=c.hok.fresh (Tp _);refine⟨.ref s1.heap.objs.size,upd d s1.heap.objs.size (.tup xs),c.laid (t':=s1.toks) (λb u e=>Tu _ e) (Tp _) ?_,Z,q _ _ (.mk' hf)⟩;exact⟨z,us,r,⟨_,T6 _ Z,Z,_,Z⟩⟩
def LE(h:PA X es t):PE X (.List es pos) (mT t):=by
 intro a s σ H Q I f;refine wpAny_List_spliced (az (h pos a s σ H _ I f) λus s1 ⟨xs,d,c,r,z,q⟩=>⟨by rw[<- r.length];exact z,?_⟩);have hf:d s1.heap.objs.size=none:=c.hok.fresh (Tp _);refine⟨.ref s1.heap.objs.size,upd d s1.heap.objs.size (.lst xs),c.laid (t':=s1.toks) (λb u e=>Tu _ e) (Tp _) ?_,Z,q _ _ (.mk' hf)⟩;exact⟨z,us,0,r,T6 _ Z⟩
def Bn:TE:=λ_ H Q=>∀p H',bA H p (.dK []) H'->Q (.ref p) H'
def LG:PE X (.Dict [] [] pos) Bn:=JU.imp λσ H Q q=>λp a=>q p _ (.mk' a)
end
def cX{Q:VK}{H:Hp}{a b:Bool}(k:Q (.bl a) H)(e:a=b):Q (.bl b) H:=e ▸ k
def tD:V->Bool
 | .int _=>true
 | .bl _=>true
 | _=>false
def BG:V->Bool
 | .bl _=>true
 | _=>false
inductive fQ (K:W.Frag) (H:Hp):V->Prop where
 | non:fQ K H .non
 | bl (b:Bool):fQ K H (.bl b)
 | int (i:Int):fQ K H (.int i)
 | str (x:Str):fQ K H (.str x)
 | lst {a:Addr} {xs:List V} (e:H a=some (.lst xs)):fQ K H (.ref a)
 | tup {a:Addr} {xs:List V} (e:H a=some (.tup xs)):fQ K H (.ref a)
 | dK {a:Addr} {kvs:List (aQ × V)} (e:H a=some (.dK kvs)):fQ K H (.ref a)
def fQ.isInt {K:W.Frag} {H:Hp} {v:V} (k:fQ K H v):∃ty,c9 K H v ty/\W.kitOne K ty (.type "int")=some (tD v):=by
 cases k with
 | non=>exact⟨_,.non,by with_unfolding_all rfl⟩
 | bl b=>exact⟨_,.bl b,by with_unfolding_all rfl⟩
 | int i=>exact⟨_,.int i,by with_unfolding_all rfl⟩
 | str x=>exact⟨_,.str x,by with_unfolding_all rfl⟩
 | lst e=>exact⟨_,.lst e,by with_unfolding_all rfl⟩
 | tup e=>exact⟨_,.tup e,by with_unfolding_all rfl⟩
 | dK e=>exact⟨_,.dK e,by with_unfolding_all rfl⟩
def fQ.isBl {K:W.Frag} {H:Hp} {v:V} (k:fQ K H v):∃ty,c9 K H v ty/\W.kitOne K ty (.type "bool")=some (BG v):=by
 cases k with
 | non=>exact⟨_,.non,by with_unfolding_all rfl⟩
 | bl b=>exact⟨_,.bl b,by with_unfolding_all rfl⟩
 | int i=>exact⟨_,.int i,by with_unfolding_all rfl⟩
 | str x=>exact⟨_,.str x,by with_unfolding_all rfl⟩
 | lst e=>exact⟨_,.lst e,by with_unfolding_all rfl⟩
 | tup e=>exact⟨_,.tup e,by with_unfolding_all rfl⟩
 | dK e=>exact⟨_,.dK e,by with_unfolding_all rfl⟩
def sz{n:Nat}(h:Nat.ble n 1000=true):n<=sizeLine:=TH (TQ h) (by decide)
def cD{n:Nat}(h:n<=100000):n<=sizeLine:=TH h (by decide)
def fV{n:Nat}(h:n<=100000):n<sizeLine:=Nat.lt_of_le_of_lt h (by decide)
section
variable {X:Cx}
def At(bs:List Bool):(List.range bs.length).map (λi=>(bs[i]?).getD false)=bs:=by
 apply List.ext_getElem
 ·simp
 ·intro i b a;simp[T4 a]
def Id(bs:List Bool):((List.range bs.length).all λi=>(bs[i]?).getD false)=bs.all id:=by
 conv=>rhs;rw[<- At bs]
 rw[List.all_map]
 rfl
def Ic(bs:List Bool):((List.range bs.length).any λi=>(bs[i]?).getD false)=bs.any id:=by
 conv=>rhs;rw[<- At bs]
 rw[List.any_map]
 rfl
def lZ(K:W.Frag)(one:Bool):List V->Hp->VK->Prop:=λxs H Q=>match xs with
 | [.ref p]=>∃bs:List Bool,aE K H p (bs.map V.bl)/\Q (.bl (if one then bs.any id else bs.all id)) H
 | _=>False
def C9{prog:Program}{w:World}{A:Around}{bs:List Bool}{a:List Value}(r:aJ (bs.map V.bl) a):TruthOf prog w A (λi v=>a.toArray[i]? = some v) λi=>(bs[i]?).getD false:=λi v s Q E hP hQ=>by
 dsimp only at hP hQ;have f:i<a.length:=by
  have:=(Vk.mp hP).1;simpa using this
 have d:=r.length;rw[To]at d;have hb:i<bs.length:=by omega
 obtain⟨u,c,b⟩:=r.get (i:=i) (x:=V.bl bs[i]) (by simp[hb]);have e:a.toArray[i]? = some u:=by simpa using c
 rw[e]at hP;cases hP;cases b;rw[T4 hb]at hQ;exact wpAny_truthy_bool hQ
def P2 (h:X.calm=true):cy X (.builtin "all") (lZ X.K false):=by
 intro g s σ H xs us Q I r q;unfold lZ at q
 split at q
 ·rename_i p;obtain⟨bs,m,q⟩:=q;obtain⟨u,rfl,v⟩:=hX r;cases v;obtain⟨c,f,pl,_⟩:=I.list m;have d:=f.length;rw[To]at d;have a:p≠s.heap.objs.size:=by
   obtain⟨o,n,e,_⟩:=pl;exact Tx (Tr e)
  refine call_all_walk (wpAny_pyIter_list pl.isList ⟨s.heap.objs.size,_,_,_,_,_,λi=>(bs[i]?).getD false,rfl,Walks.list (A:=X.A.in1) (show X.A.in1.handled=none from I.ok.hd h) s.heap.objs.size p a c.toArray,⟨⟨_,T6 _ rfl,rfl,rfl⟩,?_⟩,C9 f,λh' j k=>?_⟩)
  ·exact pl.isList.at λo e=>Tu _ e
  ·refine⟨.bl _,H,I.kept (h':=h') (t':=j) λb o e=>k b o (λz=>?_) (Tu _ e),?_,q⟩
   ·have l:b=s.heap.objs.size:=by simpa using z
    exact Wx (Tr e) (by rw[l];exact Ua _)
   ·show Value.bool _=Value.bool _;rw[TB,<- d,Id]
    rfl
 ·exact q.elim
def P1 (h:X.calm=true):cy X (.builtin "any") (lZ X.K true):=by
 intro g s σ H xs us Q I r q;unfold lZ at q
 split at q
 ·rename_i p;obtain⟨bs,m,q⟩:=q;obtain⟨u,rfl,v⟩:=hX r;cases v;obtain⟨c,f,pl,_⟩:=I.list m;have d:=f.length;rw[To]at d;have a:p≠s.heap.objs.size:=by
   obtain⟨o,n,e,_⟩:=pl;exact Tx (Tr e)
  refine call_any_walk (wpAny_pyIter_list pl.isList ⟨s.heap.objs.size,_,_,_,_,_,λi=>(bs[i]?).getD false,rfl,Walks.list (A:=X.A.in1) (show X.A.in1.handled=none from I.ok.hd h) s.heap.objs.size p a c.toArray,⟨⟨_,T6 _ rfl,rfl,rfl⟩,?_⟩,C9 f,λh' j k=>?_⟩)
  ·exact pl.isList.at λo e=>Tu _ e
  ·refine⟨.bl _,H,I.kept (h':=h') (t':=j) λb o e=>k b o (λz=>?_) (Tu _ e),?_,q⟩
   ·have l:b=s.heap.objs.size:=by simpa using z
    exact Wx (Tr e) (by rw[l];exact Ua _)
   ·show Value.bool _=Value.bool _;rw[TB,<- d,Ic]
    rfl
 ·exact q.elim
def tT(K:W.Frag):List V->Hp->VK->Prop:=λxs H Q=>match xs with
 | [.ref p]=>∃ys,aE K H p ys/\∀l H',bA H l (.tup ys) H'->Q (.ref l) H'
 | _=>False
def PR:cy X (.type "tuple") (tT X.K):=PJ.imp λxs H Q q=>by
 unfold tT at q
 split at q
 ·obtain⟨b,a,q⟩:=q;exact⟨_,b,Z,.inl ⟨a,λl c=>q l _ (.mk' c)⟩⟩
 ·exact q.elim
def Cz:V->List V->Hp->VK->Prop:=λx vs H Q=>match x,vs with
 | .ref l,[y]=>∃xs,H l=some (.lst xs)/\xs.length<sizeLine/\Q .non (upd H l (.lst (xs++[y])))
 | _,_=>False
def jo:gf X "list.append" Cz:=by
 intro a s σ H x vs v us Q I e b q;unfold Cz at q
 split at q
 ·obtain⟨xs,d,c,q⟩:=q;exact KQ a s σ H _ _ v us Q I e b ⟨_,xs,_,Z,Z,d,c,q⟩
 ·exact q.elim
def t5(K:W.Frag):V->List V->Hp->VK->Prop:=λx vs H Q=>match x,vs with
 | .ref l,[.ref b]=>∃xs zs,H l=some (.lst xs)/\H b=some (.lst zs)/\xs.length+zs.length<=sizeLine/\Q .non (upd H l (.lst (xs++zs)))
 | _,_=>False
def Ly:gf X "list.extend" (t5 X.K):=by
 intro a s σ H x vs v us Q I f b q;unfold t5 at q
 split at q
 ·obtain⟨xs,zs,d,c,e,q⟩:=q;exact KN a s σ H _ _ v us Q I f b ⟨_,_,xs,zs,Z,Z,d,c,e,q⟩
 ·exact q.elim
end
structure bz (P:Program) (w:World) (K:W.Frag) (mg:Str->Option Value) (base:Heap) (x:Str) (k:Nat) (f:Addr) (fd:FuncData) (ps:List Str) (sp:Sp):Prop where
 gm:mg x=some (.ref f)
 kp:W.keepIn K (.ref f)=true
 b:ax K fd ps []
 ok:bL P w K mg base bY k f fd ps sp
section
variable {X:Cx}{k j:Nat}{f:Addr}{fd:FuncData}{ps:List Str}{sp:Sp}{x:Str}{p pos:Pos}{e:Expr}{es:List Expr}{t:TA}
def PQ(F:bz X.prog X.w X.K X.mg X.base x j f fd ps sp)(g:bO k X.A)(i:PA X (e::es) t)(h:j<=k:=by decide)(d:Gl X x:=by rfl)
 (a:(x == ("__debug__" : Str))=false:=by decide) (c:du (e::es)=true:=by rfl) :
 PE X (.Call (.Name x p) (e::es) [] pos) (sf sp [] E0 t):=J1 F.ok (g.mono h) d F.gm F.kp F.b .nil J5 i a (cq (dq c).1) (gH (dq c).2)
def PP{id:String}{r:List V->Hp->VK->Prop}(f:cy X (.builtin id) r)(c:X.mg x=none)(h:bootBuiltins x=some (.builtin id))(g:PA X (e::es) t)(d:Gl X x:=by rfl)(hx:x ≠ "__name__":=by decide)(a:(x == ("__debug__" : Str))=false:=by decide)
 (b:du (e::es)=true:=by rfl):PE X (.Call (.Name x p) (e::es) [] pos) (jH r t):=J0 f d c h g hx a (cq (dq b).1) (gH (dq b).2)
def PN{T:String}{r:List V->Hp->VK->Prop}(f:cy X (.type T) r)(c:X.mg x=none)(h:bootBuiltins x=some (.type T))(g:PA X (e::es) t)(d:Gl X x:=by rfl)(hx:x ≠ "__name__":=by decide)(a:(x == ("__debug__" : Str))=false:=by decide)
 (b:du (e::es)=true:=by rfl):PE X (.Call (.Name x p) (e::es) [] pos) (jH r t):=JZ f d c h g hx a (cq (dq b).1) (gH (dq b).2)
def gi{n:Int}{u:Tok}(a:X.mg x=some (.int n u))(b:Gl X x:=by rfl)(hd:(x == ("__debug__" : Str))=false:=by decide):PE X (.Name x pos) (tC (.int n)):=AQ b a ⟨u,rfl⟩ hd
end
def gb(cells:List (Str × Addr)):List (Str × NameKind)->List (Str × Addr)->List (Str × Addr)
 | [],acc=>acc
 | (n,k)::r,acc=>gb cells r (if (k == NameKind.free)=true then (n,(cells.lookup n).getD 0)::acc else acc)
def C1{scope:Scope}{env:Env}(h:∀n,(n,NameKind.free)∈scope.names->∃c,env.cells.lookup n=some c):closureFor scope env=pure (gb env.cells scope.names []):=by
 unfold closureFor;have key:∀(l:List (Str × NameKind)) (a:List (Str × Addr)),(∀n,(n,NameKind.free)∈l->∃c,env.cells.lookup n=some c) ->
  (forIn l a (λx __s=>match x with
    | (name,kind) =>
     if (kind == NameKind.free)=true then do
      let __do_lift <- cellOf env name
      pure (ForInStep.yield ((name,__do_lift)::__s))
     else pure (ForInStep.yield __s)):Sem (List (Str × Addr)))=pure (gb env.cells l a):=by
  intro l
  induction l with
  | nil=>intro a _;rfl
  | cons x r ih =>
   intro a hf;obtain⟨n,k⟩:=x;have d:∀n,(n,NameKind.free)∈r->∃c,env.cells.lookup n=some c:=λn g=>hf n (TW _ g);rw[List.forIn_cons];by_cases hk:(k == NameKind.free)=true
   ·have b:k=NameKind.free:=by simpa using hk
    subst b;obtain⟨c,f⟩:=hf n TV;have e:cellOf env n=pure c:=by unfold cellOf;rw[f]
    show (if (NameKind.free == NameKind.free)=true then _ else _) >>= _=_;rw[Ww hk,e];show (forIn r ((n,c)::a) _:Sem (List (Str × Addr)))=_;rw[ih _ d];show _=pure (gb env.cells r (if (NameKind.free == NameKind.free)=true then (n,(List.lookup n env.cells).getD 0)::a else a));rw[Ww hk,f]
    rfl
   ·show (if (k == NameKind.free)=true then _ else _) >>= _=_;rw[Wv hk];show (forIn r a _:Sem (List (Str × Addr)))=_;rw[ih _ d];show _=pure (gb env.cells r (if (k == NameKind.free)=true then _ else a));rw[Wv hk]
 show (forIn scope.names [] _ >>= _:Sem (List (Str × Addr)))=_;rw[key _ _ h]
 rfl
theorem wB{cells:List (Str × Addr)}:∀(l:List (Str × NameKind)) (a:List (Str × Addr)) (x:Str) (c:Addr),(gb cells l a).lookup x=some c->(∀n,(n,NameKind.free)∈l->∃c,cells.lookup n=some c)->((x,NameKind.free)∈l/\cells.lookup x=some c)\/a.lookup x=some c
 | [],a,x,c,h,_=>.inr h
 | (n,k)::r,a,x,c,h,hf=>by
  have g:∀n,(n,NameKind.free)∈r->∃c,cells.lookup n=some c:=λn i=>hf n (TW _ i);rcases wB r _ x c h g with ⟨h1,h2⟩|h1
  ·exact .inl ⟨TW _ h1,h2⟩
  ·by_cases hk:(k == NameKind.free)=true
   ·rw[Ww hk]at h1;have b:k=NameKind.free:=by simpa using hk
    subst b;obtain⟨c',f⟩:=hf n TV;rw[f]at h1;rw[Ud]at h1;by_cases e:(x == n)=true
    ·rw[e]at h1;have d:x=n:=by simpa using e
     subst d;have:c'=c:=T9 h1;subst this;exact .inl ⟨TV,f⟩
    ·have d:(x == n)=false:=by simpa using e
     rw[d]at h1;exact .inr h1
   ·rw[Wv hk]at h1;exact .inr h1
theorem wC{cells:List (Str × Addr)}:∀(l:List (Str × NameKind)) (a:List (Str × Addr)) (x:Str),((x,NameKind.free)∈l\/∃c,a.lookup x=some c)->∃c,(gb cells l a).lookup x=some c
 | [],a,x,h=>by
  rcases h with h|h
  ·cases h
  ·exact h
 | (n,k)::r,a,x,h=>by
  unfold gb;refine wC r _ x ?_;rcases h with h|⟨c,h⟩
  ·rcases TF.mp h with e|e
   ·cases e;exact .inr ⟨_,by simp;rfl⟩
   ·exact .inl e
  ·refine .inr ?_;by_cases hk:(k == NameKind.free)=true
   ·rw[Ww hk,Ud];cases (x == n)
    ·exact⟨c,h⟩
    ·exact⟨_,Z⟩
   ·rw[Wv hk];exact⟨c,h⟩
section
variable {prog:Program}{w:World}{A:Around}{s:fy}{R:Result->fy->Prop}
def PD{e a b:Expr}{f:List Expr}{scope:Scope}{pos:Pos}{it d:Value}{env:Env}(I:Nat->fy->Prop)
 (g:∀n s,I n s->wpAny (model prog w) A (pyNext it) (λr l=>match r with
   | none=>R (.ok .next) l
   | some v=>wpAny (model prog w) A (letOwnedTupleGo a it v) (λ_ i=>wpAny (model prog w) A (assign a env v) (λ_ u =>
    wpAny (model prog w) A (forIn f true λc r=>if r=true then do let ok <- isTrue c env (eval c env);pure (ForInStep.yield ok) else pure (ForInStep.yield r)) (λok j =>
     if ok=true then wpAny (model prog w) A (eval e env) (λx o =>
      wpAny (model prog w) A (call (.builtin "list.append") [d,x]) (λ_ y=>∃m,m<n/\I m y) (λ_ _=>False) o) (λ_ _=>False) j
     else ∃m,m<n/\I m j) (λ_ _=>False) u) (λ_ _=>False) i) (λ_ _=>False) l) (λ_ _=>False) s)
 (n:Nat) (h:I n s) :
 codeAny (model prog w) A (.compLoop (.ListComp e [⟨a,b,f,0⟩] scope pos) 0 it d env) R s:=by
 refine codeAny_loop Z I (λn s hI=>?_) n h;show wpAny _ A ((compTurn (.ListComp e [⟨a,b,f,0⟩] scope pos) 0 it d env).onRaise (λx=>do noteFrame x env;theTreesLotGoes x)) _ _ s;refine wpAny_noted ?_;rw[compTurn_list];refine kb (wpAny_standAt (kb (wpAny_mono (g n s hI) (λr l q=>?_) λ_ _ h'=>h'.elim)));cases r with
 | none=>exact on q
 | some v =>
  refine kb (wpAny_mono q (λ_ i k=>?_) λ_ _ h'=>h'.elim);refine kb (wpAny_mono k (λ_ u z=>kb (wpAny_mono z (λok j p=>?_) λ_ _ h'=>h'.elim)) λ_ _ h'=>h'.elim);cases ok with
  | false=>exact on ⟨rfl,p⟩
  | true =>
   exact kb (kb (wpAny_mono p (λx o B=>kb (wpAny_mono B (λ_ y C=>on (on ⟨rfl,C⟩)) λ_ _ h'=>h'.elim)) λ_ _ h'=>h'.elim))
end
def c8(X:Cx)(Nc:List Str)(scope:Scope)(C:Addr)(s:fy)(H:Hp)(fp:List Addr):Cx where
 prog:=X.prog
 w:=X.w
 K:=X.K
 mg:=X.mg
 base:=X.base
 A:=X.A
 N:=Nc
 s₀:=s
 H₀:=H
 env:=compEnvC scope (gb X.env.cells scope.names []) C X.env
 outer:=X.stack
 stack:=X.stack
 ex:=fp
 fn:=λ_=>false
 calm:=X.calm
 pn:=X.pn
 xe:=λ_ _=>False
def mf(X:Cx)(b:List Expr)(t:TT):Prop :=
 ∀(a:List (Addr × Obj)) (s:fy) (σ:St) (H:Hp) (Q:Bool->Hp->Prop),af X a σ H s->t σ H Q ->
  wpAny (model X.prog X.w) X.A (forIn b true λc r=>if r=true then do let ok <- isTrue c X.env (eval c X.env);pure (ForInStep.yield ok) else pure (ForInStep.yield r)) (TP X a σ Q) X.xe s
def gA:TT:=λ_ H Q=>Q true H
def IW{X:Cx}:mf X [] gA:=λ_ _ _ H _ I h=>wpAny_tests_nil ⟨H,I,h⟩
def IV{X:Cx}{c:Expr}{t:TT}(h:PT X c t):mf X [c] t:=λa s σ H Q I q=>wpAny_tests_one (h a s σ H Q I q)
def bK.adopt{P:Program}{w:World}{H:Hp}{h:Heap}{a:Addr}{o:HO}(x:bK P w H h)(d:H a=none)(new:bI P w (upd H a o) h a o):bK P w (upd H a o) h:=λb u e=>by
 by_cases hb:b=a
 ·subst hb;rw[aV]at e;cases e;exact new
 ·rw[au hb]at e;exact (x b u e).stay (λc v _ q=>q) (λc q=>by rw[au (ba q d)];exact q) λc xs q=>by rw[au (ba q d)];exact q
def i5(J:It)(k:Hp)(e:St)(g:TG)(d:TT)(j:TE)(Q:VK):Prop:=∃W:Nat->Nat->List V->St->Hp->Prop,
 (∃m,W 0 m [] e k)/\∀i m ys σ1 H2,W i m ys σ1 H2 ->
   (J.stop i H2/\ys.length<=sizeLine/\∀p H',bA H2 p (.lst ys) H'->Q (.ref p) H') \/
   (J.go i H2/\ys.length<sizeLine/\∃Nx:List V->St->Hp->Prop,(∀ys' σ' H',Nx ys' σ' H'->∃m',m'<m/\W (i+1) m' ys' σ' H') /\
     ∀x H',J.yld i H2 x H'->g x σ1 H' λa f=>d a f λb c=>if b=true then j a c λy h=>Nx (ys++[y]) a h else Nx ys a c)
def oH(nv:Nat)(caps:List Nat)(b:TI)(g:TG)(a:TT)(c:TE):TE:=λσ H Q=>b σ H λJ d=>i5 J d (List.replicate nv none++caps.map λj=>(σ[j]?).join) g a c Q
structure dn (X:Cx) (Nc:List Str) (nv:Nat) (caps:List Nat) (scope:Scope):Prop where
 kind:scope.kind=.function
 nocell:∀y∈scope.names,y.2 ≠ .cell
 names:∀y∈scope.names,y.2=.local->scope.names.lookup y.1=some .local
 free:∀n,(n,NameKind.free)∈scope.names->X.env.kindOf n=some .cell\/X.env.kindOf n=some .free
 len:Nc.length=nv+caps.length
 cap:∀k j,caps[k]? = some j->∃x,Nc[nv+k]? = some x/\X.N[j]? = some x/\scope.names.lookup x=some .free
def C0(fns:List (Str × NameKind))(N Nc:List Str)(nv:Nat)(caps:List Nat)(a:Scope):Bool :=
 (a.kind == .function) && (a.names.all λy=>!(y.2 == .cell)) && (a.names.all λy=>!(y.2 == .local) || a.names.lookup y.1 == some .local) &&
 (a.names.all λy=>!(y.2 == .free) || (fns.lookup y.1 == some .cell || fns.lookup y.1 == some .free)) && (Nc.length == nv+caps.length) &&
 ((List.range caps.length).all λk=>match caps[k]?,Nc[nv+k]? with
   | some j,some x=>N[j]? == some x && a.names.lookup x == some .free
   | _,_=>false)
def dn.of{X:Cx}{fns:List (Str × NameKind)}{N Nc:List Str}{nv:Nat}{caps:List Nat}{b:Scope}(hf:X.env.scope.names=fns)(hN:X.N=N)(h:C0 fns N Nc nv caps b=true):dn X Nc nv caps b:=by
 unfold C0 at h;simp only [T7]at h;obtain⟨⟨⟨⟨⟨l,i⟩,m⟩,c⟩,d⟩,f⟩:=h;refine⟨by simpa using l,λy a e=>?_,λy a e=>?_,λn o=>?_,by simpa using d,λk j e=>?_⟩
 ·have:=UY.mp i y a;rw[e]at this;simp at this
 ·have:=UY.mp m y a;rw[e]at this;simpa using this
 ·have:=UY.mp c _ o;show X.env.scope.names.lookup n=some .cell\/X.env.scope.names.lookup n=some .free;rw[hf];simpa using this
 ·have g:k<caps.length:=(Tz.mp e).1;have:=UY.mp f k (Us.mpr g);rw[e]at this;cases ex:Nc[nv+k]? with
  | none=>rw[ex]at this;simp at this
  | some x =>
   rw[ex]at this;simp only [T7]at this;exact⟨x,rfl,by rw[hN];simpa using this.1,by simpa using this.2⟩
theorem pL{env:Env}:∀ {names:List (Str × NameKind)} {x:Str} {k:NameKind},
 (names.map λ(n,k)=>if (k == NameKind.free && env.scope.kind == .function && env.kindOf n == some .cell) then (n,NameKind.cell) else (n,k)).lookup x=some k ->
 ∃k0,names.lookup x=some k0/\(k=k0\/(k0=.free/\k=.cell))
 | [],_,_,h=>by simp at h
 | (n,k0)::r,x,k,h=>by
  have h':List.lookup x ((if (k0 == NameKind.free && env.scope.kind == .function && env.kindOf n == some .cell)=true then (n,NameKind.cell) else (n,k0)) ::
   r.map λ(n,k)=>if (k == NameKind.free && env.scope.kind == .function && env.kindOf n == some .cell) then (n,NameKind.cell) else (n,k))=some k:=h
  cases hx:x == n with
  | true =>
   refine⟨k0,by simp[Ud,hx],?_⟩;by_cases hc:(k0 == NameKind.free && env.scope.kind == .function && env.kindOf n == some .cell)=true
   ·rw[Ww hc,Ud,hx]at h';have:NameKind.cell=k:=T9 h';refine .inr ⟨?_,this.symm⟩;rw[T7,T7]at hc;simpa using hc.1.1
   ·rw[Wv hc,Ud,hx]at h';exact .inl (T9 h').symm
  | false =>
   have a:(r.map λ(n,k)=>if (k == NameKind.free && env.scope.kind == .function && env.kindOf n == some .cell) then (n,NameKind.cell) else (n,k)).lookup x=some k:=by
    by_cases hc:(k0 == NameKind.free && env.scope.kind == .function && env.kindOf n == some .cell)=true
    ·rw[Ww hc,Ud,hx]at h';exact h'
    ·rw[Wv hc,Ud,hx]at h';exact h'
   obtain⟨k1,c,b⟩:=pL a;exact⟨k1,by simp[Ud,hx,c],b⟩
def iS{a b n:Addr}(h:a<n)(h':n<=b):a≠b:=Tx (Ts h h')
theorem mU{α β:Type}[BEq α][LawfulBEq α]:∀ {l:List (α × β)} {x:α} {k:β},l.lookup x=some k->(x,k)∈l
 | [],_,_,h=>by simp at h
 | (n,k0)::r,x,k,h=>by
  cases hx:x == n with
  | true =>
   simp only [Ud,hx]at h;cases h;have e:x=n:=by simpa using hx
   subst e;exact TV
  | false =>
   simp only [Ud,hx]at h;exact TW _ (mU h)
section
variable {X:Cx}{elt tg iter:Expr}{ifs:List Expr}{scope:Scope}{Nc:List Str}{nv:Nat}{caps:List Nat}
def Ml{f:List (Addr × Obj)}{σ:St}{H:Hp}{s:fy}{fp:List Addr}{R:Heap}{tk:Nat}{D C:Addr}{m:Str->Option Value}(S:dn X Nc nv caps scope)(I:af X f σ H s)
 (hf:∀b∈fp,gj X f H b) (V:∀b∈fp,b<s.heap.objs.size) (hD:s.heap.objs.size<=D) (hC:s.heap.objs.size<=C) (hDC:D≠C) (hn:R.Ns C m) {oD:Obj} (hDo:R.get? D=some oD) (hDd:∀v,oD.data ≠ .cell v) (l:∀b o,s.heap.get? b=some o->R.get? b=some o) :
 af (c8 X Nc scope C s H fp) (f++[(D,oD)]) (List.replicate nv none++caps.map λj=>(σ[j]?).join) H { s with heap:=R,toks:=tk }:=by
 have F:∀n,(n,NameKind.free)∈scope.names->∃c,X.env.cells.lookup n=some c:=λn L=>I.ok.has n (S.free n L);have clX:∀x c,(gb X.env.cells scope.names []).lookup x=some c->(x,NameKind.free)∈scope.names/\X.env.cells.lookup x=some c:=λx c e=>by
  rcases wB _ _ _ _ e F with h|h
  ·exact h
  ·simp at h
 have Y:∀b∈cH X.stack,b<s.heap.objs.size:=λb hb=>by
  obtain⟨_,o,ho,_⟩:=I.stack.mem hb;exact Tr ho
 have cellLt:∀x c,X.env.cells.lookup x=some c->c<s.heap.objs.size:=λx c e=>by
  obtain⟨v,q⟩:=I.cell x c e;exact q.lt
 refine⟨⟨I.ok.mod,S.kind,I.ok.glob,I.ok.blt,hC,λx y c U W=>I.ok.inj x y c (clX x c U).2 (clX y c W).2,λx hx=>?_,λx c z=>Wx z (by show ¬(false=true);decide),I.ok.hd,I.ok.frames,.inl rfl,λb hb=>⟨?_,λx c e z=>?_⟩,λb o e=>I.bs b o e,TH I.ok.bsz I.sz,λb o e hb=>?_,λb hb z=>?_,I.stack,I.stkFree⟩,
  rfl,I.bare,Un.kept l,⟨m,hn,λi x v h1 J h3=>?_⟩,λx c e=>?_,I.hok.fresh hC,λx c e=>I.freeC x c (clX x c e).2,λp hp=>?_,I.hok.kept l,?_⟩
 ·-- a cell or free name of the block has its cell
  have g:(relabel scope X.env).names.lookup x=some .cell\/(relabel scope X.env).names.lookup x=some .free:=hx;have L:(x,NameKind.free)∈scope.names:=by
   rcases g with g|g
   ·obtain⟨k0,e,z⟩:=pL g;rcases z with z|⟨z,_⟩
    ·subst z;exact Wx Z (S.nocell _ (mU e))
    ·subst z;exact mU e
   ·obtain⟨k0,e,z⟩:=pL g;rcases z with z|⟨_,z⟩
    ·subst z;exact mU e
    ·cases z
  exact wC _ _ _ (.inl L)
 ·exact Tx (Ts (V b hb) hC)
 ·exact (hf b hb).2.2.2.2.1 x c (clX x c e).2 z
 ·have hx:=(hf b hb).2.2.2.1;rcases hx with z|z
  ·exact I.ok.noex b o e z
  ·exact Wx (Ts (Ts (Tr e) I.ok.bsz) z) (Ua _)
 ·rcases TF.mp (I.stkSub b z) with q|q
  ·exact (hf b hb).2.1 q
  ·exact (hf b hb).2.2.1 q
 ·-- the names' values
  have hi:nv<=i:=by
   refine Nat.le_of_not_lt λB=>?_;rw[UH (by simpa using B),V1,Ww B]at J;cases J
  obtain⟨k,rfl⟩:=Nat.le.dest hi;rw[UG (by simp)]at J;simp only [VC,V7,Tv]at J;cases ek:caps[k]? with
  | none=>rw[ek]at J;cases J
  | some j =>
   rw[ek]at J;have r:(σ[j]?).join=some v:=T9 J;have hσ:σ[j]? = some (some v):=by
    cases e:σ[j]? with
    | none=>rw[e]at r;cases r
    | some z=>rw[e]at r;cases z with
     | none=>cases r
     | some z=>have:z=v:=T9 r;rw[this]
   obtain⟨y,U,W,e3⟩:=S.cap k j ek;have O:Nc[nv+k]? = some x:=h1;rw[U]at O;cases O;have L:=mU e3;have hk:=S.free x L;obtain⟨m0,a3,hl⟩:=I.loc;obtain⟨u,ru,lk⟩:=hl j x v W hσ (by
    rcases hk with z|z
    ·exact .inr (.inl z)
    ·exact .inr (.inr z))
   refine⟨u,ru,?_⟩;rcases lk with ⟨z,_⟩|⟨_,c,hc,hcell⟩
   ·rcases hk with G|G<;>rw[z]at G<;>cases G
   ·refine .inr ⟨?_,c,?_,hcell.keeps l⟩
    ·rcases h3 with z|z|z
     ·exfalso
      obtain⟨k0,e,G⟩:=pL (show (relabel scope X.env).names.lookup x=some .local from z);rw[e3]at e;cases e;rcases G with G|⟨_,G⟩<;>cases G
     ·exact .inl z
     ·exact .inr z
    ·obtain⟨c',M⟩:=wC (cells:=X.env.cells) scope.names [] x (.inl L);rw[(clX x c' M).2]at hc;cases hc;exact M
 ·obtain⟨v,z⟩:=I.cell x c (clX x c e).2;exact⟨v,z.keeps l⟩
 ·-- f
  have N:p∈X.pn++(f++[(D,oD)]):=hp;rw[<- T8]at N;rcases TL.mp N with z|z
  ·obtain⟨e,n,ne,nf,d⟩:=I.pin p z;have B:=Tr e;refine⟨l _ _ e,n,Tx (Ts B hC),λq=>?_,d⟩;rcases TF.mp (I.stkSub p.1 q) with q|q
   ·exact ne q
   ·exact nf q
  ·have e:p=(D,oD):=by simpa using z
   subst e;exact⟨hDo,I.hok.fresh hD,hDC,λq=>Wx (Ts (Y _ q) hD) (Ua _),hDd⟩
 ·show (List.replicate nv none++caps.map λj=>(σ[j]?).join).length=Nc.length;rw[Tq,VC,To,S.len]
abbrev im(its:List Value)(n:Nat):Obj:={ cls:=.type "list",data:=.seq its.toArray n }
def Bs(a:List Value)(n:Nat):∀v,(im a n).data ≠ .cell v:=λv z=>by
 have b:Data.seq a.toArray n=Data.cell v:=z;cases b
def CZ{g:TG}{tt:TT}{te:TE}{pos:Pos}{a:List (Addr × Obj)}{σ:St}{H:Hp}{s:fy}{Q:VK}{E:Value->fy->Prop}{RR:Value->Addr->Result->fy->Prop}(hc:X.calm=true)(S:dn X Nc nv caps scope)
 (hg:∀C s H fp,PG (c8 X Nc scope C s H fp) tg g) (ht:∀C s H fp,mf (c8 X Nc scope C s H fp) ifs tt) (he:∀C s H fp,PE (c8 X Nc scope C s H fp) elt te)
 {it:Addr} {fp:List Addr} {tn:Nat->Heap->Prop} {J:It} (I:af X a σ H s) (T:iU X.prog X.w X.K tg J fp it tn) (st:tn 0 s.heap) (hf:∀b∈fp,gj X a H b)
 {W:Nat->Nat->List V->St->Hp->Prop} {m0:Nat} (w0:W 0 m0 [] (List.replicate nv none++caps.map λj=>(σ[j]?).join) H)
 (ah:∀i m l R H2,W i m l R H2->(J.stop i H2/\l.length<=sizeLine/\∀p B,bA H2 p (.lst l) B->Q (.ref p) B) \/
   (J.go i H2/\l.length<sizeLine/\∃Nx:List V->St->Hp->Prop,(∀ys' σ' B,Nx ys' σ' B->∃m',m'<m/\W (i+1) m' ys' σ' B) /\
     ∀x B,J.yld i H2 x B->g x R B λσ2 H3=>tt σ2 H3 λb H4=>if b=true then te σ2 H4 λy H5=>Nx (l++[y]) σ2 H5 else Nx l σ2 H4))
 (hRR:∀(D C:Addr) (s1:fy) (B:Hp),af X a σ B s1->gj X a B C->(∃m,s1.heap.Ns C m)->Q (.ref D) B->RR (.ref D) C (.ok .next) s1) :
 wpAny (model X.prog X.w) X.A (newList []) (λaq s₃=>wpAny (model X.prog X.w) X.A (newFunctionEnv scope X.env.globals (gb X.env.cells scope.names []) [] X.env.qual none .none (some X.env)) (λa2 s₄ =>
  codeAny (model X.prog X.w) X.A (.compStart (.ListComp elt [⟨tg,iter,ifs,0⟩] scope pos) 0 (.ref it) aq { a2 with scope:=relabel scope X.env }) (RR aq a2.locals) s₄) E s₃) E s:=by
 refine wpAny_newObj_type (wpAny_newFunctionEnv S.nocell (by intro y hy;simp at hy) (λh₁ L k=>?_) S.kind);dsimp only at L k ⊢;generalize hH2:s.heap.push { cls:=.type "list",dict:=none,data:=.seq ([]:List Value).toArray }=h2 at L k ⊢;have hC:h2.objs.size=s.heap.objs.size+1:=by rw[<- hH2,UE]
 have hDC:s.heap.objs.size≠h2.objs.size:=by rw[hC];exact Tx (TR _)
 have hCle:s.heap.objs.size<=h2.objs.size:=by rw[hC];exact UF _
 have a7:∀b o,s.heap.get? b=some o->h₁.get? b=some o:=λb o e=>k.extBut b o (Tx (Ts (Tr e) hCle)) (Tu _ (hH2 ▸ Tu _ e));have a3:h₁.get? s.heap.objs.size=some (im [] 0):=k.extBut _ _ hDC (Tu _ (hH2 ▸ T6 _ rfl));have Y:∀b∈fp,b<s.heap.objs.size:=λb hb=>by
  obtain⟨o,ho,_⟩:=T.obj _ _ st b hb;exact Tr ho
 have aC:∀b∈cH X.stack,b<s.heap.objs.size:=λb hb=>by
  obtain⟨_,o,ho,_⟩:=I.stack.mem hb;exact Tr ho
 have cellLt:∀x c,X.env.cells.lookup x=some c->c<s.heap.objs.size:=λx c e=>by
  obtain⟨v,q⟩:=I.cell x c e;exact q.lt
 have a1:∀n,(n,NameKind.free)∈scope.names->∃c,X.env.cells.lookup n=some c:=λn hm=>I.ok.has n (S.free n hm);have clX:∀x c,(gb X.env.cells scope.names []).lookup x=some c->X.env.cells.lookup x=some c:=λx c e=>by
  rcases wB _ _ _ _ e a1 with h|h
  ·exact h.2
  ·simp at h
 have pinLt:∀p∈X.pn++a,p.1<s.heap.objs.size:=λp O=>Tr (I.pin p O).1;generalize hDD:s.heap.objs.size=D at a3 hDC ⊢;generalize hCC:h2.objs.size=C at hDC hCle L k ⊢;have leD:s.heap.objs.size<=D:=UU hDD;have leC:s.heap.objs.size<=C:=by omega
 have a6:∀ {G:Hp} (o:Obj),(∀b∈fp,G b=none)->∀b∈fp,gj (c8 X Nc scope C s H fp) (a++[(D,o)]) G b:=λ{G} o hn b hb=>by
  refine⟨hn b hb,Tx (Ts (Y b hb) leC),λz=>?_,.inl hb,λx c e z=>(hf b hb).2.2.2.2.1 x c (clX x c e) z,λp O=>?_⟩
  ·rcases TF.mp (I.stkSub b z) with q|q
   ·exact (hf b hb).2.1 q
   ·exact (hf b hb).2.2.1 q
  ·have ak:p∈X.pn++(a++[(D,o)]):=O;rw[<- T8]at ak;rcases TL.mp ak with z|z
   ·exact (hf b hb).2.2.2.2.2 p z
   ·have e:p=(D,o):=by simpa using z
    subst e;exact λq=>iS (Y b hb) leD q.symm
 have M:∀s₃:fy,s₃ = { s with heap:=h₁,toks:=s.toks+([]:List (Str × Value)).length } ->
  codeAny (model X.prog X.w) X.A (.compLoop (.ListComp elt [⟨tg,iter,ifs,0⟩] scope pos) 0 (.ref it) (.ref D) (compEnvC scope (gb X.env.cells scope.names []) C X.env)) (RR (.ref D) C) s₃:=by
  rintro s₃ rfl;refine PD (λn s'=>∃(i:Nat) (l:List V) (f:List Value) (nn:Nat) (R:St) (G:Hp),af (c8 X Nc scope C s H fp) (a++[(D,im f nn)]) R G s'/\tn i s'.heap/\(∀b∈fp,G b=none)/\aJ l f/\W i n l R G) ?_ m0
   ⟨0,[],[],0,_,H,Ml S I hf Y leD leC hDC L a3 (Bs _ _) a7,T.keep _ _ _ st λb _ o e=>a7 b o e,λb hb=>(hf b hb).1,.nil,w0⟩
  rintro n s' ⟨i,l,f,nn,R,G,I1,al,ai,rv,w1⟩;have pinD:∀ {σ':St} {B:Hp} {a8:fy} {pl:List (Addr × Obj)},af (c8 X Nc scope C s H fp) ((a++[(D,im f nn)])++pl) σ' B a8->a8.heap.get? D=some (im f nn)/\B D=none:=λ{σ' B a8 pl} I'=>by
   have z:=I'.pin (D,im f nn) (TM _ (Ub _ (TM _ (by simp))));exact⟨z.1,z.2.1⟩
  rcases ah i n l R G w1 with ⟨stop,hz,q⟩|⟨go,hz,Nx,hNx,step⟩
  ·refine az (T.done (c8 X Nc scope C s H fp) Z Z Z hc i _ s' R G _ I1 (a6 _ ai) al stop) λr s4 ⟨hr,I4⟩=>?_;subst hr;obtain⟨eD,nD⟩:=pinD (pl:=[]) (by rw[TD];exact I4);obtain⟨m,hnC,_⟩:=I4.loc;have u4:Un (cH X.stack) fp H G s.heap s4.heap:=I4.base;have dNone:s.heap.get? D=none:=UT (UU hDD);have noD:∀b o,s.heap.get? b=some o->b≠D:=λb o e z=>by rw[z,dNone]at e;cases e
   have u5:Un (cH X.stack) fp H (upd G D (.lst l)) s.heap s4.heap:=by
    refine⟨u4.keep,u4.slot,λb o e n hx=>?_,u4.there,λb xs e=>?_,λb o u e=>?_,λb ps e=>?_⟩
    ·rw[au (noD b o e)];exact u4.free b o e n hx
    ·have z:=u4.tups b xs e;rw[au (ba z nD)];exact z
    ·have z:=u4.frzs b o u e;rw[au (ba z nD)];exact z
    ·obtain⟨more,z⟩:=u4.tbls b ps e;exact⟨more,by rw[au (ba z nD)];exact z⟩
   have hok:bK X.prog X.w (upd G D (.lst l)) s4.heap:=bK.adopt I4.hok nD ⟨hz,f,nn,rv,eD⟩;have IX:af X a σ (upd G D (.lst l)) s4:=I.call' I4.os u5 hok I4.bare λb hb=>⟨(hf b hb).2.2.2.1,(hf b hb).2.1,(hf b hb).2.2.2.2.1,(hf b hb).2.2.2.2.2⟩;have fpC:gj X a (upd G D (.lst l)) C:=by
    have hl:X.env.locals<s.heap.objs.size:=I.lt;exact⟨by rw[au (Ne.symm hDC)];exact I4.free,(iS hl leC).symm,I.nofs leC,.inr (TH I.sz leC),λx c e z=>iS (cellLt x c e) leC z,λp O z=>iS (pinLt p O) leC z⟩
   exact hRR D C s4 _ IX fpC ⟨m,hnC⟩ (q D _ (.mk' nD))
  ·refine az (T.item (c8 X Nc scope C s H fp) Z Z Z hc i _ s' R G _ I1 (a6 _ ai) al go) λr s4 ⟨u,hr,h4⟩=>?_;subst hr;refine az h4 λ_ s5 ⟨x,H5,I5,r5,y5,gn,aE⟩=>?_;have aB:=I5.pinned (a6 _ aE) (T.obj _ _ gn);have back:∀ {σ7:St} {H7:Hp} {s7:fy},af (c8 X Nc scope C s H fp) ((a++[(D,im f nn)])++mQ fp s5.heap) σ7 H7 s7->tn (i+1) s7.heap/\∀b∈fp,H7 b=none:=λ{σ7 H7 s7} I7=>by
    refine⟨T.keep _ _ _ gn λb hb o e=>(I7.pin (b,o) (TM _ (TM _ (pH hb e)))).1,λb hb=>?_⟩;obtain⟨o,e,d⟩:=T.obj _ _ gn b hb;exact (I7.pin (b,o) (TM _ (TM _ (pH hb e)))).2.1
   refine az (hg _ _ _ _ _ s5 R H5 x u _ aB r5 (step x H5 y5)) λ_ s6 ⟨σ6,H6,I6,q6⟩=>?_;refine az (ht _ _ _ _ _ s6 σ6 H6 _ I6 q6) λb s7 ⟨H7,I7,q7⟩=>?_;cases b with
   | false =>
    obtain⟨m',hm,w7⟩:=hNx _ _ _ q7;obtain⟨t7,f7⟩:=back I7;exact⟨m',hm,i+1,l,f,nn,σ6,H7,I7.unpinned,t7,f7,rv,w7⟩
   | true =>
    refine az (he _ _ _ _ _ s7 σ6 H7 _ I7 q7) λU s8 ⟨y,H8,I8,r8,n8⟩=>?_;obtain⟨m',hm,w8⟩:=hNx _ _ _ n8;obtain⟨t8,f8⟩:=back I8;obtain⟨eD,nD⟩:=pinD I8;have aK:=rv.length;refine call_meets F.slot_list_append ⟨_,eD,rfl⟩ F.entry_list_append (F.args_list_append_2 _ _) (PySem.list_append D f.toArray nn U (by rw[TB];omega)) ⟨eD,?_⟩;have ea:f.toArray.push U=(f++[U]).toArray:=by simp
    obtain⟨n9,e9⟩:∃n9,(s8.heap.update D (Obj.mapSeq (·.push U))).get? D=some (im (f++[U]) n9):=⟨_,by
     have z:=PySem.IsL.update eD (·.push U);rw[ea]at z;exact z⟩
    have N:∀b o,b≠D->s8.heap.get? b=some o->(s8.heap.update D (Obj.mapSeq (·.push U))).get? b=some o:=λb o hb e=>(Uw _ _ (Ne.symm hb)).trans e;have aG:∀b∈fp,b≠D:=λb hb z=>iS (Y b hb) leD z;have aD:af (c8 X Nc scope C s H fp) a σ6 H8 s8:=I8.pins_of λp O=>I8.pin p (TM _ (Ub _ (Ub _ O)));have I9:=aD.turned (t':=s8.toks) (it:=D) N nD hDC (.inr leD) (λx c e z=>iS (cellLt x c (clX x c e)) leD z) (λp O z=>iS (pinLt p O) leD z);have t9:tn (i+1) (s8.heap.update D (Obj.mapSeq (·.push U))):=T.keep _ _ _ t8 λb hb o e=>N b o (aG b hb) e;refine⟨m',hm,i+1,l++[y],f++[U],n9,σ6,H8,I9.pins_of λp O=>?_,t9,f8,rv.append (.cons r8 .nil),w8⟩;rcases TL.mp O with z|z
    ·exact I9.pin p (TM _ z)
    ·have e:p=(D,im (f++[U]) n9):=by simpa using z
     subst e;exact⟨e9,nD,hDC,λq=>iS (aC _ q) leD Z,Bs _ _⟩
 have bn:=λ(s₃:fy) (e:s₃ = { s with heap:=h₁,toks:=s.toks+([]:List (Str × Value)).length })=>M s₃ e;exact codeAny_compStart_list (M _ Z) (T.self _ 0 _ _ _ (T.keep _ _ _ st λb _ o e=>a7 b o e) (M _ Z))
def JX{p:TI}{g:TG}{r:TT}{l:TE}{pos:Pos}(hc:X.calm=true)(S:dn X Nc nv caps scope)(O:PI X tg iter p)
 (G:∀C s H fp,PG (c8 X Nc scope C s H fp) tg g) (ht:∀C s H fp,mf (c8 X Nc scope C s H fp) ifs r) (N:∀C s H fp,PE (c8 X Nc scope C s H fp) elt l)
 (hs:∀x,foldedSetIterable iter X.env x=pure x:=by intro _;rfl):PE X (.ListComp elt [⟨tg,iter,ifs,0⟩] scope pos) (oH nv caps p g r l):=by
 intro d s σ H Q I h;rw[eval_ListComp];have a:∀n,(n,NameKind.free)∈scope.names->∃c,X.env.cells.lookup n=some c:=λn hm=>I.ok.has n (S.free n hm);refine wpAny_comprehension_free (use:=none) Z hs (C1 a) S.kind S.names (az (O d s σ H _ I h) λv s1 h1=>az h1 λu s2 h2=>?_);obtain⟨it,fp,tn,J,H2,rfl,z,T,j,U,W,⟨m0,M⟩,f⟩:=h2;refine CZ (RR:=λk C=>compPost (model X.prog X.w) X.A X.xe none (EP X d σ Q) k C) hc S G ht N z T j U M f λD C Y V R fC i q=>?_;obtain⟨m,i⟩:=i;refine⟨m,i,λh' sb=>?_⟩;obtain⟨y,f1,B,f3,F,L⟩:=fC;exact⟨.ref D,V,R.turned (t':=Y.toks) (it:=C) (λb o hb e=>sb.extBut b o hb e) y f1 f3 F L,Z,q⟩
def Jb{R:TI}{g:TG}{U:TT}{M:TE}{pos f k:Pos}{i:Nat}{y:Str}(hN:X.N.Nodup)(Y:X.N[i]? = some y)(hx:iY X.env.scope y)(hc:X.calm=true)(S:dn X Nc nv caps scope)(hi:PI X tg iter R)
 (hg:∀C s H fp,PG (c8 X Nc scope C s H fp) tg g) (ht:∀C s H fp,mf (c8 X Nc scope C s H fp) ifs U) (he:∀C s H fp,PE (c8 X Nc scope C s H fp) elt M)
 (r:swapsWith (.ListComp elt [⟨tg,iter,ifs,0⟩] scope pos) (some (.Name y k)) f.line X.env=pure true:=by rfl)
 (hs:∀x,foldedSetIterable iter X.env x=pure x:=by intro _;rfl) (hf:X.fn y=true\/X.env.scope.names.lookup y=some .local:=by first|exact .inl rfl|exact .inr rfl|assumption) :
 PS X (.Assign [.Name y k] (.ListComp elt [⟨tg,iter,ifs,0⟩] scope pos) f) (jI (oH nv caps R g U M) (bP i)):=by
 intro a s σ H G I h;have d:∀n,(n,NameKind.free)∈scope.names->∃c,X.env.cells.lookup n=some c:=λn hm=>I.ok.has n (S.free n hm);rw[exec_Assign_Name_used _ _ _ _ r];refine kb (wpAny_standAt (kb ?_));show wpAny _ X.A (do let _ <- comprehension (.ListComp elt [⟨tg,iter,ifs,0⟩] scope pos) scope X.env _ (newList []) false (eval iter X.env) (some (assign (.Name y k) X.env))) _ _ s;refine kb (wpAny_mono (wpAny_comprehension_free (use:=some (assign (.Name y k) X.env)) (Q:=λ_ p=>SP X a G .next p) Z hs (C1 d) S.kind S.names
  (az (hi a s σ H _ I h) λv s1 h1=>az h1 λa0 s2 h2=>?_)) (λ_ p hq=>on (on hq)) λ_ _ e=>e)
 obtain⟨it,fp,tn,J,H2,rfl,I2,T,F,f2,W,⟨m0,w0⟩,l⟩:=h2;refine CZ (RR:=λL C=>compPost (model X.prog X.w) X.A X.xe (some (assign (.Name y k) X.env)) (λ_ p=>SP X a G .next p) L C) (Q:=λx H1=>bP i x σ H1 G.nx) hc S hg ht he I2 T F f2 w0 l λD C s4 H4 I4 fC B q=>?_;obtain⟨m,B⟩:=B;obtain⟨f0,V,a3,f3,O,f5⟩:=fC;show wpAny _ X.A (assign (.Name y k) X.env (.ref D)) _ _ _;refine wpAny_assign_Name (zx I4 hN Y hx (show aO (.ref D) (.ref D) from rfl) (λs5 I5 j=>?_) hf);obtain⟨a5,j,u⟩:=j;have hCa:C≠a5:=by
  rcases u with z|z
  ·rw[z];exact V
  ·exact λe=>O _ _ z e.symm
 refine⟨m,B.sameBut j hCa,λh' sb=>?_⟩;exact⟨_,H4,I5.turned (t':=s5.toks) (it:=C) (λb o hb e=>sb.extBut b o hb e) f0 V f3 O f5,q⟩
end
def qO{K:W.Frag}{a:Addr}{xs:List V}{cs:St}{n:TT}{o:TE}{H:Hp}{Q:VK}(h:Nat->List V->Hp->Prop)(v:h 0 [] H)(C:∀i d H,i<=xs.length->h i d H->aE K H a xs/\d.length<=i)(hz:xs.length<=sizeLine)
 (hs:∀i x d H (N:List V->Hp->Prop),xs[i]? = some x->h i d H->(∀c f,h (i+1) c f->N c f)->n (some x::cs) H λb l=>if b=true then o (some x::cs) l λy u=>N (d++[y]) u else N d l)
 (hd:∀d H p f,h xs.length d H->bA H p (.lst d) f->Q (.ref p) f) :
 i5 (jD K a) H (List.replicate 1 none++cs) (bP 0) n o Q:=by
 refine⟨λi m d σ H=>m=xs.length-i/\i<=xs.length/\h i d H/\∃j,σ=j::cs,⟨xs.length,by simp,TJ _,v,none,rfl⟩,?_⟩;rintro i m d σ r ⟨rfl,B,p,j,rfl⟩;obtain⟨q,D⟩:=C i d r B p;by_cases hlt:i<xs.length
 ·refine .inr ⟨⟨xs,xs[i],q,by simp[hlt]⟩,by omega,λc s f=>h (i+1) c f/\∃j,s=j::cs,λc s f ⟨k,e⟩=>⟨xs.length-(i+1),by omega,rfl,hlt,k,e⟩,λx f y=>?_⟩;obtain⟨e,y⟩:=y;subst e;exact hs i x d f (λc f=>h (i+1) c f/\∃j,some x::cs=j::cs) (y xs q) p λ_ _ z=>⟨z,_,Z⟩
 ·have e:i=xs.length:=by omega
  subst e;exact .inl ⟨⟨xs,q,Tp _⟩,by omega,λk f g=>hd d r k f p g⟩
def PC{lo:Int}{n:Nat}{cs:St}{l:TT}{o:TE}{H:Hp}{Q:VK}(f:Nat->List V->Hp->Prop)(u:f 0 [] H)(B:∀i c H,i<=n->f i c H->c.length<=i)(hz:n<=sizeLine)
 (hs:∀i c H (N:List V->Hp->Prop),i<n->f i c H->(∀a d,f (i+1) a d->N a d)->l (some (.int (lo+i))::cs) H λb k=>if b=true then o (some (.int (lo+i))::cs) k λy s=>N (c++[y]) s else N c k)
 (hd:∀c H p d,f n c H->bA H p (.lst c) d->Q (.ref p) d) :
 i5 (iC lo n) H (List.replicate 1 none++cs) (bP 0) l o Q:=by
 refine⟨λi m c σ H=>m=n-i/\i<=n/\f i c H/\∃h,σ=h::cs,⟨n,by simp,TJ _,u,none,rfl⟩,?_⟩;rintro i m c σ q ⟨rfl,v,p,h,rfl⟩;have C:=B i c q v p;by_cases hlt:i<n
 ·refine .inr ⟨hlt,by omega,λa r d=>f (i+1) a d/\∃h,r=h::cs,λa r d ⟨j,e⟩=>⟨n-(i+1),by omega,rfl,hlt,j,e⟩,λx d y=>?_⟩;obtain⟨e,y⟩:=y;subst e y;exact hs i c d (λa d=>f (i+1) a d/\∃h,some (V.int (lo+i))::cs=h::cs) hlt p λ_ _ z=>⟨z,_,Z⟩
 ·have e:i=n:=by omega
  subst e;exact .inl ⟨Tp _,by omega,λj d g=>hd c q j d p g⟩
def fM{α:Type}(xs:List α)(lo a:Option Int):List α:=(xs.drop (HT.sIx xs.length 0 lo)).take (HT.sIx xs.length xs.length a-HT.sIx xs.length 0 lo)
def Pt{α β:Type}(f:α->β)(xs:List α)(lo a:Option Int):fM (xs.map f) lo a=(fM xs lo a).map f:=by
 unfold fM;rw[To,List.map_take,List.map_drop]
def CW{α:Type}(xs:List α)(k:Nat):fM xs none (some (k:Int))=xs.take k:=by
 unfold fM HT.sIx;simp only [List.drop_zero,Nat.sub_zero];have h:¬((k:Int)<0):=by omega
 rw[Wv h,Vj,<- Vl,TK]
def nS{α:Type}(xs:List α)(k:Nat):fM xs (some (k:Int)) none=xs.drop k:=by
 unfold fM HT.sIx;have h:¬((k:Int)<0):=by omega
 dsimp only;rw[Wv h,Vj];by_cases hk:k<=xs.length
 ·rw[Ui hk];exact Uj (by simp)
 ·rw[VN (by omega),List.drop_length,Vm,V8 (by omega)]
def CY{α:Type}(xs:List α)(k m:Nat):fM xs (some (k:Int)) (some ((k:Int)+(m:Int)))=(xs.drop k).take m:=by
 unfold fM HT.sIx;have h:¬((k:Int)<0):=by omega
 have h':¬((k:Int)+(m:Int)<0):=by omega
 have e:((k:Int)+(m:Int)).toNat=k+m:=by omega
 dsimp only;rw[Wv h,Wv h',Vj,e];by_cases hk:k<=xs.length
 ·rw[Ui hk];by_cases hm:k+m<=xs.length
  ·rw[Ui hm,V7]
  ·rw[VN (by omega),Uj (by simp),Uj (by simp;omega)]
 ·rw[VN (by omega:xs.length<=k),List.drop_length,Vm,V8 (by omega),Vm]
def gP(ns:e7)(lo a:Option Int):d7 (ns.map V.int) lo a=(fM ns lo a).map V.int:=Pt _ _ _ _
def vF(ns ms:e7):PyData.eqv (.list (ns.map PyData.int)) (.list (ms.map PyData.int))=decide (ns=ms):=by
 show PyData.eqvAll _ _=_;exact W.ked_eqvAll ns ms
def jw{K:W.Frag}{H:Hp}{a b:Addr}{ns ms:e7}{neg:Bool}{Q:VK}(d:aE K H a (ns.map V.int))(c:aE K H b (ms.map V.int))(q:Q (.bl (if neg then !decide (ns=ms) else decide (ns=ms))) H) :
 m9 K neg (.ref a) (.ref b) H Q:=by
 refine⟨_,_,c6.lst d (fS.ints ns),c6.lst c (fS.ints ms),W.ke_shaped_ints ns,W.ke_shaped_ints ms,?_⟩;rw[vF];exact q
def wW(ns ms:e7):Bool:=decide (ms.take ns.length=ns)
structure QE (X:Cx) (e:Expr) (t:TE):Prop where
 h:PE X e t
structure QT (X:Cx) (e:Expr) (t:TT):Prop where
 h:PT X e t
structure QW (X:Cx) (e:Expr) (t:TT):Prop where
 h:PW X e t
structure QA (X:Cx) (es:List Expr) (t:TA):Prop where
 h:PA X es t
structure QS (X:Cx) (st:Stmt) (t:TS):Prop where
 h:PS X st t
structure fP (X:Cx) (st:List Stmt) (t:TS):Prop where
 h:gc X st t
structure QG (X:Cx) (e:Expr) (t:TG):Prop where
 h:PG X e t
structure oi (X:Cx) (es:List Expr) (t:hU):Prop where
 h:oj X es t
structure QI (X:Cx) (tg e:Expr) (t:TI):Prop where
 h:PI X tg e t
structure QO (X:Cx) (e:Option Expr) (t:TO):Prop where
 h:PO X e t
structure rG (X:Cx) (es:List Expr) (t:TT):Prop where
 h:mf X es t
section
variable {X:Cx}{a b c e o:Expr}{es bJ:List Expr}{pos p p2:Pos}{ta tb tc te to:TE}{tA tB' tt:TT}{t tk:TA}
def ag{i j pos}:QE X (.Constant (.int i) j pos) (tC (.int i)):=⟨ph⟩
def fG{b j pos}:QE X (.Constant (.bool b) j pos) (tC (.bl b)):=⟨AR⟩
def bD{j pos}:QE X (.Constant .none j pos) (tC .non):=⟨AN⟩
def aW{x j pos}:QE X (.Constant (.str x) j pos) (tC (.str x)):=⟨AM⟩
def aa(i:Nat){x:Str}(hN:X.N[i]? = some x:=by rfl)(b:n5 X.env.scope x:=by first|exact Or.inl rfl|exact Or.inr (Or.inl rfl)|exact Or.inr (Or.inr rfl))(hd:(x == ("__debug__" : Str))=false:=by decide)
 (a:(x == ("__classdict__" : Str))=false:=by decide):QE X (.Name x pos) (mV i):=⟨vv i hN b hd a⟩
def de{x:Str}{n:Int}{u:Tok}(a:X.mg x=some (.int n u))(b:Gl X x:=by rfl)(hd:(x == ("__debug__" : Str))=false:=by decide):QE X (.Name x pos) (tC (.int n)):=⟨gi a b hd⟩
def jl {x:Str} {v:V} {u:Value} (b:Gl X x) (a:X.mg x=some u) (r:aO v u) (hd:(x == ("__debug__" : Str))=false:=by decide):QE X (.Name x pos) (tC v):=⟨AQ b a r hd⟩
def ig {x:Str} {T:String} (c:Gl X x) (a:X.mg x=none) (d:bootBuiltins x=some (.type T)) (b:x ≠ "__name__":=by decide) (hd:(x == ("__debug__" : Str))=false:=by decide):QE X (.Name x pos) (tC (.ty T)):=⟨Qj c a d b hd⟩
def cm{j:Int}{k:Nat}(b:QE X a ta)(c:0<j/\j<1073741824:=by decide):QE X (.BinOp a .FloorDiv (.Constant (.int j) k p) pos) (Bm j ta):=⟨LF b.h c⟩
def bC{j:Int}{k:Nat}(b:QE X a ta)(c:0<j:=by decide):QE X (.BinOp a .Mod (.Constant (.int j) k p) pos) (pJ j ta):=⟨LD b.h c⟩
def aG{c:Operator}{r:R2}(ho:be X (binaryOp c) r)(d:QE X a ta)(hb:QE X b tb):QE X (.BinOp a c b pos) (hZ r ta tb):=⟨JM ho d.h hb.h⟩
def sL{b:UnaryOp}{r:V->Hp->VK->Prop}(ho:n6 X (unaryOp b) r)(c:QE X a ta):QE X (.UnaryOp b a pos) (y7 r ta):=⟨JJ ho c.h⟩
def sM(b:QE X a ta):QE X (.UnaryOp .Not a pos) (Bl ta):=⟨LC b.h⟩
def gv(c:QE X a ta)(hb:QE X (.BoolOp .And (b::bJ) pos) tb):QE X (.BoolOp .And (a::b::bJ) pos) (Bo ta tb):=⟨LJ c.h hb.h⟩
def oY(c:QE X a ta)(hb:QE X (.BoolOp .Or (b::bJ) pos) tb):QE X (.BoolOp .Or (a::b::bJ) pos) (Bk ta tb):=⟨LB c.h hb.h⟩
def fX{op}(h:QE X a ta):QE X (.BoolOp op [a] pos) ta:=⟨JN h.h⟩
def dG{c:CmpOp}{r:R2}(ho:be X (compareOp c) r)(d:QE X a ta)(hb:QE X b tb)(e:behindInMarks c b=false):QE X (.Compare a [c] [b] pos) (hZ r ta tb):=⟨JY ho d.h hb.h e⟩
def jm{f d:CmpOp}{r g:R2}(ho:be X (compareOp f) r)(e:be X (compareOp d) g)(k:QE X a ta)(hb:QE X b tb)(j:QE X c tc)
 (i:lastMarks [f,d] [b,c]=false:=by with_unfolding_all rfl):QE X (.Compare a [f,d] [b,c] pos) (pK r g ta tb tc):=⟨LH ho e k.h hb.h j.h i⟩
def ie(e:QT X c tA)(d:QE X a ta)(hb:QE X b tb):QE X (.IfExp c a b pos) (zm tA ta tb):=⟨JR e.h d.h hb.h⟩
def bG(h:QW X e tt):QT X e tt:=⟨PW.pt h.h⟩
def fD(b:QT X a tA):QW X (.BoolOp .And [a] pos) tA:=⟨IS b.h⟩
def cE(b:QT X a tA):QW X (.BoolOp .Or [a] pos) tA:=⟨IP b.h⟩
def eG(c:QT X a tA)(hb:QW X (.BoolOp .And (b::bJ) pos) tB'):QW X (.BoolOp .And (a::b::bJ) pos) (zw tA tB'):=⟨IT c.h hb.h⟩
def ck(c:QT X a tA)(hb:QW X (.BoolOp .Or (b::bJ) pos) tB'):QW X (.BoolOp .Or (a::b::bJ) pos) (ze tA tB'):=⟨IQ c.h hb.h⟩
def dM(b:QT X a tA):QT X (.UnaryOp .Not a pos) (zf tA):=⟨IY b.h⟩
def av{c:CmpOp}{r:R2}(ho:be X (compareOp c) r)(d:QE X a ta)(hb:QE X b tb)(e:behindInMarks c b=false):QT X (.Compare a [c] [b] pos) (mB (hZ r ta tb)):=⟨KO ho d.h hb.h e⟩
def mN{f d:CmpOp}{r g:R2}(ho:be X (compareOp f) r)(e:be X (compareOp d) g)(k:QE X a ta)(hb:QE X b tb)(j:QE X c tc)
 (i:lastMarks [f,d] [b,c]=false:=by with_unfolding_all rfl):QT X (.Compare a [f,d] [b,c] pos) (mB (pK r g ta tb tc)):=⟨KP ho e k.h hb.h j.h i⟩
def dH(h:QE X e te)(a:∀whole,isTrue e X.env whole=(do let v <- whole;standAt e.pos;holding [v] (truthy v)):=by intro _;rfl):QT X e (mB te):=⟨KK h.h a⟩
def II(h:QE X e te)(a:∀whole,isTrue e X.env whole=(do let v <- whole;standAt e.pos;holding [v] (truthy v)):=by intro _;rfl):QT X e (sZ X.K te):=⟨KL h.h a⟩
def ae:QA X [] i8:=⟨AT⟩
def ad(a:QE X e te)(b:QA X es t)(hs:dh e=false:=by rfl):QA X (e::es) (jG te t):=⟨AV a.h b.h hs⟩
def iJ{vs:List V}(h:qL es=some vs):QA X es (sd vs):=⟨AU h⟩
def bh(h:QA X es t):QE X (.List es pos) (mT t):=⟨LE h.h⟩
def bS{x1}(h:QA X es t):QE X (.Tuple es x1 pos) (sY t):=⟨LA h.h⟩
def AD:QE X (.Dict [] [] pos) Bn:=⟨LG⟩
def fE:QO X none zg:=⟨Ju⟩
def da(h:QE X e te):QO X (some e) (zc te):=⟨Jt h.h⟩
def dO{r:V->Option Int->Option Int->Hp->VK->Prop}{lo b:Option Expr}{a c:TO}(d:iW X r)(g:QE X e te)(i:QO X lo a)(f:QO X b c):QE X (.Subscript e (.Slice lo b none p2) pos) (y9 r te a c):=⟨JK d g.h i.h f.h⟩
def aB{r:R2}(d:gh X r)(c:QE X a ta)(hb:QE X b tb)(hs:Du b):QE X (.Subscript a b pos) (hZ r ta tb):=⟨JQ d c.h hb.h hs⟩
section
variable {k j:Nat}{f:Addr}{fd:FuncData}{ps:List Str}{sp:Sp}{x:Str}
def aP(F:bz X.prog X.w X.K X.mg X.base x j f fd ps sp)(c:bO k X.A)(g:QA X (e::es) t)(d:j<=k:=by decide)(b:Gl X x:=by rfl)
 (a:(x == ("__debug__" : Str))=false:=by decide) (i:du (e::es)=true:=by rfl):QE X (.Call (.Name x p) (e::es) [] pos) (sf sp [] E0 t):=⟨PQ F c g.h d b a i⟩
def bq{id:String}{r:List V->Hp->VK->Prop}(d:cy X (.builtin id) r)(b:X.mg x=none)(g:bootBuiltins x=some (.builtin id))(f:QA X (e::es) t)(c:Gl X x:=by rfl)(hx:x ≠ "__name__":=by decide)(a:(x == ("__debug__" : Str))=false:=by decide)
 (i:du (e::es)=true:=by rfl):QE X (.Call (.Name x p) (e::es) [] pos) (jH r t):=⟨PP d b g f.h c hx a i⟩
def cr{T:String}{r:List V->Hp->VK->Prop}(d:cy X (.type T) r)(b:X.mg x=none)(g:bootBuiltins x=some (.type T))(f:QA X (e::es) t)(c:Gl X x:=by rfl)(hx:x ≠ "__name__":=by decide)(a:(x == ("__debug__" : Str))=false:=by decide)
 (i:du (e::es)=true:=by rfl):QE X (.Call (.Name x p) (e::es) [] pos) (jH r t):=⟨PN d b g f.h c hx a i⟩
end
section
variable {name:Str}{apos cpos:Pos}{T id:String}{r:V->List V->Hp->VK->Prop}
def IG (e:PlainAttrs T) (slot:Slot T name id) (c:typeOf (.builtin id)=pure (.type "method_descriptor")) (d:gf X id r) (ho:QE X o to)
 (b:attributeBase o name X.env (eval o X.env)=eval o X.env:=by rfl) (a:(apos.endLine == cpos.line)=true:=by rfl):QE X (.Call (.Attribute o name apos) [] [] cpos) (si X.K T r to):=⟨J2 e slot c d ho.h b a⟩
theorem Bc{env:Env}{pos:Pos}:∀ {es:List Expr},du es=true->(backTo pos (starEach es env)).all (λx=>!x.1)=true
 | [],_=>rfl
 | e::r,h=>by
  obtain⟨b,a⟩:=dq h;rw[cq b];show (!false && (backTo pos (starEach r env)).all (λx=>!x.1))=true;rw[Bc a]
  rfl
def IH (g:PlainAttrs T) (slot:Slot T name id) (c:typeOf (.builtin id)=pure (.type "method_descriptor")) (f:gf X id r) (ho:QE X o to) (i:QA X (e::es) t)
 (b:attributeBase o name X.env (eval o X.env)=eval o X.env:=by rfl) (d:du (e::es)=true:=by rfl) (hf:decide ((e::es).length+0+0<30)=true:=by rfl)
 (a:(apos.endLine == cpos.line)=true:=by rfl):QE X (.Call (.Attribute o name apos) (e::es) [] cpos) (sj X.K T r to t) :=
 ⟨J3 g slot c f ho.h i.h b (by rw[Bc d];exact hf) a (cq (dq d).1) (gH (dq d).2)⟩
end
section
variable {st:Stmt}{sts ss2:List Stmt}{s t1 u1:TS}{tg it:Expr}{g:TG}{gs:hU}{wi:TI}
def aF:fP X [] mx:=⟨I0⟩
def ah(b:QS X st t1)(a:fP X sts u1):fP X (st::sts) (mw t1 u1):=⟨Ja b.h a.h⟩
def aj(a:QS X st t1):fP X [st] t1:=⟨IZ a.h⟩
def jk:QS X st zi:=⟨Jf⟩
def Iy:QS X (.Break pos) zu:=⟨Jm⟩
def ap(a:QE X e te):QS X (.Return (some e) pos) (zb te):=⟨Jd a.h⟩
def eJ(a:QE X e te)(hs:swapsWith e none pos.line X.env=pure false:=by rfl):QS X (.Expr e pos) (zp te):=⟨Jk a.h hs⟩
def aA(b:QT X c tA)(a:fP X sts t1)(hb:fP X ss2 u1):QS X (.If c sts ss2 pos) (zl tA t1 u1):=⟨Jg b.h a.h hb.h⟩
def aM{i:Nat}{x:Str}{a:Pos}(hN:X.N.Nodup)(b:X.N[i]? = some x)(hx:iY X.env.scope x)(c:QE X e te)(hs:swapsWith e (some (.Name x a)) pos.line X.env=pure false:=by rfl)(hf:X.fn x=true\/X.env.scope.names.lookup x=some .local:=by first|exact .inl rfl|exact .inr rfl|assumption) :
 QS X (.Assign [.Name x a] e pos) (jI te (bP i)):=⟨Jc hN b hx c.h hs hf⟩
def ic(a:QE X e te)(b:QG X tg g)(hs:swapsWithSole [tg] e pos.line X.env=pure false:=by rfl)(hw:swappedStores [tg] e X.env=pure none:=by rfl)
 (c:(assignEach [tg] X.env).map (·.2)=[assign tg X.env]:=by rfl):QS X (.Assign [tg] e pos) (jI te g):=⟨Jn a.h b.h hs hw c⟩
def bn{i:Nat}{x:Str}(hN:X.N.Nodup)(a:X.N[i]? = some x)(hx:iY X.env.scope x)(hf:X.fn x=true\/X.env.scope.names.lookup x=some .local:=by first|exact .inl rfl|exact .inr rfl|assumption):QG X (.Name x pos) (bP i):=⟨JI hN a hx hf⟩
def fe:oi X [] tV:=⟨JF⟩
def bR(b:QG X e g)(a:oi X es gs)(hs:(assignEach (e::es) X.env).map (·.2)=assign e X.env::(assignEach es X.env).map (·.2):=by rfl):oi X (e::es) (qd g gs):=⟨JG b.h a.h hs⟩
def IF{k n:Nat}(c:X.calm=true)(h:oi X es gs)(b:(assignEach es X.env).length=n:=by rfl)(a:(assignEach es X.env).findIdx? (·.1)=none:=by rfl):QG X (.Tuple es k pos) (qa X.K n gs):=⟨JH c h.h b a⟩
def IE{l:Expr}{a:TE}(b:QE X l a):QI X tg l (tI X.K a):=⟨JD b.h⟩
def ID{l:Expr}{a:TE}(b:QE X l a):QI X tg l (tH X.K a):=⟨Jz b.h⟩
def mL (c:Gl X "range") (b:X.mg "range" = none) (d:QA X [a] t) (hs:dh a=false:=by rfl):QI X tg (.Call (.Name "range" p) [a] [] pos) (BL t):=⟨JC c b d.h (cq hs)⟩
def Az (f:Gl X "range") (d:X.mg "range" = none) (e:QA X [a,b] t) (hs:dh a=false:=by rfl) (c:dh b=false:=by rfl):QI X tg (.Call (.Name "range" p) [a,b] [] pos) (BK t) :=
 ⟨JB f d e.h (by rw[cq hs,cq c];rfl) (cq c)⟩
def eI{body:List Stmt}{tb1:TS}(d:PassesOwn (model X.prog X.w) X.A X.env X.xe)(c:X.calm=true)(a:QI X tg it wi)(b:QG X tg g)(hb:fP X body tb1)
 (hs:∀x,foldedSetIterable it X.env x=pure x:=by intro _;rfl):QS X (.For tg it body [] pos) (zn wi g tb1):=⟨Jh d c a.h b.h hb.h hs⟩
def fW:rG X [] gA:=⟨IW⟩
def Ix(h:QT X c tA):rG X [c] tA:=⟨IV h.h⟩
def gp{scope:Scope}{Nc:List Str}{nv:Nat}{caps:List Nat}{a:List Expr}(c:X.calm=true)(S:dn X Nc nv caps scope)(f:QI X tg it wi)
 (b:∀C s H fp,QG (c8 X Nc scope C s H fp) tg g) (i:∀C s H fp,rG (c8 X Nc scope C s H fp) a tt) (d:∀C s H fp,QE (c8 X Nc scope C s H fp) e te)
 (hs:∀x,foldedSetIterable it X.env x=pure x:=by intro _;rfl):QE X (.ListComp e [⟨tg,it,a,0⟩] scope pos) (oH nv caps wi g tt te) :=
 ⟨JX c S f.h (λC s H fp=>(b C s H fp).h) (λC s H fp=>(i C s H fp).h) (λC s H fp=>(d C s H fp).h) hs⟩
def Aw{scope:Scope}{Nc:List Str}{nv:Nat}{caps:List Nat}{b:List Expr}{a d:Pos}{i:Nat}{y:Str}(hN:X.N.Nodup)(j:X.N[i]? = some y)(hx:iY X.env.scope y)(k:X.calm=true)(S:dn X Nc nv caps scope)(m:QI X tg it wi)
 (f:∀C s H fp,QG (c8 X Nc scope C s H fp) tg g) (n:∀C s H fp,rG (c8 X Nc scope C s H fp) b tt) (l:∀C s H fp,QE (c8 X Nc scope C s H fp) e te)
 (c:swapsWith (.ListComp e [⟨tg,it,b,0⟩] scope pos) (some (.Name y d)) a.line X.env=pure true:=by rfl)
 (hs:∀x,foldedSetIterable it X.env x=pure x:=by intro _;rfl) (hf:X.fn y=true\/X.env.scope.names.lookup y=some .local:=by first|exact .inl rfl|exact .inr rfl|assumption) :
 QS X (.Assign [.Name y d] (.ListComp e [⟨tg,it,b,0⟩] scope pos) a) (jI (oH nv caps wi g tt te) (bP i)) :=
 ⟨Jb hN j hx k S m.h (λC s H fp=>(f C s H fp).h) (λC s H fp=>(n C s H fp).h) (λC s H fp=>(l C s H fp).h) c hs hf⟩
end
end
section
variable {X:Cx}{K:W.Frag}{a b c e o:Expr}{es bJ:List Expr}{pos p p2:Pos}{ta tb tc te to:TE}{tA tB' tt:TT}{t tk:TA}
def aD(h:X.K=K):gh X (fk K):=by subst h;exact Os
def fh(h:X.K=K):iW X (Ct K):=by subst h;exact Oe
def bp(h:X.K=K):be X (binaryOp .Add) (ua K):=by subst h;exact OL
def bi(h:X.K=K)(a:X.A.units+64<cLine):be X (compareOp .Eq) (m9 K false):=by subst h;exact OE a
def iP(h:X.K=K)(a:X.A.units+64<cLine):be X (compareOp .NotEq) (m9 K true):=by subst h;exact Oo a
def jt(h:X.K=K):be X (compareOp .In) (qc K false):=by subst h;exact OC
def pZ(h:X.K=K):be X (compareOp .NotIn) (qc K true):=by subst h;exact On
def bH (h:X.K=K):cy X (.builtin "len") (tY K):=by subst h;exact PY
def d9 (h:X.K=K):cy X (.type "list") (tX K):=by subst h;exact PX
def wR (h:X.K=K):cy X (.type "tuple") (tT K):=by subst h;exact PR
def wS (h:X.K=K) (a:X.calm=true):cy X (.builtin "all") (lZ K false):=by subst h;exact P2 a
def P0 (h:X.K=K) (a:X.calm=true):cy X (.builtin "any") (lZ K true):=by subst h;exact P1 a
def iz (h:X.K=K):cy X (.builtin "isinstance") (t0 K):=by subst h;exact PZ
def Lx (h:X.K=K):gf X "list.extend" (t5 K):=by subst h;exact Ly
def gu(h:X.K=K)(q:QE X e te)(a:∀whole,isTrue e X.env whole=(do let v <- whole;standAt e.pos;holding [v] (truthy v)):=by intro _;rfl):QT X e (sZ K te):=by subst h;exact II q a
def fF{b l:Expr}{a:TE}(h:X.K=K)(c:QE X l a):QI X b l (tI K a):=by subst h;exact IE c
def IC{b l:Expr}{a:TE}(h:X.K=K)(c:QE X l a):QI X b l (tH K a):=by subst h;exact ID c
def ff{k n:Nat}{b:hU}(h:X.K=K)(d:X.calm=true)(q:oi X es b)(c:(assignEach es X.env).length=n:=by rfl)(a:(assignEach es X.env).findIdx? (·.1)=none:=by rfl):QG X (.Tuple es k pos) (qa K n b):=by subst h;exact IF d q c a
def gq {name:Str} {b a:Pos} {T id:String} {r:V->List V->Hp->VK->Prop} (h:X.K=K) (i:PlainAttrs T) (slot:Slot T name id) (f:typeOf (.builtin id)=pure (.type "method_descriptor")) (g:gf X id r) (ho:QE X o to) (j:QA X (e::es) t)
 (d:attributeBase o name X.env (eval o X.env)=eval o X.env:=by rfl) (k:du (e::es)=true:=by rfl) (hf:decide ((e::es).length+0+0<30)=true:=by rfl)
 (c:(b.endLine == a.line)=true:=by rfl):QE X (.Call (.Attribute o name b) (e::es) [] a) (sj K T r to t):=by subst h;exact IH i slot f g ho j d k hf c
def AA {name:Str} {b a:Pos} {T id:String} {r:V->List V->Hp->VK->Prop} (h:X.K=K) (g:PlainAttrs T) (slot:Slot T name id) (e:typeOf (.builtin id)=pure (.type "method_descriptor")) (f:gf X id r) (ho:QE X o to)
 (d:attributeBase o name X.env (eval o X.env)=eval o X.env:=by rfl) (c:(b.endLine == a.line)=true:=by rfl):QE X (.Call (.Attribute o name b) [] [] a) (si K T r to):=by subst h;exact IG g slot e f ho d c
end
def aR.okQ{P:Program}{w:World}{K:W.Frag}{mg:Str->Option Value}{base:Heap}{x qual:Str}{st:Stmt}{f:Addr}{c:FuncData}{N ps:List Str}{k:Nat}{sp:Sp}(F:aR K x qual st f c)(S:aL N ps (ao st))(len:∀vs H Q E,sp vs H Q E->vs.length=ps.length)
 (b:∀(a:Value) (A:Around) (outer:List Env) (s:fy) (H:Hp) (vs:List V) (Q:VK) (E:XK),bO k (A.deeper (envOfC qual (ao st) s.heap.objs.size f a))->sp vs H Q E ->
   ∃t,fP (f6 bY P w K mg base N qual (ao st) f a A outer s H E).nox (aI st) t/\t { nx:=λ_ e=>Q .non e,rt:=Q } (gD N vs) H):bL P w K mg base bY (k+1) f c ps sp :=
 F.ok S len λa A outer s H vs Q E d h=>let ⟨t,q,r⟩:=b a A outer s H vs Q E d h;⟨t,q.h,r⟩
section
variable {X:Cx}{pins:List (Addr × Obj)}{σ:St}{H:Hp}{s:fy}{h':Heap}
def af.turnedL{t':Nat}{fp:List Addr}(I:af X pins σ H s)(k:∀b o,b∉fp->s.heap.get? b=some o->h'.get? b=some o)(hf:∀b∈fp,gj X pins H b):af X pins σ H { s with heap:=h',toks:=t' }:=by
 have d:∀b u,H b=some u->b∉fp:=λb u e z=>by rw[(hf b z).1]at e;cases e
 refine I.step (g':=s.gens) (d':=s.drawn) (ch:=fp) (λb hb=>?_) (λb o _ _ a e _=>k b o a e) (λb o _ _ a e _=>⟨o.slots,k b o a e⟩) (λ_ _ _ _ n=>n) (λb o a e=>⟨o,k b o a e⟩) (λ_ _ e=>e) (λ_ _ _ e=>e) (λb ps e=>⟨#[],by rw[e];simp⟩) (λm g=>?_) (λb u e=>?_) I.bare
 ·obtain⟨p,i,x,f,l,h⟩:=hf b hb;exact⟨f,i,l,h⟩
 ·obtain⟨o,es,j,ho,r⟩:=g;exact⟨o,es,j,k _ o (λz=>(hf _ z).2.1 Z) ho,r⟩
 ·refine (I.hok b u e).stay (λc v a q=>k c v ?_ q) (λ_ q=>q) λ_ _ q=>q;rcases a with z|z
  ·rw[z];exact d b u e
  ·exact d c _ z
def af.turnedN{t':Nat}{fp:List Addr}{T:Addr}{c:HO}(I:af X pins σ H s)(k:∀b o,b∉fp->s.heap.get? b=some o->h'.get? b=some o)(hf:∀b∈fp,gj X pins H b)(hT:s.heap.objs.size<=T)
 (new:bI X.prog X.w (upd H T c) h' T c):af X pins σ (upd H T c) { s with heap:=h',toks:=t' }:=by
 have i:af X pins σ H { s with heap:=h',toks:=t' }:=I.turnedL k hf;have d:H T=none:=I.hok.fresh hT;have ne:∀b u,H b=some u->b≠T:=λb u e z=>by rw[z,d]at e;cases e
 refine I.step (g':=s.gens) (d':=s.drawn) (ch:=fp) (λb hb=>?_) (λb o _ _ a e _=>k b o a e) (λb o _ _ a e _=>⟨o.slots,k b o a e⟩) (λb o _ e n=>?_) (λb o a e=>⟨o,k b o a e⟩) (λb xs e=>by rw[au (ne b _ e)];exact e) (λb o u e=>by rw[au (ne b _ e)];exact e) (λb ps e=>⟨#[],by rw[au (ne b _ e),e];simp⟩) (λm g=>?_) (i.hok.adopt d new) I.bare
 ·obtain⟨q,j,v,f,p,h⟩:=hf b hb;exact⟨f,j,p,h⟩
 ·rw[au (λz=>Wx (Ts (Tr e) (by rw[z];exact hT)) (Ua _))];exact n
 ·obtain⟨o,es,l,ho,r⟩:=g;exact⟨o,es,l,k _ o (λz=>(hf _ z).2.1 Z) ho,r⟩
end
def mj(K:W.Frag)(a:Addr):It :=
 ⟨λi H=>∃xs x,aE K H a xs/\xs[i]? = some x,λi H x b=>∃p v,x=.ref p/\(∀xs,aE K H a xs->xs[i]? = some v)/\bA H p (.tup [.int (i:Int),v]) b,λi H=>∃xs,aE K H a xs/\xs.length<=i⟩
def AS{P:Program}{w:World}{H:Hp}{h:Heap}{T:Addr}{a b:V}{c u2:Value}(hT:h.IsTuple T #[c,u2])(d:aO a c)(e:aO b u2):bI P w (upd H T (.tup [a,b])) h T (.tup [a,b]):=by
 refine⟨sz Z,[c,u2],.cons d (.cons e .nil),?_⟩;exact hT
def Fx{P:Program}{w:World}{K:W.Frag}{es:List Expr}{V:Nat}{pp:Pos}(a e it:Addr)(B:e≠it):iU P w K (.Tuple es V pp) (mj K a) [e,it] e (λi h=>(∃f,IsEnum h e it i f)/\h.IsListIter it a i) where
 mem:=by simp
 obj:=λi h st b hb=>by
  obtain⟨⟨f,l⟩,o,e2,c,d⟩:=st;have n:b=e\/b=it:=by simpa using hb
  rcases n with z|z
  ·subst z;exact⟨_,l,λv z=>by cases (show Data.fields _=Data.cell v from z)⟩
  ·subst z;exact⟨o,e2,λv z=>by rw[d]at z;cases z⟩
 keep:=λi h h' st k=>by
  obtain⟨⟨f,l⟩,q⟩:=st
  exact⟨⟨f,k e (by simp) _ l⟩,q.at λo x=>k it (by simp) o x⟩
 item:=by
  intro X hP hw hK S i g s σ H E I hf st N;subst hP hw hK;obtain⟨⟨f,l⟩,q⟩:=st;obtain⟨xs,x,G,hx⟩:=N;obtain⟨L,M,p,hz⟩:=I.list G;obtain⟨u,hu,ru⟩:=M.get hx;have j:e<s.heap.objs.size:=Tr l;have F:it<s.heap.objs.size:=by obtain⟨_,z,_⟩:=q;exact Tr z
  refine wpAny_pyNext_enum_item l q p.isList (x:=u) (by simpa using hu) B λh' ho r hT hsz hk=>?_;refine⟨_,rfl,wpAny_letOwnedTupleGo_enum (s:={ s with heap:=h',toks:=s.toks+1 }) ho λC R m=>?_⟩;have hTe:s.heap.objs.size≠e:=Ut j;have hT2:C.get? s.heap.objs.size=some { cls:=.type "tuple",data:=.seq #[.int i s.toks,u] }:=(m.2 _ hTe).trans hT;have Y:af X g σ (upd H s.heap.objs.size (.tup [.int (i:Int),x])) { s with heap:=C,toks:=s.toks+1 }:=by
   refine I.turnedN (fp:=[e,it]) (λb o hb O=>?_) hf (Tp _) (AS ⟨_,hT2,Z,_,Z⟩ ⟨_,Z⟩ ru);have D:b≠e:=λz=>hb (by simp[z]);have J:b≠it:=λz=>hb (by simp[z]);exact (m.2 b D).trans (hk b o D J O)
  refine⟨.ref s.heap.objs.size,_,Y,rfl,⟨_,x,rfl,λys U=>by rw[I.list_inj U G];exact hx,.mk' I.fresh⟩,⟨⟨_,by simpa using R⟩,r.at λo y=>(m.2 it B.symm).trans y⟩,λb hb=>?_⟩;have n:b=e\/b=it:=by simpa using hb
  rw[au (by rcases n with z|z<;>(rw[z];first|exact Tx j|exact Tx F))];exact (hf b hb).1
 done:=by
  intro X hP hw hK S i g s σ H E I hf st N;subst hP hw hK;obtain⟨⟨f,l⟩,q⟩:=st;obtain⟨xs,G,hx⟩:=N;obtain⟨L,M,p,hz⟩:=I.list G;have hl:=M.length;refine wpAny_pyNext_enum_end (I.ok.hd S) l q p.isList (by simp;omega) λh' eb=>⟨rfl,I.turnedL (t':=s.toks) (fp:=[e,it]) (λb o hb O=>eb b o (λz=>hb (by simp[z])) O) hf⟩
 self:=λ_ _ _ _ _ st h=>wpAny_pyIter_enum st.1.choose_spec h
def BM(K:W.Frag)(c:TA):TI:=λσ H R=>c σ H λvs b=>∃a xs,vs=[.ref a]/\aE K b a xs/\R (mj K a) b
section
variable {X:Cx}{tg:Expr}{es:List Expr}{kk:Nat}{pp:Pos}
def JE {a:Expr} {k:TA} {p pos:Pos} (o:Gl X "enumerate") (n:X.mg "enumerate" = none) (x:PA X [a] k) (hs:starEach [a] X.env=[(false,eval a X.env)]:=by rfl):PI X (.Tuple es kk pp) (.Call (.Name "enumerate" p) [a] [] pos) (BM X.K k):=by
 intro c s σ H R I h;refine Call_ (gL I o n boot_enumerate (Uu (az (x pos c s σ H _ I h) λus s1 ⟨vs,m,f,u,C⟩=>?_) hs Z));obtain⟨l,xs,e,D,q⟩:=C;subst e;cases u with
 | cons r rr =>
  cases rr;cases r;obtain⟨v,F,pl,hz⟩:=f.list D;refine call_enumerate_list pl.isList λh' j g hsz y=>?_;refine wpAny_pyIter_enum (s:={ s1 with heap:=h' }) j ?_;have B:af X c σ m { s1 with heap:=h' }:=f.kept (t':=s1.toks) y;refine⟨s1.heap.objs.size+1,[s1.heap.objs.size+1,s1.heap.objs.size],_,mj X.K l,m,Z,B,Fx l _ _ (Nat.succ_ne_self _),⟨⟨_,j⟩,g⟩,λb hb=>?_,q⟩;have i:b=s1.heap.objs.size+1\/b=s1.heap.objs.size:=by simpa using hb
  have d:s1.heap.objs.size<=b:=by
   rcases i with z|z
   ·rw[z];exact UF _
   ·rw[z];exact Tp _
  exact f.fpOk d (f.hok.fresh d)
end
def jC(lo c:Int)(n:Nat):It:=⟨λi _=>i<n,λi H x a=>a=H/\x=.int (lo+i*c),λi _=>n<=i⟩
def Fu{P:Program}{w:World}{K:W.Frag}{u:Expr}(it:Addr)(lo c:Int)(n:Nat):iU P w K u (jC lo c n) [it] it (λi h=>IsRangeIter h it (lo+(i:Nat)*c) ((n:Int)-(i:Nat)) c) where
 mem:=by simp
 obj:=λi h st b hb=>by
  have e:b=it:=by simpa using hb
  subst e;exact⟨_,st,λv z=>by
   have x:Data.fields _=Data.cell v:=z;cases x⟩
 keep:=λi h h' st k=>k it (by simp) _ st
 item:=by
  intro X hP hw hK p i a s σ H E I hf st g;subst hP hw hK;obtain⟨l,q,F,f,m,j⟩:=hf it (by simp);have W:=Walks.range (prog:=X.prog) (w:=X.w) (I.ok.hd p) it lo c n;refine W.item i s _ _ g st λv h' r C d B=>?_;obtain⟨t,rfl⟩:=C;have y:af X a σ H { s with heap:=h',toks:=r }:=I.turned (λb o hb e=>B b o (by simpa using hb) e) l q f m j;exact⟨_,rfl,pX (s:={ s with heap:=h',toks:=r }) (n := "range_iterator") d rfl rfl (by decide) ⟨.int (lo+i*c),H,y,⟨t,rfl⟩,⟨rfl,rfl⟩,d,λb hb=>(hf b hb).1⟩⟩
 done:=by
  intro X hP hw hK p i a s σ H E I hf st g;subst hP hw hK;obtain⟨l,q,F,f,m,j⟩:=hf it (by simp);exact wpAny_pyNext_range_end (I.ok.hd p) st (by have:n<=i:=g;omega) λh' D=>⟨rfl,I.turned (t':=s.toks) (λb o hb e=>D b o hb e) l q f m j⟩
 self:=λ_ _ _ _ _ st h=>wpAny_pyIter_rangeiter st h
def BJ(a:TA):TI:=λσ H R=>a σ H λvs b=>∃(n c:Nat),vs=[.int 0,.int (n:Int),.int (c:Int)]/\n<=1000000000/\0<c/\c<=1000000/\R (jC 0 (c:Int) ((n+(c-1))/c)) b
def GR{n c:Nat}(g:n<=1000000000)(f:0<c)(d:c<=1000000):Builtin.Range.rangeSize 0 (n:Int) (c:Int)=(((n+(c-1))/c:Nat):Int)/\Builtin.Range.small 0 (n:Int) (c:Int)=true:=by
 have e:Builtin.Range.rangeSize 0 (n:Int) (c:Int)=(((n+(c-1))/c:Nat):Int):=by
  rw[rangeSize_pos (by omega) (by omega)];rw[Int.natCast_ediv]
  congr 1
  omega
 refine⟨e,?_⟩;have b:(n+(c-1))/c<=n+(c-1):=Nat.div_le_self _ _;have a:(((n+(c-1))/c:Nat):Int)*(c:Int)<=n+(c-1):=by
  have:=Nat.div_mul_le_self (n+(c-1)) c;rw[<- Int.natCast_mul];omega
 unfold Builtin.Range.small;rw[e];generalize (n+(c-1))/c=k at b a ⊢;simp only [Builtin.Range.rangeFitsLong,T7,Vn,decide_eq_true_eq,beq_iff_eq];refine⟨by omega,Or.inr ?_⟩;rw[Ww (by omega)];simp only [T7,decide_eq_true_eq];omega
section
variable {X:Cx}{tg:Expr}
def JA {a b d:Expr} {l:TA} {p pos:Pos} (x:Gl X "range") (u:X.mg "range" = none) (C:PA X [a,b,d] l) (hs:starEach [a,b,d] X.env=(false,eval a X.env)::starEach [b,d] X.env:=by rfl) (k:(backTo pos (starEach [b,d] X.env)).any (·.1)=false:=by rfl) :
 PI X tg (.Call (.Name "range" p) [a,b,d] [] pos) (BJ l):=by
 intro f s σ H R I h;refine Call_ (gL I x u boot_range (Uu (az (C pos f s σ H _ I h) λus s1 ⟨vs,m,B,y,i⟩=>?_) hs k));obtain⟨n,c,e,i,F,z,q⟩:=i;subst e;cases y with
 | cons r rr =>
  cases rr with
  | cons r' rr =>
   cases rr with
   | cons r'' rr =>
    cases rr;obtain⟨t,rfl⟩:=r;obtain⟨t',rfl⟩:=r';obtain⟨g,rfl⟩:=r'';obtain⟨e,sm⟩:=GR i F z;refine call_range_3 (by omega) ?_ (Or.inl (V0 (by omega)));refine wpAny_pyIter_range (IsRange.new ..) sm ?_;have j:af X f σ m { s1 with heap:=s1.heap.push { cls:=.type "range",data:=.fields #[.int 0 t,.int n t',.int c g] },toks:=s1.toks }:=B.kept λb o e=>Tu _ e;refine⟨_,[_],_,_,m,Z,j.kept (t':=s1.toks) λb o e=>Tu _ e,Fu _ 0 (c:Int) ((n+(c-1))/c),?_,λb hb=>?_,q⟩
    ·show IsRangeIter _ _ (0+((0:Nat):Int)*_) ((((n+(c-1))/c:Nat):Int)-((0:Nat):Int)) _;have v:(0:Int)+((0:Nat):Int)*(c:Int)=0:=by simp
     have D:((((n+(c-1))/c:Nat):Int)-((0:Nat):Int))=Builtin.Range.rangeSize 0 (n:Int) (c:Int):=by rw[e];simp
     rw[v,D];exact T6 _ Z
    ·have e:=TU.mp hb;subst e;exact j.fpOk (Tp _) (j.hok.fresh (Tp _))
def OT{lo c:Int}{n:Nat}{g:TG}{tb:TS}{D:fR}{σ:St}{H:Hp}(b:Nat->St->Hp->Prop)(k:b 0 σ H)
 (hs:∀i σ H,i<n->b i σ H->g (.int (lo+i*c)) σ H λd f=>tb { D with nx:=b (i+1),ct:=b (i+1),bk:=D.nx } d f) (hd:∀σ H,b n σ H->D.nx σ H) :
 ∃W:Nat->Nat->St->Hp->Prop,(∃m,W 0 m σ H)/\∀i m σ H,W i m σ H ->
  ((jC lo c n).stop i H/\D.nx σ H)\/((jC lo c n).go i H/\∃N:St->Hp->Prop,(∀h a,N h a->∃m',m'<m/\W (i+1) m' h a)/\∀x a,(jC lo c n).yld i H x a->g x σ a λd f=>tb { D with nx:=N,ct:=N,bk:=D.nx } d f):=by
 refine⟨λi m σ H=>m=n-i/\i<=n/\b i σ H,⟨n,by simp,TJ _,k⟩,?_⟩;rintro i m σ H ⟨rfl,l,p⟩;by_cases hlt:i<n
 ·refine .inr ⟨hlt,b (i+1),λh a j=>⟨n-(i+1),by omega,rfl,hlt,j⟩,λx a y=>?_⟩;obtain⟨e,rfl⟩:=y;subst e;exact hs i σ a hlt p
 ·have e:i=n:=by omega
  subst e;exact .inl ⟨Tp _,hd σ H p⟩
def nh{K:W.Frag}{a:Addr}{xs:List V}{g:TG}{tb:TS}{D:fR}{σ:St}{H:Hp}(c:Nat->St->Hp->Prop)(l:c 0 σ H)(o:∀i σ H,i<=xs.length->c i σ H->aE K H a xs)
 (hs:∀i x p σ H b,xs[i]? = some x->c i σ H->bA H p (.tup [.int (i:Int),x]) b->g (.ref p) σ b λd f=>tb { D with nx:=c (i+1),ct:=c (i+1),bk:=D.nx } d f) (hd:∀σ H,c xs.length σ H->D.nx σ H) :
 ∃W:Nat->Nat->St->Hp->Prop,(∃m,W 0 m σ H)/\∀i m σ H,W i m σ H ->
  ((mj K a).stop i H/\D.nx σ H)\/((mj K a).go i H/\∃N:St->Hp->Prop,(∀h b,N h b->∃m',m'<m/\W (i+1) m' h b)/\∀x b,(mj K a).yld i H x b->g x σ b λd f=>tb { D with nx:=N,ct:=N,bk:=D.nx } d f):=by
 refine⟨λi m σ H=>m=xs.length-i/\i<=xs.length/\c i σ H,⟨xs.length,by simp,TJ _,l⟩,?_⟩;rintro i m σ H ⟨rfl,n,p⟩;have q:=o i σ H n p;by_cases hlt:i<xs.length
 ·refine .inr ⟨⟨xs,xs[i],q,by simp[hlt]⟩,c (i+1),λh b k=>⟨xs.length-(i+1),by omega,rfl,hlt,k⟩,λx b y=>?_⟩;obtain⟨pp,v,rfl,y,j⟩:=y;exact hs i v pp σ H b (y xs q) p j
 ·have e:i=xs.length:=by omega
  subst e;exact .inl ⟨⟨xs,q,Tp _⟩,hd σ H p⟩
end
def tU(K:W.Frag):List V->Hp->VK->Prop:=λxs H Q=>match xs with
 | [.ref p]=>∃ns:e7,aE K H p (ns.map V.int)/\Q (.int ns.sum) H
 | _=>False
theorem AJ(ns:e7):∀k,k<=ns.length->preSum (λi=>(ns[i]?).getD 0) k=(ns.take k).sum
 | 0,_=>by simp[preSum]
 | k+1,h=>by
  have a:k<ns.length:=by omega
  rw[preSum,AJ ns k (by omega),<- List.take_append_getElem a,List.sum_append];simp[T4 a]
def PV {X:Cx} (y:X.calm=true):cy X (.builtin "sum") (tU X.K):=by
 intro l s σ H xs us Q I r q;unfold tU at q
 split at q
 ·rename_i p;obtain⟨ns,F,q⟩:=q;obtain⟨u,rfl,G⟩:=hX r;cases G;obtain⟨a,j,pl,_⟩:=I.list F;have h:=j.length;rw[To]at h;have c:p<s.heap.objs.size:=by
   obtain⟨o,n,e,_⟩:=pl;exact Tr e
  have d:p≠s.heap.objs.size:=Tx c;refine call_sum_walkG (wpAny_pyIter_list pl.isList ⟨s.heap.objs.size,_,_,_,_,_,λi=>(ns[i]?).getD 0,rfl,Walks.list (A:=X.A.in1) (show X.A.in1.handled=none from I.ok.hd y) s.heap.objs.size p d a.toArray,⟨⟨_,T6 _ rfl,rfl,rfl⟩,?_⟩,λb hb=>?_,λi v g=>?_,λh' B t' k=>?_⟩)
  ·exact pl.isList.at λo e=>Tu _ e
  ·have f:b=s.heap.objs.size\/b=p:=by simpa using hb
   show b<(s.heap.push _).objs.size;rw[UE];rcases f with z|z
   ·rw[z];exact TR _
   ·rw[z];exact Nat.lt_succ_of_lt c
  ·have J:i<a.length:=by
    have:=(Vk.mp g).1;simpa using this
   have hb:i<ns.length:=by omega
   obtain⟨u,C,m⟩:=j.get (i:=i) (x:=V.int ns[i]) (by simp[hb]);have e:a.toArray[i]? = some u:=by simpa using C
   rw[e]at g;cases g;obtain⟨t,rfl⟩:=m;exact⟨t,by simp[hb]⟩
  ·refine⟨.int ns.sum,H,I.kept (h':=h') (t':=B) λb o e=>k b o (λz=>?_) (Tu _ e),⟨t',?_⟩,q⟩
   ·have D:b=s.heap.objs.size:=by simpa using z
    exact Wx (Tr e) (by rw[D];exact Ua _)
   ·rw[TB,<- h,AJ ns _ (Tp _),TK]
 ·exact q.elim
def SD(i j:Int):Prop:=0<=j/\(Builtin.Int.intBits i:Int)+j<=2 ^ 27
def Og{X:Cx}:be X (binaryOp .LShift) (gI SD λi j=>.int (i*2 ^ j.toNat)):=Cv (pA λ_ _ _ _ _ _ _ a q=>lshift_int a.1 a.2 q)
def Cw:V->List V->Hp->VK->Prop:=λx vs H Q=>match x,vs with
 | .int i,[]=>Q (.int (Builtin.Int.intBits i)) H
 | _,_=>False
def Lz {X:Cx}:gf X "int.bit_length" Cw:=by
 intro a s σ H x vs v us Q I c b q;unfold Cw at q
 split at q
 ·obtain⟨t,rfl⟩:=c;cases b;exact call_int_bit_length ⟨.int _,H,I.tok _,⟨_,Z⟩,q⟩
 ·exact q.elim
def rK(K:W.Frag)(a b:Addr):It :=
 ⟨λi H=>∃xs ys x y,aE K H a xs/\xs[i]? = some x/\aE K H b ys/\ys[i]? = some y,λi H x c=>∃p v u,x=.ref p/\(∀xs,aE K H a xs->xs[i]? = some v)/\(∀ys,aE K H b ys->ys[i]? = some u)/\bA H p (.tup [v,u]) c,λi H=>∃xs ys,aE K H a xs/\aE K H b ys/\(xs.length<=i\/ys.length<=i)⟩
def Fr{P:Program}{w:World}{K:W.Frag}{es:List Expr}{V:Nat}{pp:Pos}(a b z TI TO f g:Addr)(D:ZipApart z TI TO f g a b) :
 iU P w K (.Tuple es V pp) (rK K a b) [z,TI,TO,f,g] z (λi h=>IsZip h z TI TO .none/\IsPair h TI (.ref f) (.ref g)/\(∃a b,IsPair h TO a b)/\h.IsListIter f a i/\h.IsListIter g b i) where
 mem:=by simp
 obj:=λi h st c F=>by
  obtain⟨n,l,⟨u,v,q⟩,⟨o4,e4,c4,d4⟩,o5,e5,c5,d5⟩:=st;have r:c=z\/c=TI\/c=TO\/c=f\/c=g:=by simpa using F
  rcases r with rfl|rfl|rfl|rfl|rfl
  ·exact⟨_,n,λv z=>by cases (show Data.fields _=Data.cell v from z)⟩
  ·exact⟨_,l,λv z=>by cases (show Data.seq _ _=Data.cell v from z)⟩
  ·exact⟨_,q,λv z=>by cases (show Data.seq _ _=Data.cell v from z)⟩
  ·exact⟨o4,e4,λv z=>by rw[d4]at z;cases z⟩
  ·exact⟨o5,e5,λv z=>by rw[d5]at z;cases z⟩
 keep:=λi h h' st k=>by
  obtain⟨n,l,⟨u,v,q⟩,J,G⟩:=st;exact⟨k z (by simp) _ n,k TI (by simp) _ l,⟨u,v,k TO (by simp) _ q⟩,J.at λo x=>k f (by simp) o x,G.at λo x=>k g (by simp) o x⟩
 item:=by
  intro X hP hw hK F i m s σ H E I hf st hg;subst hP hw hK;obtain⟨n,l,⟨u,v,q⟩,J,G⟩:=st;obtain⟨xs,ys,x,y,N,hx,j,M⟩:=hg;obtain⟨R,U,p,hz⟩:=I.list N;obtain⟨L,B,p2,a7⟩:=I.list j;obtain⟨ux,hu,ru⟩:=U.get hx;obtain⟨uy,Y,a9⟩:=B.get M;have lz:z<s.heap.objs.size:=Tr n;have lTI:TI<s.heap.objs.size:=Tr l;have lTO:TO<s.heap.objs.size:=Tr q;have l1:f<s.heap.objs.size:=by obtain⟨_,e,_⟩:=J;exact Tr e
  have l2:g<s.heap.objs.size:=by obtain⟨_,e,_⟩:=G;exact Tr e
  refine wpAny_pyNext_zip_item D n l q J G p.isList p2.isList (x:=ux) (y:=uy) (by simpa using hu) (by simpa using Y) λh' a1 a2 a3 a4 a5 a6 O=>?_;refine⟨_,rfl,wpAny_letOwnedTupleGo_zip (s:={ s with heap:=h' }) a1 λC S d=>?_⟩;have V:∀c o,c∉[z,TI,TO,f,g]->s.heap.get? c=some o->C.get? c=some o:=λc o hb e=>by
   have n1:c≠z:=λw=>hb (by simp[w]);exact (d.2 c n1).trans (O c o n1 (λw=>hb (by simp[w])) (λw=>hb (by simp[w])) (λw=>hb (by simp[w])) e)
  have hT2:C.get? s.heap.objs.size=some { cls:=.type "tuple",data:=.seq #[ux,uy] }:=(d.2 _ (Ut lz)).trans a5;have I2:af X m σ (upd H s.heap.objs.size (.tup [x,y])) { s with heap:=C } :=
   I.turnedN (t':=s.toks) (fp:=[z,TI,TO,f,g]) V hf (Tp _) (AS ⟨_,hT2,rfl,_,rfl⟩ ru a9)
  refine⟨.ref s.heap.objs.size,_,I2,rfl,⟨_,x,y,rfl,λys M=>by rw[I.list_inj M N];exact hx,λzs hz=>by rw[I.list_inj hz j];exact M,.mk' I.fresh⟩,
   ⟨S,(d.2 _ D.TIz).trans (O _ _ D.TIz D.TITO D.TIi1 D.TIi2 l),⟨_,_,(d.2 _ D.TOz).trans a2⟩,a3.at λo e=>(d.2 _ D.i1z).trans e,a4.at λo e=>(d.2 _ D.i2z).trans e⟩,λc F=>?_⟩
  have r:c=z\/c=TI\/c=TO\/c=f\/c=g:=by simpa using F
  have lc:c<s.heap.objs.size:=by rcases r with w|w|w|w|w<;>rw[w]<;>assumption
  rw[au (Tx lc)];exact (hf c F).1
 done:=by
  intro X hP hw hK F i m s σ H E I hf st hg;subst hP hw hK;obtain⟨n,l,⟨u,v,q⟩,J,G⟩:=st;obtain⟨xs,ys,N,j,hx⟩:=hg;obtain⟨R,U,p,hz⟩:=I.list N;obtain⟨L,B,p2,a7⟩:=I.list j;have hl:=U.length;have al:=B.length;refine wpAny_pyNext_zip_end (I.ok.hd F) D n l q J G p.isList p2.isList (by rcases hx with w|w;exact .inl (by simp;omega);exact .inr (by simp;omega)) λh' O=>⟨rfl,I.turnedL (t':=s.toks) (fp:=[z,TI,TO,f,g]) (λc o hb e=>O c o (λw=>hb (by simp[w])) (λw=>hb (by simp[w])) (λw=>hb (by simp[w])) (λw=>hb (by simp[w])) e) hf⟩
 self:=λ_ _ _ _ _ st h=>wpAny_pyIter_zip st.1 h
def BI(K:W.Frag)(d:TA):TI:=λσ H R=>d σ H λvs c=>∃a b xs ys,vs=[.ref a,.ref b]/\aE K c a xs/\aE K c b ys/\R (rK K a b) c
def Ep(I l1 a:Nat)(c:l1<I)(b:a<I):ZipApart (I+4) (I+2) (I+3) I (I+1) l1 a:=W.ktu_apart I l1 a c b
def Jy {X:Cx} {es:List Expr} {C:Nat} {pp:Pos} {a b:Expr} {y:TA} {p pos:Pos} (G:Gl X "zip") (O:X.mg "zip" = none) (J:PA X [a,b] y) (hs:starEach [a,b] X.env=(false,eval a X.env)::starEach [b] X.env:=by rfl) (m:(backTo pos (starEach [b] X.env)).any (·.1)=false:=by rfl) :
 PI X (.Tuple es C pp) (.Call (.Name "zip" p) [a,b] [] pos) (BI X.K y):=by
 intro c s σ H R I h;refine Call_ (gL I G O boot_zip (Uu (az (J pos c s σ H _ I h) λus s1 ⟨vs,x,f,N,U⟩=>?_) hs m));obtain⟨l1,i,xs,W,e,M,n,q⟩:=U;subst e;cases N with
 | cons r rr =>
  cases rr with
  | cons r' rr =>
   cases rr;cases r;cases r';obtain⟨z,V,pl,hz⟩:=f.list M;obtain⟨v,B,d,L⟩:=f.list n;have u:l1<s1.heap.objs.size:=by obtain⟨o,_,e,_⟩:=pl;exact Tr e
   have j:i<s1.heap.objs.size:=by obtain⟨o,_,e,_⟩:=d;exact Tr e
   have D:ZipApart (s1.heap.objs.size+4) (s1.heap.objs.size+2) (s1.heap.objs.size+3) s1.heap.objs.size (s1.heap.objs.size+1) l1 i:=Ep _ _ _ u j;refine call_zip_2 pl.isList d.isList λh' hz hTI hTO eR l hsz S=>?_;refine wpAny_pyIter_zip (s:={ s1 with heap:=h' }) hz ?_;have F:af X c σ x { s1 with heap:=h' }:=f.kept (t':=s1.toks) S;refine⟨s1.heap.objs.size+4,_,_,rK X.K l1 i,x,Z,F,Fr l1 i _ _ _ _ _ D,⟨hz,hTI,⟨_,_,hTO⟩,eR,l⟩,λb hb=>?_,q⟩;have k:b=s1.heap.objs.size+4\/b=s1.heap.objs.size+2\/b=s1.heap.objs.size+3\/b=s1.heap.objs.size\/b=s1.heap.objs.size+1:=by simpa using hb
   have g:s1.heap.objs.size<=b:=by rcases k with w|w|w|w|w<;>rw[w]<;>first|exact VJ _ _|exact Tp _
   exact f.fpOk g (f.hok.fresh g)
def Py{K:W.Frag}{a b:Addr}{xs zs:List V}{cs:St}{D:TT}{s:TE}{H:Hp}{Q:VK}(l:zs.length=xs.length)(h:Nat->List V->Hp->Prop)(M:h 0 [] H)(I:∀i f H,i<=xs.length->h i f H->aE K H a xs/\aE K H b zs/\f.length<=i)(hz:xs.length<=sizeLine)
 (hs:∀i x z f H c (N:List V->Hp->Prop),xs[i]? = some x->zs[i]? = some z->h i f H->am H c->(∀d c,h (i+1) d c->N d c)->D (some x::some z::cs) c λb F=>if b=true then s (some x::some z::cs) F λy G=>N (f++[y]) G else N f F)
 (hd:∀f H p c,h xs.length f H->bA H p (.lst f) c->Q (.ref p) c) :
 i5 (rK K a b) H (List.replicate 2 none++cs) (qa K 2 (qd (bP 0) (qd (bP 1) tV))) D s Q:=by
 refine⟨λi m f σ H=>m=xs.length-i/\i<=xs.length/\h i f H/\∃k j,σ=k::j::cs,⟨xs.length,by simp,TJ _,M,none,none,rfl⟩,?_⟩;rintro i m f σ r ⟨rfl,J,p,k,j,rfl⟩;obtain⟨q,o,O⟩:=I i f r J p;by_cases hlt:i<xs.length
 ·refine .inr ⟨⟨xs,zs,xs[i],zs[i]'(by omega),q,by simp[hlt],o,by simp[l,hlt]⟩,by omega,λd B c=>h (i+1) d c/\∃k j,B=k::j::cs,λd B c ⟨n,e⟩=>⟨xs.length-(i+1),by omega,rfl,hlt,n,e⟩,λx c y=>?_⟩;obtain⟨pp,v,u,rfl,y,L,C⟩:=y;refine⟨pp,_,Z,C.tup,Z,_,_,Z,_,_,Z,Z,?_⟩;exact hs i v u f r c (λd c=>h (i+1) d c/\∃k j,some v::some u::cs=k::j::cs) (y xs q) (L zs o) p C.sm λ_ _ z=>⟨z,_,_,Z⟩
 ·have e:i=xs.length:=by omega
  subst e;exact .inl ⟨⟨xs,zs,q,o,.inl (Tp _)⟩,by omega,λn c g=>hd f r n c p g⟩
section
variable {X:Cx}{K:W.Frag}{a b c e o:Expr}{es bJ:List Expr}{pos p p2 pos2:Pos}{t:TA}{kk:Nat}
def PU (h:X.K=K) (a:X.calm=true):cy X (.builtin "sum") (tU K):=by subst h;exact PV a
def mM (h:X.K=K) (d:Gl X "enumerate") (b:X.mg "enumerate" = none) (c:QA X [a] t) (hs:dh a=false:=by rfl):QI X (.Tuple es kk p2) (.Call (.Name "enumerate" p) [a] [] pos) (BM K t):=by subst h;exact⟨JE d b c.h (cq hs)⟩
def Iz (h:X.K=K) (f:Gl X "zip") (d:X.mg "zip" = none) (e:QA X [a,b] t) (hs:dh a=false:=by rfl) (c:dh b=false:=by rfl):QI X (.Tuple es kk p2) (.Call (.Name "zip" p) [a,b] [] pos) (BI K t):=by
 subst h;exact⟨Jy f d e.h (cq hs) (by rw[cq c];rfl)⟩
def Ay {i:Expr} (g:Gl X "range") (f:X.mg "range" = none) (j:QA X [a,b,c] t) (hs:dh a=false:=by rfl) (d:dh b=false:=by rfl) (e:dh c=false:=by rfl):QI X i (.Call (.Name "range" p) [a,b,c] [] pos) (BJ t) :=
 ⟨JA g f j.h (cq hs) (by rw[cq d,cq e];rfl)⟩
end
def cV:e7->List Value->Bool
 | [],[]=>true
 | n::r,.int m _::u=>n == m && cV r u
 | _,_=>false
theorem cV.vals:∀ {ns:e7} {us:List Value},cV ns us=true->aJ (ns.map V.int) us
 | [],[],_=>.nil
 | n::r,.int m _::u,h=>by
  have h':(n == m && cV r u)=true:=h;rw[T7,beq_iff_eq]at h';obtain⟨rfl,a⟩:=h';exact .cons ⟨_,Z⟩ (cV.vals a)
def dU {K:W.Frag} {a:Addr} {c:Option Addr} {b:Array Value} {n:Nat} {d:Array (Option Value)} {ns:e7} (h:K.lookup a=some ⟨.type "tuple",c,.seq b n,d⟩) (e:cV ns b.toList=true) (hz:b.size<=1000:=by decide) (H:Hp):bv K H a (ns.map V.int) :=
 .inr ⟨_,b,n,h,rfl,rfl,sz (V9 hz),cV.vals e⟩
def bA.after{H b a:Hp}{p:Addr}{o:HO}(s:am H b)(g:bA b p o a):bA H p o a:=⟨s.free g.nw,s.trans g.sm,g.at_⟩
def cb(b:Nat)(ps:e7):Int:=ps.foldl (λa p=>a*2 ^ b+p) 0
theorem r9(b:Nat):∀(ps:e7) (a:Int),ps.foldl (λa p=>a*2 ^ b+p) a=a*2 ^ (b*ps.length)+cb b ps
 | [],a=>by simp[cb]
 | p::r,a=>by
  unfold cb;rw[UM,UM,r9 b r,r9 b r,TX,Nat.mul_succ,Int.pow_add];generalize (2:Int) ^ (b*r.length)=X;generalize (2:Int) ^ b=Y;rw[VO,VO,Int.mul_assoc,Int.mul_comm Y X];omega
def yZ(b:Nat)(ps qs:e7):cb b (ps++qs)=cb b ps*2 ^ (b*qs.length)+cb b qs:=by
 conv=>lhs;unfold cb
 rw[VP,r9 b qs]
 rfl
def Fz(b:Nat)(ps:e7)(p:Int):cb b (ps++[p])=cb b ps*2 ^ b+p:=by
 rw[yZ];simp[cb]
def Fo(k:Nat):(0:Int)<2 ^ k:=Int.pow_pos (by decide)
def FA{b:Nat}:∀ {ps:e7},(∀p∈ps,0<=p/\p<2 ^ b)->0<=cb b ps/\cb b ps<2 ^ (b*ps.length):=by
 intro ps h
 induction ps with
 | nil=>simp[cb]
 | cons p r ih =>
  have c:=h p (.head _);have i:=ih λq d=>h q (.tail _ d);have e:cb b (p::r)=p*2 ^ (b*r.length)+cb b r:=by
   have:=yZ b [p] r;simpa [cb] using this
  rw[e,TX,Nat.mul_succ,Int.pow_add];have a:=Fo (b*r.length);generalize (2:Int) ^ (b*r.length)=X at *;generalize (2:Int) ^ b=Y at *;have g:0<=p*X:=Int.mul_nonneg c.1 (Int.le_of_lt a);have f:p*X+X<=X*Y:=by
   have:(p+1)*X<=Y*X:=Int.mul_le_mul_of_nonneg_right (by omega) (Int.le_of_lt a);rw[VO,Int.one_mul]at this;rw[Int.mul_comm X Y];exact this
  omega
abbrev bj(r:e7):Prop:=∀p∈r,0<=p/\p<256
def fA{α:Type}{a:List α}{i:Nat}{y:α}(h:a[i]? = some y):a.take (i+1)=a.take i++[y]:=by rw[VQ,h];rfl
def NC{α β:Type}{xs:List α}{a:List β}{i:Nat}{x:α}(b:a.length=xs.length)(h:xs[i]? = some x):∃y,a[i]? = some y:=by
 have:=(Tz.mp h).1;exact⟨a[i]'(by omega),by simp⟩
def nU{K:W.Frag}{a:Addr}{xs:List V}{cs:St}{h:TE}{H:Hp}{Q:VK}(d:List V)(j:d.length=xs.length)(l:aE K H a xs)(hz:xs.length<=sizeLine)
 (hs:∀(i:Nat) x y b (N:VK),xs[i]? = some x->d[i]? = some y->am H b->(∀c,am b c->N y c)->h (some x::cs) b N) (hd:∀p b,bA H p (.lst d) b->Q (.ref p) b) :
 i5 (jD K a) H (List.replicate 1 none++cs) (bP 0) gA h Q:=by
 refine qO (λi e b=>am H b/\e=d.take i) ⟨am.refl _,rfl⟩ (λi e b m z=>⟨z.1.seq l,by rw[z.2,TyZ];omega⟩) hz (λi x e b N hx z hN=>?_) λe b p c z g=>?_
 ·obtain⟨s,rfl⟩:=z;obtain⟨y,f⟩:=NC j hx;simp only [gA,if_true];exact hs i x y b _ hx f s λc k=>hN _ _ ⟨s.trans k,by rw[fA f]⟩
 ·obtain⟨s,rfl⟩:=z;rw[<- j,TK]at g;exact hd p c (g.after s)
def qN{lo:Int}{n:Nat}{cs:St}{f:TE}{H:Hp}{Q:VK}(c:List V)(k:c.length=n)(hz:n<=sizeLine)
 (hs:∀(i:Nat) y a (N:VK),i<n->c[i]? = some y->am H a->(∀b,am a b->N y b)->f (some (.int (lo+(i:Int)))::cs) a N) (hd:∀p a,bA H p (.lst c) a->Q (.ref p) a) :
 i5 (iC lo n) H (List.replicate 1 none++cs) (bP 0) gA f Q:=by
 refine PC (λi d a=>am H a/\d=c.take i) ⟨am.refl _,rfl⟩ (λi d a h z=>by rw[z.2,TyZ];omega) hz (λi d a N h z hN=>?_) λd a p b z g=>?_
 ·obtain⟨s,rfl⟩:=z;have e:c[i]? = some (c[i]'(by omega)):=by simp
  simp only [gA,if_true];exact hs i (c[i]'(by omega)) a _ h e s λb j=>hN _ _ ⟨s.trans j,by rw[fA e]⟩
 ·obtain⟨s,rfl⟩:=z;rw[<- k,TK]at g;exact hd p b (g.after s)
def dY{ns:e7}{i:Nat}{x:V}(h:(ns.map V.int)[i]? = some x):∃p,ns[i]? = some p/\x=.int p:=by
 rw[Tv]at h;cases e:ns[i]? with
 | none=>rw[e]at h;cases h
 | some p=>rw[e]at h;cases h;exact⟨p,Z,Z⟩
def Pu{α:Type}(xs:List α)(lo a:Option Int):(fM xs lo a).length<=xs.length:=by
 unfold fM;rw[TyZ,Uv];omega
def Ps{α:Type}{xs:List α}{lo a:Option Int}{x:α}(h:x∈fM xs lo a):x∈xs:=UZ (Um h)
def ce{t u:TS}{D:fR}{σ:St}{H:Hp}(M:St->Hp->Prop)(b:∀nx:St->Hp->Prop,(∀σ' H',M σ' H'->nx σ' H')->t { D with nx:=nx } σ H)(a:∀σ' H',M σ' H'->u D σ' H'):mw t u D σ H:=b (u D) a
structure dz (P:Program) (w:World) (K:W.Frag) (mg:Str->Option Value) (base:Heap) (C:Addr) (m:Str) (k:Nat) (f:Addr) (fd:FuncData) (ps:List Str) (sp:Sp):Prop where
 c:dA K C
 mt:bE K C m f
 b:ax K fd ps []
 ok:bL P w K mg base bY k f fd ps sp
structure S9 (P:Program) (w:World) (K:W.Frag) (mg:Str->Option Value) (base:Heap) (x:Str) (C:Addr) (k:Nat) (f:Addr) (fd:FuncData) (ps:List Str) (sp:Sp):Prop where
 g:mg x=some (.ref C)
 mkx:Mk K C f
 b:ax K fd ps []
 ok:bL P w K mg base bY k f fd ps sp
section
variable {X:Cx}{K:W.Frag}{k j:Nat}{f C:Addr}{fd:FuncData}{ps:List Str}{sp:Sp}{x m:Str}{p pos apos pos':Pos}{e o value:Expr}{es:List Expr}{ta tv:TE}{t:TA}
def pq{X:Cx}:iX bY X E0:=λ_ _ _ _ _ _ _ z=>z.elim
def fH{pl:Sem Bool}(F:dz X.prog X.w X.K X.mg X.base C m j f fd ps sp)(d:bO k X.A)(ho:QE X o ta)(i:QA X (e::es) t)(g:j<=k:=by decide)(a:du (e::es)=true:=by rfl)
 (l:eval (.Call (.Attribute o m apos) (e::es) [] pos) X.env=(do
   let ov <- eval o X.env
   standAt apos.atName
   let (f,first) <- holding [ov] (getMethod ov m pl)
   callWith pos f first (backTo pos (starEach (e::es) X.env)) (backToKw pos (keywordEach [] X.env))):=by rfl) :
 QE X (.Call (.Attribute o m apos) (e::es) [] pos) (my C m sp [] E0 ta t) :=
 ⟨AO (pl:=pl) ho.h F.c F.mt F.ok (d.mono g) F.b .nil pq i.h (cq (dq a).1) (gH (dq a).2) l⟩
def eK{pl:Sem Bool}(F:dz X.prog X.w X.K X.mg X.base C m j f fd ps sp)(a:bO k X.A)(ho:QE X o ta)(d:j<=k:=by decide)
 (e:eval (.Call (.Attribute o m apos) [] [] pos) X.env=(do
   let ov <- eval o X.env
   standAt apos.atName
   let (f,first) <- holding [ov] (getMethod ov m pl)
   callWith pos f first (backTo pos (starEach [] X.env)) (backToKw pos (keywordEach [] X.env))):=by rfl) :
 QE X (.Call (.Attribute o m apos) [] [] pos) (my C m sp [] E0 ta i8) :=
 ⟨JO (pl:=pl) ho.h F.c F.mt F.ok (a.mono d) F.b .nil pq e⟩
def aT{f:Str}(h:X.K=K)(a:QE X e ta)(hb:attributeBase e f X.env (eval e X.env)=eval e X.env:=by rfl):QE X (.Attribute e f pos) (zo K ta f):=by subst h;exact⟨JS a.h hb⟩
def dN{f:Str}(h:X.K=K)(a:QE X o ta)(b:QE X value tv)(hs:swapsWith value (some (.Attribute o f pos')) pos.line X.env=pure false:=by rfl):QS X (.Assign [.Attribute o f pos'] value pos) (Aj K ta tv f):=by subst h;exact⟨Jj a.h b.h hs⟩
end
structure rH (K:W.Frag) (C:Addr):Prop where
 makes:W.makesIn K C=true
 init:W.findIn K (.ref C) "__init__" = some (some (.builtin "object.__init__"))
 kp:W.keepIn K (.ref C)=true
def zj(C:Addr):TE:=λ_ H Q=>∀x dx,H x=none->H dx=none->dx≠x->Q (.ref x) (upd (upd H dx (.own x)) x (.ins C dx []))
section
variable {X:Cx}{C:Addr}{x:Str}{p pos:Pos}
def HV{c:List (Addr × Obj)}{σ:St}{H:Hp}{s:fy}{Q:VK}(M:rH X.K C)(I:af X c σ H s)(h:zj C σ H Q) :
 wpAny (model X.prog X.w) X.A (call (.ref C) []) (EP X c σ Q) X.xe s:=by
 have l:=h (s.heap.objs.size+1) s.heap.objs.size (I.hok.fresh (UF _)) (I.hok.fresh (Tp _)) (Tx (TR _));have i:=af.made (C:=C) I;have Y:=W.makes_of (M:=model X.prog X.w) I.kIn M.makes;refine wpAny_call (LL I.kIn M.makes M.init (λself=>W.Looks.of_pure (W.oi_bind self)) ?_);obtain⟨a,g,d,t,os⟩:=s;have k:((a.push W.emptyDict).push (W.instObj C a.objs.size)).get? (a.objs.size+1)=some (W.instObj C a.objs.size):=by
  have:=T6 (a.push W.emptyDict) (o:=W.instObj C a.objs.size) rfl
  rwa [UE]at this
 have f:W.Looks (model X.prog X.w) ((a.push W.emptyDict).push (W.instObj C a.objs.size)) (typeOf (.ref (a.objs.size+1))) (.ref C):=(W.Looks.ld k).andThen .now;have j:W.Looks (model X.prog X.w) ((a.push W.emptyDict).push (W.instObj C a.objs.size)) (isInstance (.ref (a.objs.size+1)) (.type "object")) true :=
  f.andThen (Y.top.keeps λb o e=>Tu _ (Tu _ e))
 refine codeAny_call_builtin W.oi_plain W.entry_oi (@W.check_slot (model X.prog X.w) _ _ _ "object.__init__" "object" "__init__" (.ref (a.objs.size+1)) [] [] _ W.oi_kind W.oi_split j (W.oi_args (.ref (a.objs.size+1))) ?_);rw[W.oi_run];exact on (And.intro Z ⟨V.ref (a.objs.size+1),_,i,Z,l⟩)
def AB(M:rH X.K C)(c:X.mg x=some (.ref C))(d:Gl X x:=by rfl)(a:(x == ("__debug__" : Str))=false:=by decide):QE X (.Call (.Name x p) [] [] pos) (zj C):=⟨by
 intro b s σ H Q I h;refine wpAny_Call_Name_kw (jp I d c ?_ a);exact W.callWith_K0 I.kIn M.kp (HV M I h)⟩
end
structure dR (K:W.Frag) (x qual:Str) (st:Stmt) (f:Addr) (fd:FuncData) (vs:List Value):Prop where
 ex:∃(oc:Value) (od:Option Addr) (kV doc pm:Value) (an:Option Addr) (cdv ct:Value) (osl:Array (Option Value)) (d:Addr) (dc:Value) (dd:Option Addr) (n:Nat) (dsl:Array (Option Value)),
  fd=W.fnOf x qual (aK st) (aI st) (ao st) (.ref d) kV doc pm an cdv ct/\K.lookup f=some ⟨oc,od,.func fd,osl⟩/\W.codeIn K cdv qual=true/\K.lookup d=some ⟨dc,dd,.seq vs.toArray n,dsl⟩
 kp:W.keepIn K (.ref f)=true
section
variable {P:Program}{w:World}{K:W.Frag}{mg:Str->Option Value}{base:Heap}{x qual:Str}{st:Stmt}{f:Addr}{fd:FuncData}{N ps:List Str}{k:Nat}{sp:Sp}{vs:List Value}
def dR.okQ(F:dR K x qual st f fd vs)(S:aL N ps (ao st))(len:∀vs H Q E,sp vs H Q E->vs.length=ps.length)
 (b:∀(a:Value) (A:Around) (outer:List Env) (s:fy) (H:Hp) (vs:List V) (Q:VK) (E:XK),bO k (A.deeper (envOfC qual (ao st) s.heap.objs.size f a))->sp vs H Q E ->
   ∃t,fP (f6 bY P w K mg base N qual (ao st) f a A outer s H E).nox (aI st) t/\t { nx:=λ_ l=>Q .non l,rt:=Q } (gD N vs) H):bL P w K mg base bY (k+1) f fd ps sp:=by
 obtain⟨u,y,kV,g,z,v,a,ct,m,d,p,r,n,o,rfl,j,e,_⟩:=F.ex;refine ud j e S len λA outer s H vs Q E i c=>?_;obtain⟨t,h,q⟩:=b a A outer s H vs Q E i c;exact⟨t,h.h.nox,q⟩
def fZ{o j:Value}{p i m:Option Addr}{g e:Array (Option Value)}{kV b h a ct:Value}{d:Addr}{n:Nat}(l:K.lookup f=some ⟨o,p,.func (W.fnOf x qual (aK st) (aI st) (ao st) (.ref d) kV b h i a ct),g⟩)
 (c:W.codeIn K a qual=true) (k:W.keepIn K (.ref f)=true) (ld:K.lookup d=some ⟨j,m,.seq vs.toArray n,e⟩):dR K x qual st f (W.fnOf x qual (aK st) (aI st) (ao st) (.ref d) kV b h i a ct) vs :=
 ⟨⟨o,p,kV,b,h,i,a,ct,g,d,j,m,n,e,rfl,l,c,ld⟩,k⟩
def dR.binds{ds:List Value}(F:dR K x qual st f fd vs)
 (h:∀(d:Addr) (kV a g:Value) (c:Option Addr) (b ct:Value) (us:List Value),(us++ds).length=ps.length->∃e:Option (Array Value)->Sem (List (Str × Value)),
   bindArgs (W.fnOf x qual (aK st) (aI st) (ao st) (.ref d) kV a g c b ct) ⟨us,[]⟩=seqItems? (.ref d) >>= e/\e (some vs.toArray)=pure (ps.zip (us++ds))):ax K fd ps ds:=by
 obtain⟨v,y,kV,a,g,c,b,ct,j,d,q,r,n,o,rfl,u,k,ld⟩:=F.ex;intro s us i p;obtain⟨e,l,m⟩:=h d kV a g c b ct us p;exact BindsTo.of_defaults (T:=d) Z (i _ _ ld) Z l m
end
structure eY (P:Program) (w:World) (K:W.Frag) (mg:Str->Option Value) (base:Heap) (C:Addr) (m:Str) (k:Nat) (f:Addr) (fd:FuncData) (ps:List Str) (dvs:List V) (sp:Sp):Prop where
 c:dA K C
 mt:bE K C m f
 b:∃ds,ax K fd ps ds/\aJ dvs ds
 ok:bL P w K mg base bY k f fd ps sp
section
variable {X:Cx}{k j:Nat}{f C:Addr}{fd:FuncData}{ps:List Str}{sp:Sp}{m:Str}{pos apos:Pos}{e o:Expr}{es:List Expr}{ta:TE}{t:TA}{dvs:List V}
def db{pl:Sem Bool}(F:eY X.prog X.w X.K X.mg X.base C m j f fd ps dvs sp)(d:bO k X.A)(ho:QE X o ta)(i:QA X (e::es) t)(g:j<=k:=by decide)(a:du (e::es)=true:=by rfl)
 (l:eval (.Call (.Attribute o m apos) (e::es) [] pos) X.env=(do
   let ov <- eval o X.env
   standAt apos.atName
   let (f,first) <- holding [ov] (getMethod ov m pl)
   callWith pos f first (backTo pos (starEach (e::es) X.env)) (backToKw pos (keywordEach [] X.env))):=by rfl) :
 QE X (.Call (.Attribute o m apos) (e::es) [] pos) (my C m sp dvs E0 ta t):=by
 obtain⟨ds,hb,hd⟩:=F.b;exact⟨AO (pl:=pl) ho.h F.c F.mt F.ok (d.mono g) hb hd pq i.h (cq (dq a).1) (gH (dq a).2) l⟩
end
def vI:Value->Option Int
 | .int k _=>some k
 | _=>none
def vR:Value->Option Addr
 | .ref a=>some a
 | _=>none
def EY{v:Value}{k:Int}(h:vI v=some k):∃t,v=.int k t:=by
 cases v<;>cases h;exact⟨_,Z⟩
def EX{v:Value}{a:Addr}(h:vR v=some a):v=.ref a:=by
 cases v<;>cases h
 rfl
def jy:List DictEntry->Option (List (Int × Addr))
 | []=>some []
 | e::r=>(vI e.key).bind λk=>(vR e.val).bind λa=>if e.hash == hashInt k then (jy r).bind λl=>some ((k,a)::l) else none
theorem jy.pairs{P:Program}{w:World}:∀ {es:List DictEntry} {m:List (Int × Addr)},jy es=some m ->
 (∀e∈es,∃k,(cA P w).is k e.key=true/\e.hash=(cA P w).hash k)/\Pairs (cA P w) es (m.map λp=>((Sum.inl p.1:aQ),Value.ref p.2))
 | [],m,h=>by cases h;exact⟨λ_ z=>(nomatch z),.nil⟩
 | e::r,m,h=>by
  obtain⟨k,d,h⟩:=U0.mp h;obtain⟨a,b,h⟩:=U0.mp h;obtain⟨i,d⟩:=EY d;have b:=EX b;by_cases c:e.hash == hashInt k
  ·rw[Ww c]at h;obtain⟨l,q,h⟩:=U0.mp h;cases h;obtain⟨j,g⟩:=jy.pairs (P:=P) (w:=w) q;have f:(cA P w).is (.inl k) e.key=true:=by rw[d];exact Bj P w k i
   refine⟨λx hx=>?_,.cons f b g⟩;cases hx with
   | head=>exact⟨.inl k,f,eq_of_beq c⟩
   | tail _ z=>exact j x z
  ·rw[Wv c]at h;cases h
structure rM (K:W.Frag) (a:Addr) (m:List (Int × Addr)):Prop where
 ex:∃es ep,K.lookup a=some ⟨.type "dict",none,.dict es ep,#[]⟩/\jy es.toList=some m
 nd:(m.map (·.1)).Nodup
 ns:(a == sysModules)=false
def rM.rd{K:W.Frag}{a:Addr}{m:List (Int × Addr)}{P:Program}{w:World}{h:Heap}(D:rM K a m)(X:K.In h):h.DictOf (cA P w) a (m.map λp=>((Sum.inl p.1:aQ),Value.ref p.2)):=by
 obtain⟨es,f,l,e⟩:=D.ex;obtain⟨c,d⟩:=jy.pairs (P:=P) (w:=w) e;refine⟨_,es,f,X _ _ l,⟨rfl,rfl,rfl⟩,rfl,λe g=>c e (Wa.mpr g),d,?_⟩;rw[U1];have:(((λx=>x.1) ∘ λp:Int × Addr=>((Sum.inl p.1:aQ),Value.ref p.2)):Int × Addr->aQ)=(λi:Int=>(Sum.inl i:aQ)) ∘ (·.1):=rfl;rw[this,<- U1];exact List.Pairwise.map _ (λa b (z:a≠b) (q:(Sum.inl a:aQ)=Sum.inl b)=>z (Sum.inl.inj q)) D.nd
def m4(m:List (Int × Addr))(i:Int):Option V:=(m.find? λp=>decide (p.1=i)).map λp=>V.ref p.2
theorem Ck:∀(m:List (Int × Addr)) (i:Int) (z:V) (r:Value),aO z r->aO ((m4 m i).getD z) ((valueAt (m.map λp=>((Sum.inl p.1:aQ),Value.ref p.2)) (Sum.inl i)).getD r)
 | [],i,z,r,h=>h
 | p::m,i,z,r,h=>by
  have ih:=Ck m i z r h;unfold m4 valueAt at ih ⊢;rw[Uc,Ug,Ug];by_cases c:p.1=i
  ·have c':(Sum.inl p.1:aQ)=Sum.inl i:=congrArg _ c;simp only [WA c,WA c',UJ,Option.getD_some]
   rfl
  ·have c':¬(Sum.inl p.1:aQ)=Sum.inl i:=λq=>c (Sum.inl.inj q);simp only [WB c,WB c'];exact ih
def zr(m:List (Int × Addr))(ty b:TE):TE:=λσ H Q=>ty σ H λy c=>b σ c λz a=>∃i,y=.int i/\Q ((m4 m i).getD z) a
section
variable {X:Cx}{K:W.Frag}{a:Addr}{m:List (Int × Addr)}{e f:Expr}{x:Str}{p apos cpos:Pos}{ty tx:TE}
def IL (h:X.K=K) (D:rM K a m) (J:Gl X x) (U:X.mg x=some (.ref a)) (M:QE X e ty) (hf:QE X f tx) (hd:(x == ("__debug__" : Str))=false:=by decide)
 (g:attributeBase (.Name x p) "get" X.env (eval (.Name x p) X.env)=eval (.Name x p) X.env:=by rfl)
 (j:((backTo cpos (starEach [e,f] X.env)).all (λx=>!x.1) && (backToKw cpos (keywordEach [] X.env)).all (λx=>x.1.isSome)
   && decide (([e,f]:List Expr).length+([]:List Keyword).length+(if ([]:List Keyword).isEmpty then 0 else 1)<30))=true:=by rfl)
 (d:(apos.endLine == cpos.line)=true:=by rfl) (l:backTo cpos (starEach [e,f] X.env)=[(false,eval e X.env),(false,eval f X.env)]:=by rfl) :
 QE X (.Call (.Attribute (.Name x p) "get" apos) [e,f] [] cpos) (zr m ty tx):=⟨by
 subst h;intro c s σ H Q I h;have ho:PE X (.Name x p) (tC (.ref a)):=(jl (v:=.ref a) J U rfl hd).h;refine wpAny_Call_method g j d V4 UX V5 (az (ho c s σ H (λv L=>v=.ref a/\zr m ty tx σ L Q) I ⟨rfl,h⟩) λu s1 ⟨x,O,o,G,ex,q1⟩=>?_);subst ex;obtain rfl:u=Value.ref a:=G;have d1:=D.rd (P:=X.prog) (w:=X.w) o.kIn;refine⟨d1.typeIs,λb q=>?_,?_⟩
 ·cases q;obtain⟨R,_,_,S,h2,_⟩:=d1;exact⟨R,S,h2.2.1⟩
 rw[l];refine Calls.callWith_builtin Z (Calls.evalArgs_plain (Calls.spliced_cons (az (M.h c s1 σ O _ o q1) λiv Y ⟨y,H2,B,V,q2⟩ =>
  Calls.spliced_cons (az (hf.h c Y σ H2 _ B q2) λn s3 ⟨z,H3,r,N,i,C,W⟩=>Calls.spliced_nil ?_))))
 subst C;have d3:=D.rd (P:=X.prog) (w:=X.w) r.kIn;exact call_meetsIn UX d3.typeIs VE (PySem.F.args_dict_get_3 _ _ _) (meets_dict_get_default (cA X.prog X.w) a (iM (k:=.inl i) V) D.ns n) ⟨_,d3.mapOf,_,_,r.tok _,Ck m i z n N,W⟩⟩
end
def ij{o:Obj}{vs:Array Value}(hd:o.data=.fields vs)(f:Array Value->Array Value):o.mapFields f = { o with data:=.fields (f vs) }:=by
 obtain⟨c,d,a,b⟩:=o;obtain rfl:a=.fields vs:=hd
 rfl
structure cO (h:Heap) (e C:Addr) (od:Option Addr) (tb:Value) (oe:Obj) (vs:Array Value) (q:Bool:=false):Prop where
 at_:h.get? e=some oe
 cls:oe.cls=.ref C
 dict:oe.dict=od
 data:oe.data=.fields vs
 size:vs.size=6
 tb1:vs[1]? = some tb
 cx:q=false->vs[2]? = some .none
def iV(h:Heap)(e T:Addr)(a:Value):Prop:=∃oT ts,h.get? T=some oT/\oT.data=.fields ts/\ts[3]? = some a/\T≠e
section
variable {M:Model}{A:Around}{E:Value->fy->Prop}{s:fy}
structure mi (l:List Env) (e C T':Addr) (od:Option Addr) (tb fl:Value) (h h':Heap) (q:Bool:=false):Prop where
 keep:∀b o,h.get? b=some o->b≠e->.ref b≠tb->b∉cH l->h'.get? b=some o
 slot:∀b o,h.get? b=some o->b∈cH l->∃sl,h'.get? b=some { o with slots:=sl }
 there:∀b o,h.get? b=some o->∃o',h'.get? b=some o'
 new:h.objs.size<=T'
 size:h.objs.size<=h'.objs.size
 exc:∃oe vs,cO h' e C od (.ref T') oe vs q
 ent:iV h' e T' fl
def Be{base:Heap}{env:Env}{outer:List Env}{L e C:Addr}{i:Option Addr}{f:Obj}{vs:Array Value}{hd tb:Value}{nx q:Bool}{Q:Unit->fy->Prop}
 (hA:A.frames=some (env::outer)) (hF:s.heap.FunFrames base (env::outer)) (hL:env.frame=some L) (x:cO s.heap e C i tb f vs q)
 (k:∀h' T',mi (env::outer) e C T' i .none (rawInt L) s.heap h' q->Q () { s with heap:=h' }) :
 wpAny M A (do let a <- frameOf env;let pl <- entryPlaceOf L nx;let b <- EntryCells.newEntry hd a .none (rawInt L) .none pl;setField (.ref e) 1 b) Q E s:=by
 have ne:e∉cH (env::outer):=λm=>by
  obtain⟨_,o,ho,u⟩:=hF.mem m;rw[x.at_]at ho;cases ho;exact u vs x.data
 refine kb (wpAny_frameOf_fun hA hF hL λc y=>kb (wpAny_entryPlaceOf λpl j=>?_));unfold EntryCells.newEntry newFields;refine kb (wpAny_newObj_type ?_ (j.sizeOk5 _ _ _ _ _));have h:c.get? e=some f:=(y.2.1 e ne).trans x.at_;obtain⟨N,hN⟩:∃N:Obj,N = { cls:=.type "traceback",dict:=none,data:=.fields ([hd,.ref L,.none,rawInt L,.none]++(if pl.isEmpty then List.replicate 6 Value.none else pl)).toArray }:=⟨_,rfl⟩;rw[<- hN];have l:=Tu N h;have nT:c.objs.size≠e:=Ut (Tr h);refine wpAny_setField l x.data (by rw[x.size];decide) (k _ c.objs.size ?_);have d:=U2 (Obj.mapFields (·.setIfInBounds 1 (Value.ref c.objs.size))) l (by rw[ij x.data];rfl);rw[ij x.data]at d;have tN:N.data=.fields ([hd,.ref L,.none,rawInt L,.none]++(if pl.isEmpty then List.replicate 6 Value.none else pl)).toArray:=by rw[hN]
 have v:=(Uw (c.push N) (Obj.mapFields (·.setIfInBounds 1 (Value.ref c.objs.size))) (Ne.symm nT)).trans (T6 c (o:=N) (by rw[hN];rfl));have kp:∀b o,b≠e->c.get? b=some o->((c.push N).update e (Obj.mapFields (·.setIfInBounds 1 (Value.ref c.objs.size)))).get? b=some o:=λb o n q=>by
  rw[Uw _ _ (Ne.symm n)];exact Tu _ q
 have sz:s.heap.objs.size=c.objs.size:=y.1.symm;refine⟨λb o q r _ p=>kp b o r ((y.2.1 b p).trans q),λb o q m=>?_,λb o q=>?_,UU sz,by rw[Vo,UE,sz];exact UF _,⟨_,_,d,x.cls,x.dict,Z,?_,?_,λz=>?_⟩,⟨N,_,v,tN,?_,nT⟩⟩
 ·obtain⟨g,hs⟩:=y.2.2 b o q;exact⟨g,kp b _ (λz=>ne (z ▸ m)) hs⟩
 ·by_cases n:b=e
  ·subst n;exact⟨_,d⟩
  ·obtain⟨g,hs⟩:=y.2.2 b o q;exact⟨_,kp b _ n hs⟩
 ·rw[Wb];exact x.size
 ·have:1<vs.size:=by rw[x.size];decide
  simp[this]
 ·rw[Array.getElem?_setIfInBounds_ne (by decide)];exact x.cx z
 ·rcases j with rfl|⟨_,_,_,_,_,_,_,rfl⟩<;>simp
def rE(h:Heap)(e:Addr)(tb:Value):Prop:=tb=.none\/∃T,tb=.ref T/\iV h e T .none
def Bb{base:Heap}{env:Env}{outer:List Env}{L e C:Addr}{f:Option Addr}{g:Obj}{vs:Array Value}{tb:Value}{q:Bool}{Q:Unit->fy->Prop}
 (hA:A.frames=some (env::outer)) (hF:s.heap.FunFrames base (env::outer)) (hL:env.frame=some L) (x:cO s.heap e C f tb g vs q) (l:rE s.heap e tb)
 (k:∀h' c,mi (env::outer) e C c f tb (rawInt L) s.heap h' q->Q () { s with heap:=h' }):wpAny M A (noteFrame (.ref e) env) Q E s:=by
 unfold noteFrame;simp only [hL];refine kb (wpAny_field x.at_ x.data x.tb1 ?_);rcases l with rfl|⟨T,rfl,oT,ts,hT,dT,fT,nT⟩
 ·rw[Wv (by decide)];exact Be hA hF hL x k
 ·rw[Ww (show (Value.ref T != Value.none)=true by simp)];refine kb (wpAny_field hT dT fT ?_);rw[Wv (show ¬(Value.none == rawInt L)=true by simp[rawInt])];refine kb (wpAny_setField hT dT (Vk.mp fT).1 ?_);have a:∀b,b≠T->(s.heap.update T (Obj.mapFields (·.setIfInBounds 3 Value.none))).get? b=s.heap.get? b:=λb n=>Uw _ _ (Ne.symm n);have self:=U2 (Obj.mapFields (·.setIfInBounds 3 Value.none)) hT (by rw[ij dT];rfl);have nF:T∉cH (env::outer):=λm=>by
   obtain⟨_,o,ho,d⟩:=hF.mem m;rw[hT]at ho;cases ho;exact d ts dT
  refine Be (base:=base) hA (hF.of_keeps λb o q d=>⟨o,(a b λz=>?_).trans q,rfl⟩) hL ⟨(a e (Ne.symm nT)).trans x.at_,x.cls,x.dict,x.data,x.size,x.tb1,x.cx⟩ λh' c N=>k h' c ⟨λb o q j h i=>?_,λb o q m=>?_,λb o q=>?_,by have:=N.new;rwa [Vo]at this,by have:=N.size;rwa [Vo]at this,N.exc,N.ent⟩
  ·subst z;rw[hT]at q;cases q;exact d ts dT
  ·exact N.keep b o ((a b λz=>h (by rw[z])).trans q) j (by simp) i
  ·exact N.slot b o ((a b λz=>nF (z ▸ m)).trans q) m
  ·by_cases n:b=T
   ·subst n;exact N.there _ _ self
   ·exact N.there b o ((a b n).trans q)
def Bz{e C T:Addr}{d:Option Addr}{c:Obj}{vs:Array Value}{g:Value}{q:Bool}{Q:Unit->fy->Prop}(x:cO s.heap e C d (.ref T) c vs q)(t:iV s.heap e T g)
 (k:∀h',h'.objs.size=s.heap.objs.size->(∀b o,s.heap.get? b=some o->b≠T->h'.get? b=some o)->(∀b o,s.heap.get? b=some o->∃o',h'.get? b=some o')->cO h' e C d (.ref T) c vs q->iV h' e T .none->Q () { s with heap:=h' }):wpAny M A (setFlight (.ref e) none) Q E s:=by
 obtain⟨oT,h,hT,dT,fT,nT⟩:=t;unfold setFlight;refine kb (wpAny_field x.at_ x.data x.tb1 ?_);rw[Ww (show (Value.ref T != Value.none)=true by simp)];have z3:=(Vk.mp fT).1;have a:∀b,b≠T->(s.heap.update T (Obj.mapFields (·.setIfInBounds 3 ((none:Option Addr).elim Value.none λf=>rawInt f)))).get? b=s.heap.get? b:=λb n=>Uw _ _ (Ne.symm n);have self:=U2 (Obj.mapFields (·.setIfInBounds 3 ((none:Option Addr).elim Value.none λf=>rawInt f))) hT (by rw[ij dT];rfl);refine wpAny_setField hT dT z3 (k _ (Vo ..) (λb o q n=>(a b n).trans q) (λb o q=>?_) ⟨(a e (Ne.symm nT)).trans x.at_,x.cls,x.dict,x.data,x.size,x.tb1,x.cx⟩ ⟨_,_,self,by rw[ij dT],by simp[z3],nT⟩);by_cases n:b=T
 ·subst n;exact⟨_,self⟩
 ·exact⟨o,(a b n).trans q⟩
def LY{base:Heap}{env:Env}{outer:List Env}{L e C:Addr}{d:Option Addr}{i:Obj}{vs:Array Value}{tb:Value}{q:Bool}{Q:Unit->fy->Prop}
 (hA:A.frames=some (env::outer)) (hF:s.heap.FunFrames base (env::outer)) (hL:env.frame=some L) (x:cO s.heap e C d tb i vs q) (v:rE s.heap e tb)
 (k:∀h' T',mi (env::outer) e C T' d tb .none s.heap h' q->Q () { s with heap:=h' }):wpAny M A (leaving env (.ref e)) Q E s:=by
 unfold leaving;refine kb (Bb hA hF hL x v λF f a=>?_);obtain⟨p,y,g⟩:=a.exc;have c:∀b o,s.heap.get? b=some o->b≠f:=λb o q=>Tx (Ts (Tr q) a.new);refine Bz g a.ent λD sz k2 r u l=>k D f ⟨λb o q B n j=>?_,λb o q m=>?_,λb o q=>?_,a.new,by rw[sz];exact a.size,⟨_,_,u⟩,l⟩
 ·exact k2 b o (a.keep b o q B n j) (c b o q)
 ·obtain⟨h,hs⟩:=a.slot b o q m;exact⟨h,k2 b _ hs (c b o q)⟩
 ·obtain⟨z,hs⟩:=a.there b o q;exact r b z hs
end
def xφ(e C:Addr)(a:Option Addr)(q:Bool):Heap->Prop:=λh=>∃tb oe vs,cO h e C a tb oe vs q
def xν(e C:Addr)(a:Option Addr):Heap->Prop:=λh=>∃oe vs,cO h e C a .none oe vs
def XO(e C:Addr)(a:Option Addr)(q:Bool:=false):HO:=.ext (xφ e C a q)
def XN(e C:Addr)(a:Option Addr):HO:=.ext (xν e C a)
def cO.keeps{h h':Heap}{e C:Addr}{b:Option Addr}{tb:Value}{a:Obj}{vs:Array Value}{q:Bool}(x:cO h e C b tb a vs q)(k:∀o,h.get? e=some o->h'.get? e=some o):cO h' e C b tb a vs q:=⟨k _ x.at_,x.cls,x.dict,x.data,x.size,x.tb1,x.cx⟩
section
variable {P:Program}{w:World}{H:Hp}{h:Heap}{e C:Addr}{od:Option Addr}
def yy{tb:Value}{a:Obj}{vs:Array Value}{q:Bool}(x:cO h e C od tb a vs q):bI P w H h e (XO e C od q) :=
 ⟨⟨tb,a,vs,x⟩,⟨a,x.at_⟩,λ_ _ ⟨tb,a,vs,y⟩ k=>⟨tb,a,vs,y.keeps k⟩⟩
def rP{a:Obj}{vs:Array Value}(x:cO h e C od .none a vs):bI P w H h e (XN e C od) :=
 ⟨⟨a,vs,x⟩,⟨a,x.at_⟩,λ_ _ ⟨a,vs,y⟩ k=>⟨a,vs,y.keeps k⟩⟩
end
def gS(P:Program)(w:World):gx:=λouter H s E v a=>∃(e C T:Addr) (c:Option Addr) (q:Bool) (b:Hp) (d:Obj) (vs:Array Value),v=.ref e/\a.os=s.os/\AllBare a.gens /\
 Un (cH outer) [] H b s.heap a.heap/\bK P w b a.heap/\b e=some (XO e C c q)/\s.heap.get? e=none/\s.heap.objs.size<=T/\s.heap.objs.size<=a.heap.objs.size/\b T=none /\
 cO a.heap e C c (.ref T) d vs q/\iV a.heap e T .none/\E (.ref C) (some e) b
def bI.there{P:Program}{w:World}{H:Hp}{h:Heap}{a:Addr}{o:HO}(x:bI P w H h a o):∃u,h.get? a=some u:=by
 cases o with
 | lst xs=>obtain⟨_,_,_,_,e⟩:=x;exact⟨_,e⟩
 | tup xs=>obtain⟨_,_,_,b,e,_⟩:=x;exact⟨_,e⟩
 | dK kvs=>obtain⟨_,_,_,_,b,_,_,e,_⟩:=x;exact⟨_,e⟩
 | dT kvs=>obtain⟨_,_,_,_,b,_,_,e,_⟩:=x;exact⟨_,e⟩
 | set S n=>obtain⟨b,_,_,_,e,_⟩:=x;exact⟨_,e⟩
 | ins C dx fs=>obtain⟨_,_,_,e,_⟩:=x;exact⟨_,e⟩
 | own y=>exact x
 | xd fs=>obtain⟨_,⟨_,_,_,e,_⟩,_⟩:=x;exact⟨_,e⟩
 | rng lo hi=>obtain⟨_,_,_,e⟩:=x;exact⟨_,e⟩
 | frz b u=>obtain⟨e,_⟩:=x;exact⟨_,e⟩
 | tbl ps=>exact⟨_,show h.get? a=some _ from x⟩
 | met f y=>exact⟨_,show h.get? a=some _ from x⟩
 | ext φ=>exact x.2.1
def rL(X:Cx)(a:List (Addr × Obj))(Es:St->XK)(v:Value)(c:fy):Prop:=∃(σ:St) (b:Hp) (e C:Addr) (d:Option Addr) (q:Bool) (tb:Value) (f:Obj) (vs:Array Value),v=.ref e/\af X a σ b c /\
 b e=some (XO e C d q)/\cO c.heap e C d tb f vs q/\rE c.heap e tb/\(∀T,tb=.ref T->b T=none/\X.s₀.heap.objs.size<=T/\∀p∈X.pn++a,p.1≠T)/\(X.ex=[]->X.s₀.heap.get? e=none)/\Es σ (.ref C) (some e) b
structure jB (X:Cx) (Es:St->XK):Prop where
 up:∀pins v s',rL X pins Es v s'->X.xe v s'
section
variable {X:Cx}{pins:List (Addr × Obj)}{σ:St}{H:Hp}{s s':fy}{Es:St->XK}{v:Value}
def af.newx{e:Addr}(I:af X pins σ H s)(hx:X.ex=[])(a:s.heap.get? e=none):X.s₀.heap.get? e=none:=by
 cases q:X.s₀.heap.get? e with
 | none=>rfl
 | some o =>
  obtain⟨b,z⟩:=I.base.there e o q (by rw[hx];simp);rw[a]at z;cases z
def OV(I:af X pins σ H s)(h:gS X.prog X.w X.stack H s (Es σ) v s'):rL X pins Es v s':=by
 obtain⟨e,C,T,k,g,f,c,vs,rfl,ho,d,un,hok,hx,j,hT,hz,nT,x,tb,q⟩:=h;refine⟨σ,f,e,C,k,g,.ref T,c,vs,rfl,I.call' (ch:=[]) ho un hok d (λb z=>Wx z (by simp)),hx,x,.inr ⟨T,rfl,tb⟩,λl z=>?_,λa=>I.newx a j,q⟩;cases z;refine⟨nT,TH I.sz hT,λp i z=>?_⟩;exact Wx (Ts (Tr (I.pin p i).1) hT) (by rw[z];exact Ua _)
def af.old_x{e C:Addr}{a:Option Addr}(I:af X pins σ H s)(hx:H e=some (XN e C a)):af X pins σ (upd H e (XO e C a)) s:=by
 obtain⟨⟨c,vs,x⟩,_⟩:=I.hok e _ hx;have q:=af.write (t':=s.toks) (e:=e) (h':=s.heap) (o:=XO e C a) I (by rw[hx];trivial) (.inl rfl) (λb u _ z=>z) ⟨_,x.at_⟩ (yy x);exact q
def OU{e C:Addr}{a:Option Addr}(I:af X pins σ H s)(hx:H e=some (XN e C a))(c:X.ex=[]->X.s₀.heap.get? e=none)(q:Es σ (.ref C) (some e) (upd H e (XO e C a))):rL X pins Es (.ref e) s:=by
 obtain⟨⟨b,vs,x⟩,_⟩:=I.hok e _ hx;exact⟨σ,_,e,C,a,false,.none,b,vs,rfl,I.old_x hx,aV,x,.inl rfl,λT z=>(by cases z),c,q⟩
def mi.hok{P:Program}{w:World}{l:List Env}{e C i:Addr}{g:Option Addr}{tb j:Value}{h h':Heap}{f:Bool}(N:mi l e C i g tb j h h' f)(ok:bK P w H h)(hx:H e=some (XO e C g f))(p:∀T,tb=.ref T->H T=none)
 (hf:∀b∈cH l,H b=none):bK P w H h':=λb o q=>by
 have kp:∀c u d,H c=some u->c≠e->h.get? c=some d->h'.get? c=some d:=λc u d z n y=>N.keep c d y n (λk=>by rw[p c k.symm]at z;cases z) λm=>by rw[hf c m]at z;cases z
 by_cases n:b=e
 ·subst n;rw[hx]at q;cases q;obtain⟨r,vs,x⟩:=N.exc;exact yy x
 ·refine (ok b o q).stay (λc u a y=>?_) (λ_ z=>z) λ_ _ z=>z;rcases a with rfl|a
  ·exact kp c o u q n y
  ·refine kp c _ u a (λz=>?_) y;rw[z,hx]at a;cases a
end
def LW{P:Program}{w:World}{K:W.Frag}{mg:Str->Option Value}{base:Heap}{Ns:List Str}{qual:Str}{scope:Scope}{f:Addr}{c:Value}{A:Around}{outer:List Env}{s:fy}{H:Hp}{E:XK} :
 jB (f6 (gS P w) P w K mg base Ns qual scope f c A outer s H E) (λ_=>E):=⟨by
 rintro k v M ⟨σ,h,e,C,r,J,tb,R,vs,rfl,I,hx,x,G,hT,l,q⟩;refine LY (base:=base) I.ok.frames I.stack Z x G λS a N=>?_;have L:s.heap.objs.size<=(f6 (gS P w) P w K mg base Ns qual scope f c A outer s H E).env.locals:=I.ok.above;have B:∀b o,s.heap.get? b=some o->b∉cH outer->b∉cH (f6 (gS P w) P w K mg base Ns qual scope f c A outer s H E).stack:=λb o z n m=>by
  rcases TF.mp (I.stkSub b m) with y|y
  ·exact Wx (Ts (Tr z) L) (by rw[y];exact Ua _)
  ·exact n y
 have nx:∀b:Addr,b∉([]:List Addr):=λb z=>by cases z
 have ne:∀b o,s.heap.get? b=some o->b≠e:=λb o z y=>by
  have:=l rfl;rw[<- y]at this;have z2:(f6 (gS P w) P w K mg base Ns qual scope f c A outer s H E).s₀.heap.get? b=some o:=z;rw[this]at z2;cases z2
 have p:∀b o,s.heap.get? b=some o->Value.ref b≠tb:=λb o z y=>Wx (Ts (Tr z) (hT b y.symm).2.1) (Ua _);obtain⟨i,d,D⟩:=N.exc;have g:h a=none:=by
  cases z:h a with
  | none=>rfl
  | some o =>
   obtain⟨u,y⟩:=bI.there (I.hok a o z);exact Wx (Ts (Tr y) N.new) (Ua _)
 refine⟨e,C,a,r,J,h,i,d,Z,I.os,I.bare,⟨λb o z n m _=>?_,λb o z n m _=>?_,λb o z n _=>?_,λb o z _=>?_,I.base.tups,I.base.frzs,I.base.tbls⟩,
  N.hok I.hok hx (λT z=>(hT T z).1) I.stkFree,hx,l rfl,TH I.sz N.new,TH I.sz N.size,g,D,N.ent,q⟩
 ·exact N.keep b o (I.base.keep b o z n m (nx b)) (ne b o z) (p b o z) (B b o z m)
 ·obtain⟨O,y⟩:=I.base.slot b o z n m (nx b);obtain⟨j,F⟩:=N.slot b _ y (by show b∈cH (_::outer);unfold cH;rw[Vc];exact TW _ m);exact⟨j,F⟩
 ·exact I.base.free b o z n (nx b)
 ·obtain⟨o1,y⟩:=I.base.there b o z (nx b);exact N.there b o1 y⟩
section
variable {P:Program}{w:World}{K:W.Frag}{mg:Str->Option Value}{base:Heap}{x qual:Str}{st:Stmt}{f:Addr}{fd:FuncData}{N ps:List Str}{k:Nat}{sp:Sp}{ds:List Value}
def aR.okX(F:aR K x qual st f fd)(S:aL N ps (ao st))(len:∀vs H Q E,sp vs H Q E->vs.length=ps.length)
 (b:∀(a:Value) (A:Around) (outer:List Env) (s:fy) (H:Hp) (vs:List V) (Q:VK) (E:XK),bO k (A.deeper (envOfC qual (ao st) s.heap.objs.size f a))->sp vs H Q E ->
   ∃t,fP (f6 (gS P w) P w K mg base N qual (ao st) f a A outer s H E) (aI st) t/\t { nx:=λ_ i=>Q .non i,rt:=Q } (gD N vs) H):bL P w K mg base (gS P w) (k+1) f fd ps sp:=by
 obtain⟨p,o,kV,e,m,n,a,ct,l,rfl,j,d⟩:=F.ex;exact ud j d S len λA outer s H vs Q E g c=>let ⟨t,h,q⟩:=b a A outer s H vs Q E g c;⟨t,h.h,q⟩
end
structure Dz (P:Program) (w:World) (K:W.Frag) (mg:Str->Option Value) (base:Heap) (x:Str) (k:Nat) (f:Addr) (fd:FuncData) (ps:List Str) (dvs:List V) (sp:Sp):Prop where
 g:mg x=some (.ref f)
 kp:W.keepIn K (.ref f)=true
 b:∃ds,ax K fd ps ds/\aJ dvs ds
 ok:bL P w K mg base (gS P w) k f fd ps sp
structure S6 (P:Program) (w:World) (K:W.Frag) (mg:Str->Option Value) (base:Heap) (C:Addr) (m:Str) (k:Nat) (f:Addr) (fd:FuncData) (ps:List Str) (dvs:List V) (sp:Sp):Prop where
 c:dA K C
 mt:bE K C m f
 b:∃ds,ax K fd ps ds/\aJ dvs ds
 ok:bL P w K mg base (gS P w) k f fd ps sp
structure S8 (P:Program) (w:World) (K:W.Frag) (mg:Str->Option Value) (base:Heap) (x:Str) (C:Addr) (k:Nat) (f:Addr) (fd:FuncData) (ps:List Str) (dvs:List V) (sp:Sp):Prop where
 g:mg x=some (.ref C)
 mkx:Mk K C f
 b:∃ds,ax K fd ps ds/\aJ dvs ds
 ok:bL P w K mg base (gS P w) k f fd ps sp
def FK(sp:Sp)(a:List V)(Es:St->XK)(t:TA):TE:=λσ H Q=>t σ H λvs b=>sp (vs++a) b Q (Es σ)
section
variable {X:Cx}{k j:Nat}{f C:Addr}{fd:FuncData}{ps:List Str}{sp:Sp}{x m:Str}{p pos apos:Pos}{e o:Expr}{es:List Expr}{ta:TE}{t:TA}{dvs:List V}{ds:List Value}{Es:St->XK}
def HU{a:List (Addr × Obj)}{σ:St}{H:Hp}{s:fy}{Q:VK}{us:List Value}{vs:List V}(F:bL X.prog X.w X.K X.mg X.base (gS X.prog X.w) k f fd ps sp)(d:bO k X.A)(hb:ax X.K fd ps ds)(hd:aJ dvs ds)(hx:jB X Es)
 (I:af X a σ H s) (r:aJ vs us) (h:sp (vs++dvs) H Q (Es σ)):wpAny (model X.prog X.w) X.A (call (.ref f) us) (EP X a σ Q) X.xe s:=by
 have c:aJ (vs++dvs) (us++ds):=r.append hd;refine wpAny_call (codeAny_mono (F.run X.A X.stack s H ⟨us,[]⟩ (us++ds) (vs++dvs) Q (Es σ) d I.env0 (hb s us I.kIn (by rw[<- c.length];exact F.len _ _ _ _ h)) c h) λr g b=>?_);cases r with
 | error e=>exact hx.up _ _ _ (OV I b)
 | ok fl =>
  cases fl with
  | ret u=>exact I.after b
  | next=>exact b.elim
  | brk=>exact b.elim
  | cont=>exact b.elim
def IM(F:Dz X.prog X.w X.K X.mg X.base x j f fd ps dvs sp)(m:bO k X.A)(hx:jB X Es)(o:QA X (e::es) t)(n:j<=k:=by decide)(l:Gl X x:=by rfl)
 (c:(x == ("__debug__" : Str))=false:=by decide) (i:du (e::es)=true:=by rfl):QE X (.Call (.Name x p) (e::es) [] pos) (FK sp dvs Es t):=⟨by
 intro a s σ H Q I h;obtain⟨ds,hb,hd⟩:=F.b;refine wpAny_Call_Name_kw (jp I l F.g ?_ c);refine W.callWith_K (h₀:=X.base) I.ok.mod.kin F.kp (az (o.h pos a s σ H _ I h) λus s1 ⟨vs,u,d,r,q⟩=>⟨d.kIn,?_⟩) (cq (dq i).1) (gH (dq i).2);exact HU F.ok (m.mono n) hb hd hx d r q⟩
end
section
variable {X:Cx}{pins:List (Addr × Obj)}{σ:St}{H:Hp}{s:fy}{h':Heap}
def af.adopt{e:Addr}{o:HO}{t':Nat}(I:af X pins σ H s)(k:∀b u,s.heap.get? b=some u->h'.get? b=some u)(d:s.heap.get? e=none)(new:bI X.prog X.w (upd H e o) h' e o):af X pins σ (upd H e o) { s with heap:=h',toks:=t' }:=by
 have a:H e=none:=by
  cases q:H e with
  | none=>rfl
  | some u=>obtain⟨z,y⟩:=bI.there (I.hok e u q);rw[d]at y;cases y
 have ne:∀b u,s.heap.get? b=some u->b≠e:=λb u q z=>by rw[z,d]at q;cases q
 refine I.un ⟨λb u q _ _ _=>k b u q,λb u q _ _ _=>⟨u.slots,k b u q⟩,λb u q n _=>by rw[au (ne b u q)];exact n,λb u q _=>⟨u,k b u q⟩,λb xs q=>by rw[au (ba q a)];exact q,λb u xs q=>by rw[au (ba q a)];exact q,λb ps q=>⟨#[],by rw[au (ba q a),q];simp⟩⟩ λb u q=>?_;by_cases hb:b=e
 ·subst hb;rw[aV]at q;cases q;exact new
 ·rw[au hb]at q;exact (I.hok b u q).stay (λc v _ z=>k c v z) (λc z=>by rw[au (ba z a)];exact z) λc xs z=>by rw[au (ba z a)];exact z
end
abbrev iB:List Value:=[.type "ValueError",.type "Exception",.type "BaseException",.type "object"]
section
variable {X:Cx}{pins:List (Addr × Obj)}{σ:St}{H:Hp}{s:fy}{h':Heap}
def oE{M:Model}{A:Around}{E:Value->fy->Prop}{j:Nat}{n:Str}{pos:Pos}{Q:Unit->fy->Prop}(I:af X pins σ H s)(hN:X.N.Nodup)(l:X.N[j]? = some n)(B:X.env.scope.names.lookup n=some .local)
 (k:∀s',af X pins (σ.set j none) H s'->Q () s'):wpAny M A (do bindName X.env n .none;unbindBehindTheSuite X.env n pos) Q E s:=by
 have h:j<σ.length:=by rw[I.len];exact (Tz.mp l).1
 refine kb (wpAny_bindName (jK (v:=.non) I hN l (.inl B) Z (λs1 a=>?_) (.inr B)));have G:X.env.kindOf n=some .local:=B;have R:(X.env.scope.kind == .class || (X.env.scope.kind == .module && X.env.locals != X.env.globals))=false:=by rw[I.ok.kind];rfl
 obtain⟨m,O,J⟩:=id a.loc;obtain⟨u,_,look⟩:=J j n .non l (by rw[Vd h]) (.inl B);have hm:m n=some u:=by
  rcases look with z|⟨z,_⟩
  ·exact z.2
  ·rcases z with z|z<;>(rw[G]at z;cases z)
 unfold unbindBehindTheSuite;refine wpAny_onRaise ?_;unfold unbindName;refine kb (wpAny_point (kb ?_));unfold deleteName;simp only [G,R];rw[Wv (by decide)];refine kb (wpAny_nsDel_keeps O λh2 v D sb=>?_);rw[hm];simp only [Option.isSome_some,if_true,UN,Uh,if_false];refine on (wpAny_point (k _ ?_));obtain⟨oL,_,_,hoL,_⟩:=id O;have f:∀b o,X.s₀.heap.get? b=some o->b≠X.env.locals:=λb o e=>Tx (Ts (Tr e) I.ok.above);refine⟨a.ok,a.os,a.bare,⟨λb o e g hb hx=>(sb.2 b (f b o e)).trans (a.base.keep b o e g hb hx),λb o e g hb hx=>?_,a.base.free,λb o e hx=>?_,a.base.tups,a.base.frzs,a.base.tbls⟩,⟨_,D,λi y w F r U=>?_⟩,λy c e=>?_,a.free,a.freeC,λp C=>?_,λb Y e=>?_,?_⟩
 ·obtain⟨S,z⟩:=a.base.slot b o e g hb hx;exact⟨S,(sb.2 b (f b o e)).trans z⟩
 ·obtain⟨o',z⟩:=a.base.there b o e hx;exact⟨o',(sb.2 b (f b o e)).trans z⟩
 ·by_cases c:i=j
  ·subst c;rw[Vd h]at r;cases r
  ·rw[Ve (Ne.symm c)]at r;obtain⟨V,W,q⟩:=J i y w F (by rw[Ve (Ne.symm c)];exact r) U;refine⟨V,W,?_⟩;rcases q with ⟨z1,z2⟩|⟨z1,cc,z2,z3⟩
   ·refine .inl ⟨z1,?_⟩;have:y≠n:=λz=>c (sP hN F (z ▸ l));simp[this,z2]
   ·exact .inr ⟨z1,cc,z2,z3.sameBut sb (a.cne y cc z2)⟩
 ·obtain⟨L,z⟩:=a.cell y c e;exact⟨L,z.sameBut sb (a.cne y c e)⟩
 ·obtain⟨e,g,ne,nf,d⟩:=a.pin p C;exact⟨(sb.2 p.1 ne).trans e,g,ne,nf,d⟩
 ·refine (a.hok b Y e).stay (λc L x q=>(sb.2 c ?_).trans q) (λ_ q=>q) λ_ _ q=>q;rintro rfl;rcases x with rfl|x
  ·rw[a.free]at e;cases e
  ·rw[a.free]at x;cases x
 ·rw[List.length_set];exact I.len
abbrev Cx.tryc(X:Cx)(pn:List (Addr × Obj))(W:Value->fy->Prop):Cx:={ X with pn:=pn,xe:=W }
abbrev Cx.hand(X:Cx)(e:Addr)(W:Value->fy->Prop):Cx:={ X with A:=X.A.mark (some (.ref e)),calm:=false,xe:=W }
def Cx.Ok.tryc{pn:List (Addr × Obj)}{W:Value->fy->Prop}(ok:X.Ok):(X.tryc pn W).Ok :=
 ⟨ok.mod,ok.kind,ok.glob,ok.blt,ok.above,ok.inj,ok.has,ok.cab,ok.hd,ok.frames,ok.stk,ok.exf,ok.bs,ok.bsz,ok.noex,ok.exfs,ok.funs,ok.frf⟩
def Cx.Ok.untry{pn:List (Addr × Obj)}{W:Value->fy->Prop}(ok:(X.tryc pn W).Ok):X.Ok :=
 ⟨ok.mod,ok.kind,ok.glob,ok.blt,ok.above,ok.inj,ok.has,ok.cab,ok.hd,ok.frames,ok.stk,ok.exf,ok.bs,ok.bsz,ok.noex,ok.exfs,ok.funs,ok.frf⟩
def af.tryc{W:Value->fy->Prop}(I:af X pins σ H s):af (X.tryc (X.pn++pins) W) [] σ H s :=
 ⟨I.ok.tryc,I.os,I.bare,I.base,I.loc,I.cell,I.free,I.freeC,λp a=>I.pin p (by simpa using a),I.hok,I.len⟩
def af.untry{W:Value->fy->Prop}{a:List (Addr × Obj)}(I:af (X.tryc (X.pn++pins) W) a σ H s):af X pins σ H s :=
 ⟨I.ok.untry,I.os,I.bare,I.base,I.loc,I.cell,I.free,I.freeC,λp b=>I.pin p (Ub _ b),I.hok,I.len⟩
def af.hand{e:Addr}{W:Value->fy->Prop}(I:af X pins σ H s):af (X.hand e W) pins σ H s :=
 ⟨⟨I.ok.mod,I.ok.kind,I.ok.glob,I.ok.blt,I.ok.above,I.ok.inj,I.ok.has,I.ok.cab,(λz=>nomatch z),I.ok.frames,I.ok.stk,I.ok.exf,I.ok.bs,I.ok.bsz,I.ok.noex,I.ok.exfs,I.ok.funs,I.ok.frf⟩,I.os,I.bare,I.base,I.loc,I.cell,I.free,I.freeC,I.pin,I.hok,I.len⟩
def af.unhand{e:Addr}{W:Value->fy->Prop}(I:af (X.hand e W) pins σ H s)(hd:X.calm=true->X.A.handled=none):af X pins σ H s :=
 ⟨⟨I.ok.mod,I.ok.kind,I.ok.glob,I.ok.blt,I.ok.above,I.ok.inj,I.ok.has,I.ok.cab,hd,I.ok.frames,I.ok.stk,I.ok.exf,I.ok.bs,I.ok.bsz,I.ok.noex,I.ok.exfs,I.ok.funs,I.ok.frf⟩,I.os,I.bare,I.base,I.loc,I.cell,I.free,I.freeC,I.pin,I.hok,I.len⟩
def SP.untry{W:Value->fy->Prop}{D:fR}{f:Flow}(h:SP (X.tryc (X.pn++pins) W) [] D f s):SP X pins D f s:=by
 cases f with
 | next=>obtain⟨b,a,I,q⟩:=h;exact⟨b,a,I.untry,q⟩
 | brk=>obtain⟨b,a,I,q⟩:=h;exact⟨b,a,I.untry,q⟩
 | cont=>obtain⟨b,a,I,q⟩:=h;exact⟨b,a,I.untry,q⟩
 | ret u=>obtain⟨v,b,a,I,r,q⟩:=h;exact⟨v,b,a,I.untry,r,q⟩
def af.noTb{T e:Addr}{f:Value}(I:af X pins σ H s)(t:iV s.heap e T f):T≠X.env.locals/\∀x c,X.env.cells.lookup x=some c->c≠T:=by
 obtain⟨oT,h,b,a,_⟩:=t;refine⟨λz=>?_,λx c d z=>?_⟩
 ·obtain⟨m,⟨o,es,g,ho,hd,_⟩,_⟩:=I.loc;rw[<- z,b]at ho;cases ho;rw[a]at hd;cases hd
 ·obtain⟨v,o,ho,hd⟩:=I.cell x c d;rw[z,b]at ho;cases ho;rw[a]at hd;cases hd
def af.noted{e C d:Addr}{f:Option Addr}{tb k:Value}{a:Bool}(I:af X pins σ H s)(hx:H e=some (XO e C f a))(u:rE s.heap e tb)(hT:∀T,tb=.ref T->H T=none/\X.s₀.heap.objs.size<=T/\∀p∈X.pn++pins,p.1≠T)
 (N:mi X.stack e C d f tb k s.heap h' a):af X pins σ H { s with heap:=h' }:=by
 have ne:∀b,H b=none->b≠e:=λb n z=>by rw[z,hx]at n;cases n
 have ok:=N.hok I.hok hx (λT z=>(hT T z).1) I.stkFree;have un:∀ch:List Addr,(∀T,tb=.ref T->T∈ch)->Un (cH X.stack) ch H H s.heap h':=λch i=>⟨λb o q n m c=>N.keep b o q (ne b n) (λz=>c (i b z.symm)) m,λb o q n m c=>N.slot b o q m,λ_ _ _ n _=>n,λb o q _=>N.there b o q,λ_ _ q=>q,λ_ _ _ q=>q,λb ps q=>⟨#[],by rw[q];simp⟩⟩;rcases u with rfl|⟨T,rfl,t⟩
 ·exact I.call (g':=s.gens) (d':=s.drawn) (t':=s.toks) (ch:=[]) (un [] λT z=>by cases z) ok I.bare λb z=>Wx z (by simp)
 ·refine I.call (g':=s.gens) (d':=s.drawn) (t':=s.toks) (ch:=[T]) (un [T] λd z=>by cases z;simp) ok I.bare λb hb=>?_;have r:b=T:=by simpa using hb
  subst r;obtain⟨v,j,l⟩:=hT b rfl;obtain⟨g,h⟩:=I.noTb t;exact⟨.inr j,g,h,l⟩
end
def y8(K:W.Frag)(c:Value)(tb:(St->XK)->TS)(j:Nat)(d:TS):TS:=λD σ H=>∃Eb:St->XK,tb Eb D σ H/\∀σ' C e od qq H',Eb σ' (.ref C) (some e) H'->H' e=some (XO e C od qq)->W.exmOne K (.ref C) c=some true /\
 d { nx:=λb a=>D.nx (b.set j none) a,rt:=D.rt,bk:=λb a=>D.bk (b.set j none) a,ct:=λb a=>D.ct (b.set j none) a } (σ'.set j (some (.ref e))) H'
section
variable {X:Cx}{y n:Str}{np hpos pos:Pos}{body suite:List Stmt}{b₀:Stmt}{Cy:Addr}{tb:(St->XK)->TS}{th:TS}{j:Nat}{hs:List ExceptHandler}
def Iu(l:X.stack=X.env::X.outer/\X.env.frame=some X.env.locals)(hN:X.N.Nodup)(hj:X.N[j]? = some n)(hk:X.env.scope.names.lookup n=some .local)(hm:X.mg y=some (.ref Cy))(hb:∀pn W Eb,jB (X.tryc pn W) Eb->fP (X.tryc pn W) body (tb Eb))(hh:∀e,fP (X.hand e λ_ _=>False) (b₀::suite) th)
 (hg:Gl X y:=by rfl) (hd:(y == ("__debug__" : Str))=false:=by decide):QS X (.Try body (.ExceptHandler (some (.Name y np)) (some n) (b₀::suite) hpos::hs) [] [] pos) (y8 X.K (.ref Cy) tb j th):=⟨by
 intro a s σ H D I h;obtain⟨Eb,h1,h2⟩:=h;have L:jB (X.tryc (X.pn++a) (rL X a Eb)) Eb:=⟨by
  rintro aj v s' ⟨S,k,e,C,od,qq,a6,oe,vs,hv,I',hx,x,ht,hT,he,q⟩;exact⟨S,k,e,C,od,qq,a6,oe,vs,hv,I'.untry,hx,x,ht,λT z=>⟨(hT T z).1,(hT T z).2.1,λp hp=>(hT T z).2.2 p (Ub _ hp)⟩,he,q⟩⟩
 refine wpAny_Try_except (wpAny_mono ((hb _ _ Eb L).h [] s σ H D I.tryc h1) (λf s1 q=>?_) λv s1 q=>?_)
 ·cases f with
  | next=>obtain⟨S,k,I',q⟩:=q;exact wpAny_execs_nil ⟨S,k,I'.untry,q⟩
  | brk=>exact SP.untry (f:=.brk) q
  | cont=>exact SP.untry (f:=.cont) q
  | ret u=>exact SP.untry (f:=.ret u) q
 ·obtain⟨S,k,e,C,od,qq,a6,oe,vs,rfl,I1,hx,x,ht,hT,he,q⟩:=q;obtain⟨hex,ap⟩:=h2 S C e od qq k q hx;have al:X.A.frames=some (X.env::X.outer):=by rw[<- l.1];exact I1.ok.frames
  have ak:s1.heap.FunFrames X.base (X.env::X.outer):=by rw[<- l.1];exact I1.stack
  refine Bb (base:=X.base) al ak l.2 x ht λaU i N1=>?_;rw[<- l.1]at N1;have I2:=I1.noted hx ht hT N1;obtain⟨am,aR,x1⟩:=N1.exc;have G:X.s₀.heap.objs.size<=i:=TH I1.sz N1.new;have d:k i=none:=by
   cases z:k i with
   | none=>rfl
   | some o =>
    obtain⟨u,w⟩:=bI.there (I1.hok i o z);exact Wx (Ts (Tr w) N1.new) (Ua _)
  have a0:∀p∈X.pn++a,p.1≠i:=λp hp z=>Wx (Ts (Tr (I1.pin p hp).1) N1.new) (by rw[z];exact Ua _);have F:∀ {M:Model} {A:Around} {Ex:Value->fy->Prop} {fl:Value} {B:fy} {R:Obj} {a2:Array Value} {Q:Unit->fy->Prop},af X a S k B->cO B.heap e C od (.ref i) R a2 qq->iV B.heap e i fl ->
   (∀V,af X a S k V->cO V.heap e C od (.ref i) R a2 qq->iV V.heap e i .none->Q () V)->wpAny M A (setFlight (.ref e) none) Q Ex B:=λ{M A Ex fl B R a2 Q} J y t kk=>by
   refine Bz y t λh3 sz k3 t3 y3 e3=>kk { B with heap:=h3 } ?_ y3 e3;have ad:bK X.prog X.w k h3:=λb o z=>by
    refine (J.hok b o z).stay (λc u hc w=>k3 c u w λv=>?_) (λ_ q=>q) λ_ _ q=>q;rcases hc with rfl|hc
    ·rw[v,d]at z;cases z
    ·rw[v,d]at hc;cases hc
   refine J.call (g':=B.gens) (d':=B.drawn) (t':=B.toks) (ch:=[i]) ⟨λb o z n m c=>k3 b o z (by simpa using c),λb o z n m c=>⟨o.slots,k3 b o z (by simpa using c)⟩,λ_ _ _ n _=>n,λb o z _=>t3 b o z,λ_ _ z=>z,λ_ _ _ z=>z,λb ps z=>⟨#[],by rw[z];simp⟩⟩ ad J.bare λb ai=>?_;have eb:b=i:=by simpa using ai
   subst eb;obtain⟨g1,g2⟩:=J.noTb t;exact⟨.inr G,g1,g2,a0⟩
  refine F I2 x1 N1.ent λV I3 x3 t3=>?_;refine wpAny_handleBy_cons (codeAny_handlers_test ?_) (by intro z;cases z);refine jp (X:=X.hand e λ_ _=>False) I3.hand hg hm ?_ hd;have LT:W.Looks (model X.prog X.w) V.heap (typeOf (.ref e)) (.ref C):=by
   have z:W.Looks (model X.prog X.w) V.heap (typeOf (.ref e)) am.cls:=(W.Looks.ld x3.at_).andThen .now;rw[x3.cls]at z;exact z
  refine (W.exm_one I3.kIn LT hex) _ _ _ _ (λb o w=>w) ?_;refine codeAny_handlers_suite_as (F I3 x3 t3 λs4 I4 x4 t4=>?_);refine jK (v:=.ref e) I4 hN hj (.inl hk) Z (λs5 I5=>?_) (.inr hk);refine wpAny_mono ((hh e).h a s5 _ k _ (I5.hand (e:=e)) ap) (λf s6 g=>?_) λ_ _ z=>z.elim;have r:=I.ok.hd;cases f with
  | next =>
   obtain⟨σ6,Y,U,g⟩:=g;exact oE (U.unhand r) hN hj hk λs7 O=>⟨_,Y,O,g⟩
  | brk =>
   obtain⟨σ6,Y,U,g⟩:=g;exact oE (U.unhand r) hN hj hk λs7 O=>⟨_,Y,O,g⟩
  | cont =>
   obtain⟨σ6,Y,U,g⟩:=g;exact oE (U.unhand r) hN hj hk λs7 O=>⟨_,Y,O,g⟩
  | ret u =>
   obtain⟨v,σ6,Y,U,r6,g⟩:=g;exact oE (U.unhand r) hN hj hk λs7 O=>⟨v,_,Y,O,r6,g⟩⟩
end
structure oo (P:Program) (w:World) (K:W.Frag) (mg:Str->Option Value) (base:Heap) (x:Str) (C:Addr) (k:Nat) (f:Addr) (fd:FuncData) (ps:List Str) (dvs:List V) (sp:Sp):Prop where
 g:mg x=some (.ref C)
 mkx:Mk K C f
 b:∃ds,ax K fd ps ds/\aJ dvs ds
 ok:bL P w K mg base bY k f fd ps sp
section
variable {X:Cx}{k j:Nat}{f C:Addr}{fd:FuncData}{ps:List Str}{sp:Sp}{x:Str}{p pos:Pos}{e:Expr}{es:List Expr}{t:TA}{dvs:List V}
def cS{b c:TE}(f:QE X e b)(d:QE X e c):QE X e (λσ H Q=>b σ H Q\/c σ H Q) :=
 ⟨λa s σ H Q I z=>z.elim (f.h a s σ H Q I) (d.h a s σ H Q I)⟩
def mO(F:oo X.prog X.w X.K X.mg X.base x C j f fd ps dvs sp)(i:bO k X.A)(m:QA X (e::es) t)(l:j+1<=k:=by decide)(d:Gl X x:=by rfl)(a:(x == ("__debug__" : Str))=false:=by decide)(c:du (e::es)=true:=by rfl) :
 QE X (.Call (.Name x p) (e::es) [] pos) (zk C sp dvs E0 t):=by
 obtain⟨ds,hb,hd⟩:=F.b;exact⟨JP F.mkx F.ok (i.mono l) d F.g hb hd pq m.h a (cq (dq c).1) (gH (dq c).2)⟩
end
end L2
namespace L2
open PySem PySem.Spec PyProof.Rows PySem.W
structure iT (K:W.Frag) (C:Addr):Prop where
 ga:findIn K (.ref C) "__getattribute__" = some (some (.builtin "BaseException.__getattribute__"))
 noga:findIn K (.ref C) "__getattr__" = some none
 base:mroIn K C (.type "BaseException")=some true
 obj:mroIn K C (.type "object")=some true
 hd:hasDictIn K C=true
 cls:findIn K (.ref C) "__class__" = some (some (.builtin "object.__class__"))
 clsG:specialIn K (.builtin "object.__class__") "__get__" = some (some (.builtin "getset_descriptor.__get__"))
 clsT:takesIn K (.builtin "object.__class__")=some true
section
variable {prog:Program}{w:World}{A:Around}{E:Value->fy->Prop}{s:fy}{K:W.Frag}{x C:Addr}{ox:Obj}{od:Option Obj}{name:Str}{tk:Tok}{fill expr:Bool}
def Ey {nameV:Value} {Q:Unit->fy->Prop} (b:K.In s.heap) (c:iT K C) (I:InstAt s.heap x ox C od) (j:Q () s):wpAny (model prog w) A (checkBuiltinCall "BaseException.__getattribute__" ⟨[.ref x,nameV],[]⟩) Q E s:=by
 have e:builtinKind "BaseException.__getattribute__" = some .slot:=by decide +kernel
 have a:splitId "BaseException.__getattribute__" = some ("BaseException", "__getattribute__"):=by decide +kernel
 have f:Looks (model prog w) s.heap (isInstance (.ref x) (.type "BaseException")) true:=I.type.andThen (looks_mroIn b c.base);have i:=PySem.F.args_bexc_ga (.ref x) nameV;simp only [checkBuiltinCall,e,a];refine kb (f.here ?_);obtain⟨h,g,d,t,os⟩:=s
 repeat (any_goals (first|assumption|wp_step))
def Ez{Q:Value->fy->Prop}(a:K.In s.heap)(c:iT K C)(I:InstAt s.heap x ox C od)
 (h:wpAny (model prog w) A.in1 (Builtin.«object.__getattribute__» ⟨[.ref x,.str name tk],[]⟩) (λr e=>match r with|.done (.ret v)=>handedIn v=true/\Q v e|_=>False) (λ_ _=>False) s):wpAny (model prog w) A (getAttrBy (.ref x) (.str name tk) fill expr) Q E s:=by
 have f:=I.type (M:=model prog w);have l:=looks_findIn (M:=model prog w) a c.ga;have k:=looks_findIn (M:=model prog w) a c.noga;have g:=PySem.F.excAttr_ValueError.ga.bind (.ref x);have b:(expr && onTheHeap (Value.builtin "BaseException.__getattribute__"))=false:=by cases expr<;>rfl
 have d:(onTheHeap (Value.ref C) && Value.builtin "BaseException.__getattribute__" == Value.builtin "object.__getattribute__")=false:=by
  have q:(Value.builtin "BaseException.__getattribute__" == Value.builtin "object.__getattribute__")=false:=by decide +kernel
  rw[q];rfl
 unfold getAttrBy;refine wpAny_holding (kb (f.here (kb (l.here ?_))));dsimp only;rw[Wv (by rw[d];exact TC)];unfold getAttrByItsOwn callGetattribute boundAndCalled;rw[b,Wv TC];refine kb (k.here (kb (wpAny_attempt (wpAny_holding ?_))));rw[g];refine kb (on (wpAny_call (codeAny_call_builtin PySem.F.excAttr_ValueError.ga.plain PySem.F.entry_bexc_ga (Ey a c I (wpAny_mono h (λr e z=>?_) λ_ _ z=>z.elim)))));rcases r with (_|_|_|_)|_<;>first|exact z.elim|skip
 all_goals (obtain⟨j,i⟩:=z;dsimp only;rw[handedOut_of j];exact on i)
def Ew{v:Value}{Q:Fin->fy->Prop}(c:K.In s.heap)(I:InstAt s.heap x ox C od)(hf:findObj K C od name=some (.value v))
 (h:Q (.done (.ret v)) s):wpAny (model prog w) A (Builtin.«object.__getattribute__» ⟨[.ref x,.str name tk],[]⟩) Q E s:=by
 have a:=I.type (M:=model prog w);have b:=looks_find (M:=model prog w) c I hf;unfold Builtin.«object.__getattribute__»;refine kb (on (kb (on (kb (a.here (kb (b.here ?_)))))));exact on h
end
inductive ym (K:W.Frag) (H:Hp):V->Value->Prop where
 | of {x:V} {t:Value} (h:c9 K H x t):ym K H x t
 | exc {e C:Addr} {q:Bool} (h:H e=some (XO e C none q)) (c:iT K C):ym K H (.ref e) (.ref C)
section
variable {X:Cx}{K:W.Frag}
def Ir{y n:Str}{o b pos:Pos}{body a:List Stmt}{d:Stmt}{f:Addr}{tb:(St->XK)->TS}{g:TS}{j:Nat}{hs:List ExceptHandler}(h:X.K=K)(c:X.stack=X.env::X.outer/\X.env.frame=some X.env.locals)(hN:X.N.Nodup)(m:X.N[j]? = some n)(p:X.env.scope.names.lookup n=some .local)(i:X.mg y=some (.ref f))(hb:∀pn W Eb,jB (X.tryc pn W) Eb->fP (X.tryc pn W) body (tb Eb))(l:∀e,fP (X.hand e λ_ _=>False) (d::a) g)
 (k:Gl X y:=by rfl) (hd:(y == ("__debug__" : Str))=false:=by decide):QS X (.Try body (.ExceptHandler (some (.Name y o)) (some n) (d::a) b::hs) [] [] pos) (y8 K (.ref f) tb j g):=by subst h;exact Iu c hN m p i hb l k hd
end
def fo(K:W.Frag)(C:Addr)(bmB:List Value)(newId:String):Bool:=match K.lookup C with
 | some ⟨.type "type",_,.cls cd,sl⟩=>(match cd.mro,sl.toList with
  | .ref C'::bm,[_,_,_,_,some (.builtin n),_]=>C' == C && (n == newId && (!cd.hasDel && (W.tailIn K bmB bm && W.nsOkIn K cd.ns)))
  | _,_=>false)
 | _=>false
def fo.obj{K:W.Frag}{h:Heap}{C:Addr}{bmB:List Value}{newId:String}(i:K.In h)(q:fo K C bmB newId=true) :
 ∃bm N d e bs hdct g c f b dd k0 k1 k2 k3 k5,h.get? C=some (excClassObj d e C N bs bm hdct g c f b dd k0 k1 k2 k3 k5 newId)/\OwnTail h bmB bm:=by
 unfold fo at q
 split at q
 ·rename_i dd cd sl ho
  split at q
  ·rename_i C' bm k0 k1 k2 k3 n k5 hm hs;simp only [T7,beq_iff_eq,Bool.not_eq_true']at q;obtain⟨j,m,a,o,_⟩:=q;subst j m;obtain⟨d,bs,mro,ns,e,hd,g,c,f,b,k⟩:=cd;simp only at hm a;subst hm a;obtain⟨l⟩:=sl;simp only at hs;subst hs;exact⟨bm,ns,d,e,bs,hd,g,c,f,b,dd,k0,k1,k2,k3,k5,i _ _ ho,W.tail_of_in i o⟩
  ·cases q
 ·cases q
section
variable {prog:Program}{w:World}{A:Around}{E:Value->fy->Prop}{h:Heap}{g:Array GenState}{d:Drawn}{t:Nat}{os:OsState}{K:W.Frag}
variable {nm q:Str}{C N:Addr}{bs bm bmB:List Value}{hdct:Bool}{sn:List Str}{sub:List Value}{ab:Bool}{col:Option Bool}{dd:Option Addr}{k0 k1 k2 k3 k5:Option Value}{B newId initId:String}{us:List Value}{fI:Addr}
def Et(F:ExcBaseFacts B newId initId bmB)(T:OwnTail h bmB bm)(l:K.In h){Q:Fin->fy->Prop}
 (hC:h.get? C=some (excClassObj nm q C N bs bm hdct sn sub ab col dd k0 k1 k2 k3 k5 newId)) (n:W.findIn K (.ref C) "__init__" = some (some (.ref fI))) (hf:W.typeIn K (.ref fI)=some (.type "function"))
 (p:∀h' e,Heap.MadeExcOf h h' e (.ref C) us->wpAny (model prog w) A (call (.ref fI) (.ref e::us)) (λr j=>r=.none/\Q (.done (.ret (.ref e))) j) E ⟨h',g,d,t,os⟩) (hz:us.length<=sizeLine) :
 wpAny (model prog w) A (Builtin.«type.__call__» ⟨.ref C::us,[]⟩) Q E ⟨h,g,d,t,os⟩:=by
 repeat (first|with_reducible refine wpAny_madeBy_exc hC ?_|with_reducible refine wpAny_loadPart_at hC ?_|wp_step)
 refine codeAny_call_builtin_code (Code.quiet_builtin _ F.quiet) (wpAny_check_new_subT F T hC (codeAny_exc_new_subT F T hC ?_ hz));show wpAny _ _ _ _ _ _;obtain⟨c,f⟩:∃c,c=(h.push { cls:=.type "tuple",data:=.seq us.toArray }).push { cls:=.ref C,data:=.fields #[.ref h.objs.size,.none,.none,.none,.bool false,.none] }:=⟨_,rfl⟩;have up:∀b o,h.get? b=some o->c.get? b=some o:=λb o z=>by rw[f];exact Tu _ (Tu _ z)
 have new:c.get? (h.objs.size+1)=some { cls:=.ref C,data:=.fields #[.ref h.objs.size,.none,.none,.none,.bool false,.none] }:=by rw[f];heap_get
 have i:c.get? h.objs.size=some { cls:=.type "tuple",data:=.seq us.toArray }:=by rw[f];exact Tu _ (Heap.get?_push_at Z Z)
 have hC2:=up _ _ hC;have k:K.In c:=λa o z=>up a o (l a o z);have s:=W.looks_findIn (M:=model prog w) k n;have m:=W.looks_typeIn (M:=model prog w) k hf;have u:(Value.ref C::bm).contains (.ref C)=true:=by simp
 rw[<- f];unfold isInstance
 repeat (first|with_reducible refine wpAny_loadPart_at new ?_|(with_reducible refine wpAny_isSubtype_exc hC2 ?_;rw[u])|wp_step)
 show wpAny _ _ (typeLookup (.ref C) _) _ _ _;refine s.at ?_;refine wpAny_holding (kb ?_);unfold bindSpecial;refine kb (m.at ?_);rw[Ww (by decide)];refine on (kb (wpAny_mono (p c (h.objs.size+1) ⟨up,UT (UF _),h.objs.size,new,UT (Tp _),i⟩) (λr j ⟨z1,z2⟩=>?_) λ_ _ x=>x));subst z1
 wp_walk
 exact z2
def Eu(F:ExcBaseFacts B newId initId bmB)(T:OwnTail h bmB bm)(b:K.In h){Q:Value->fy->Prop}
 (hC:h.get? C=some (excClassObj nm q C N bs bm hdct sn sub ab col dd k0 k1 k2 k3 k5 newId)) (f:W.findIn K (.ref C) "__init__" = some (some (.ref fI))) (hf:W.typeIn K (.ref fI)=some (.type "function"))
 (i:∀h' e,Heap.MadeExcOf h h' e (.ref C) us->wpAny (model prog w) (A.under (.builtin "type.__call__" ⟨.ref C::us,[]⟩)) (call (.ref fI) (.ref e::us)) (λr c=>r=.none/\Q (.ref e) c) E ⟨h',g,d,t,os⟩) (hz:us.length<=sizeLine) :
 wpAny (model prog w) A (call (.ref C) us) Q E ⟨h,g,d,t,os⟩:=by
 have j:=tc_lookup;have k:=tc_bind (.ref C);have hT:(⟨h,g,d,t,os⟩:fy).TypeIs (.ref C) "type":=⟨_,hC,rfl⟩;refine wpAny_call (codeAny_of_tree ?_);show wpAny _ _ (callAny (.ref C) ⟨us,[]⟩) _ _ _
 repeat (any_goals (first|with_reducible refine wpAny_loadPart_at hC ?_|assumption|wp_step))
 refine⟨rfl,codeAny_call_builtin_at (Code.quiet_builtin _ (by decide +kernel)) entry_typeCall (wpAny_check_type_call_sub hC (Et (hz:=hz) F T b hC f hf λh' e a=>?_))⟩;exact i h' e a
end
section
variable {prog:Program}{w:World}{A:Around}{E:Value->fy->Prop}{s:fy}{K:W.Frag}
def Ql {C e:Addr} {h:Option Addr} {tb:Value} {j:Obj} {vs:Array Value} {us:List Value} {Q:Value->fy->Prop} (p:K.In s.heap) (hC:fo K C iB "ValueError.__new__" = true) (x:cO s.heap e C h tb j vs) (hz:us.length<=sizeLine)
 (k:∀h',(∀b o,b≠e->s.heap.get? b=some o->h'.get? b=some o)->(∃oe' vs',cO h' e C h tb oe' vs')->Q .none { s with heap:=h' }) :
 wpAny (model prog w) A (call (.builtin "ValueError.__init__") (.ref e::us)) Q E s:=by
 have F:=Wc;obtain⟨D,N,v,B,bs,i,I,q,G,r,y,k0,k1,k2,k3,k5,hC0,T⟩:=fo.obj p hC;obtain⟨a,g,d,u,os⟩:=s;refine wpAny_call (codeAny_call_builtin F.init.plain F.initEntry (wpAny_check_init_subT F T hC0 x.at_ x.cls ?_));obtain⟨l,f⟩:∃l,vs[0]? = some l:=⟨vs[0]'(by rw[x.size];decide),by rw[Wd]⟩;have ne:e≠a.objs.size:=Tx (Tr x.at_);have c:(a.push { cls:=.type "tuple",data:=.seq us.toArray }).get? e=some j:=Tu _ x.at_;unfold Builtin.«BaseException.__init__» Builtin.BaseException.bexcPut
 repeat (any_goals (first|assumption|with_reducible refine wpAny_field c x.data f ?_|with_reducible refine wpAny_setField c x.data (by rw[x.size];decide) ?_|wp_step))
 have self:=U2 (Obj.mapFields (·.setIfInBounds 0 (.ref a.objs.size))) c (by rw[ij x.data];rfl);have m:Q .none ⟨(a.push { cls:=.type "tuple",data:=.seq us.toArray }).update e (Obj.mapFields (·.setIfInBounds 0 (.ref a.objs.size))),g,d,u,os⟩ :=
  k _ (λb o n z=>(Uw _ _ (Ne.symm n)).trans (Tu _ z)) ⟨_,vs.setIfInBounds 0 (.ref a.objs.size),self,by rw[ij x.data];exact x.cls,by rw[ij x.data];exact x.dict,by rw[ij x.data],by simp[x.size],by rw[We,Wv (by decide)];exact x.tb1,λz=>by rw[We,Wv (by decide)];exact x.cx z⟩
 split
 ·repeat (any_goals (first|assumption|wp_step))
 ·repeat (any_goals (first|assumption|wp_step))
end
structure yq (K:W.Frag) (C f:Addr):Prop where
 x:fo K C iB "ValueError.__new__" = true
 init:W.findIn K (.ref C) "__init__" = some (some (.ref f))
 fn:W.isFn K (.ref f)=true
 kp:W.keepIn K (.ref C)=true
structure DA (P:Program) (w:World) (K:W.Frag) (mg:Str->Option Value) (base:Heap) (x:Str) (C:Addr) (k:Nat) (f:Addr) (fd:FuncData) (ps:List Str) (sp:Sp):Prop where
 g:mg x=some (.ref C)
 mkx:yq K C f
 b:ax K fd ps []
 ok:bL P w K mg base bY k f fd ps sp
def EZ{H:Hp}{e:Addr}{o:HO}(h:H e=some o):upd H e o=H:=funext λb=>by
 by_cases q:b=e
 ·subst q;rw[aV,h]
 ·rw[au q]
def FF {h:Heap} {a:List Value} (self:Value) (T:OwnTail h iB a):refuseLoop self "__setattr__" a=pure ():=by
 induction T with
 | base=>exact PySem.F.store_ValueError.passes self
 | own _ _ _ _ ih=>rw[refuseLoop_ref];exact ih
section
variable {prog:Program}{w:World}{A:Around}{E:Value->fy->Prop}{h:Heap}{g:Array GenState}{d:Drawn}{t:Nat}{os:OsState}{K:W.Frag}{C e:Addr}{od:Option Addr}{tb v:Value}{oe:Obj}{vs:Array Value}{name:Str}{tk:Tok}
def Er {Q:Fin->fy->Prop} (m:K.In h) (hC:fo K C iB "ValueError.__new__" = true) (c:iT K C) (U:W.findIn K (.ref C) name=some none) (x:cO h e C od tb oe vs)
 (k0:od=none->∀h' d0 oe' tk',h.get? d0=none->(∀b o,b≠e->h.get? b=some o->h'.get? b=some o)->cO h' e C (some d0) tb oe' vs->h'.Ns1 d0 (λy=>if y=name then some v else none)->Q (.done (.ret .none)) ⟨h',g,d,tk',os⟩)
 (k1:∀d0,od=some d0->∃mA ns,h.Ns1 d0 mA/\Within mA ns/\ns.length+1<=1000/\∀h' tk',(∀b o,b≠d0->h.get? b=some o->h'.get? b=some o)->h'.Ns1 d0 (λy=>if y=name then some v else mA y)->Q (.done (.ret .none)) ⟨h',g,d,tk',os⟩) :
 wpAny (model prog w) A (Builtin.«object.__setattr__» ⟨[.ref e,.str name tk,v],[]⟩) Q E ⟨h,g,d,t,os⟩:=by
 obtain⟨I,N,V,qn,bs,a,sn,O,ab,S,Y,s0,s1,s2,s3,s5,hC0,T⟩:=fo.obj m hC;have s:refuseLoop (.ref e) "__setattr__" (.ref C::I)=pure ():=by rw[refuseLoop_ref];exact FF _ T
 have R:=W.looks_findIn (M:=model prog w) m U;have r:a=true:=by
  obtain⟨cd,f,q⟩:=W.any_some c.hd;have L:=W.looks_clsIn (M:=model prog w) m f;unfold W.clsIn at f
  split at f
  ·rename_i ho;have y:=m _ _ ho;rw[hC0]at y;cases y;cases f;exact q
  ·cases f
 subst r;unfold Builtin.«object.__setattr__»
 repeat (first|rw[refuse_eq]|rw[s]|(with_reducible refine wpAny_loadPart_at x.at_ ?_;rw[x.cls])|with_reducible refine wpAny_mroOf_exc hC0 ?_|with_reducible refine R.at ?_|wp_step)
 rw[x.dict];cases od with
 | none =>
  dsimp only;rw[Wv (by simp[typeHasDict]),x.data];have u:(h.push { cls:=.type "dict",data:=.dict #[] }).get? e=some oe:=Tu _ x.at_;have ne:e≠h.objs.size:=Tx (Tr x.at_);refine kb (wpAny_alloc' (kb (wpAny_update' u (on ?_))));obtain⟨i,l⟩:∃i,i=(h.push { cls:=.type "dict",data:=.dict #[] }).update e λo=>{ cls:=o.cls,dict:=some h.objs.size,data:=o.data,slots:=o.slots }:=⟨_,rfl⟩;have B:i.get? h.objs.size=some { cls:=.type "dict",data:=.dict #[] }:=by rw[l];exact (Wf _ _ _ _ ne.symm).trans (Heap.get?_push_at Z Z)
  have ge:i.get? e=some { cls:=oe.cls,dict:=some h.objs.size,data:=oe.data,slots:=oe.slots }:=by
   rw[l];refine U2 _ u ?_;obtain⟨oc,odd,J,D⟩:=oe;have q:=x.data;simp only at q;subst q
   rfl
  have nd:i.Ns h.objs.size (λ_=>none):=⟨_,#[],_,B,rfl,λe G=>Wx G (by simp),λ_=>rfl⟩;rw[<- l];show wpAny _ _ (Builtin.ObjectAttr.storeInDict h.objs.size (.str name tk) name v) _ _ _;unfold Builtin.ObjectAttr.storeInDict Builtin.ObjectAttr.newKeyGuard;refine kb (on (kb (wpAny_nsSet1 (Heap.Ns1.of_empty nd) λh' j sb=>?_)));obtain⟨oD,esD,epD,hoD,hdD,hcD⟩:=j.count (Within.cons name v Within.nil);refine kb (wpAny_lookBehind hoD (by rw[hdD];exact pastItsLine_dict (TH hcD (by rw[TX,Vg,sizeLine_eq];omega))) ?_)
  wp_walk
  exact k0 rfl h' h.objs.size _ _ (UT (Tp _)) (λb o p z=>(sb.2 b (Tx (Tr z))).trans (by rw[l];exact (Wf _ _ _ _ p).trans (Tu _ z)))
   ⟨(sb.2 e ne).trans ge,x.cls,rfl,x.data,x.size,x.tb1,x.cx⟩ j
 | some d0 =>
  obtain⟨mA,ns,n,F,hz,k⟩:=k1 d0 rfl;dsimp only;refine on ?_;show wpAny _ _ (Builtin.ObjectAttr.storeInDict d0 (.str name tk) name v) _ _ _;unfold Builtin.ObjectAttr.storeInDict Builtin.ObjectAttr.newKeyGuard;refine kb (on (kb (wpAny_nsSet1 n λh' j sb=>?_)));obtain⟨oD,esD,epD,hoD,hdD,hcD⟩:=j.count (Within.cons name v F);refine kb (wpAny_lookBehind hoD (by rw[hdD];exact pastItsLine_dict (TH hcD (by rw[TX,sizeLine_eq];omega))) ?_)
  wp_walk
  exact k h' _ (λb o p z=>(sb.2 b p).trans z) j
end
section
variable {X:Cx}{pins:List (Addr × Obj)}{σ:St}{H:Hp}{s:fy}{h':Heap}{e C d0:Addr}{fs:List (Str × V)}{f:Str}
def af.none_of{a:Addr}(I:af X pins σ H s)(h:s.heap.get? a=none):H a=none:=by
 cases q:H a with
 | none=>rfl
 | some u=>obtain⟨z,y⟩:=bI.there (I.hok a u q);rw[h]at y;cases y
def af.xdict{k:Obj}{vs:Array Value}{t':Nat}(I:af X pins σ H s)(hx:H e=some (XN e C none))(j:s.heap.get? d0=none)(kp:∀b o,b≠e->s.heap.get? b=some o->h'.get? b=some o)(i:cO h' e C (some d0) .none k vs)
 (nd:∃mA,h'.Ns1 d0 mA/\∀f,dl (fs.lookup f) (mA f)):af X pins σ (upd (upd H d0 (.xd fs)) e (XN e C (some d0))) { s with heap:=h',toks:=t' }:=by
 have h:=I.none_of j;have l:d0≠e:=λz=>by rw[z,hx]at h;cases h
 have g:∀b u,s.heap.get? b=some u->b≠d0:=λb u q z=>by rw[z,j]at q;cases q
 have a:∀b,H b=none->b≠e:=λb q z=>by rw[z,hx]at q;cases q
 have two:∀b o,b≠e->H b=some o->upd (upd H d0 (.xd fs)) e (XN e C (some d0)) b=some o:=λb o n q=>by rw[au n,au (ba q h)];exact q
 refine I.un ⟨λb u q n _ _=>kp b u (a b n) q,λb u q n _ _=>⟨u.slots,kp b u (a b n) q⟩,λb u q n _=>by rw[au (a b n),au (g b u q)];exact n,λb u q _=>?_,λb xs q=>two b _ (λz=>by rw[z,hx]at q;cases q) q,λb u xs q=>two b _ (λz=>by rw[z,hx]at q;cases q) q,λb ps q=>⟨#[],?_⟩⟩ λb u q=>?_
 ·by_cases z:b=e
  ·subst z;exact⟨_,i.at_⟩
  ·exact⟨u,kp b u z q⟩
 ·rw[two b _ (λz=>by rw[z,hx]at q;cases q) q];simp
 ·by_cases hb:b=e
  ·subst hb;rw[aV]at q;cases q;exact rP i
  ·rw[au hb]at q;by_cases hd:b=d0
   ·subst hd;rw[aV]at q;cases q;exact nd
   ·rw[au hd]at q;refine (I.hok b u q).stay (λc v d z=>?_) (λc z=>two c _ (λy=>by rw[y,hx]at z;cases z) z) λc xs z=>two c _ (λy=>by rw[y,hx]at z;cases z) z;rcases d with rfl|d
    ·exact kp c v hb z
    ·exact kp c v (λy=>by rw[y,hx]at d;cases d) z
def af.xput{e:List (Str × V)}{t':Nat}(I:af X pins σ H s)(hd:H d0=some (.xd fs))(kp:∀b o,b≠d0->s.heap.get? b=some o->h'.get? b=some o)
 (nd:∃mA,h'.Ns1 d0 mA/\∀f,dl (e.lookup f) (mA f)):af X pins σ (upd H d0 (.xd e)) { s with heap:=h',toks:=t' }:=by
 have a:∀b,H b=none->b≠d0:=λb q z=>by rw[z,hd]at q;cases q
 have one:∀b o,b≠d0->H b=some o->upd H d0 (.xd e) b=some o:=λb o n q=>by rw[au n];exact q
 refine I.un ⟨λb u q n _ _=>kp b u (a b n) q,λb u q n _ _=>⟨u.slots,kp b u (a b n) q⟩,λb u q n _=>by rw[au (a b n)];exact n,λb u q _=>?_,λb xs q=>one b _ (λz=>by rw[z,hd]at q;cases q) q,λb u xs q=>one b _ (λz=>by rw[z,hd]at q;cases q) q,λb ps q=>⟨#[],?_⟩⟩ λb u q=>?_
 ·by_cases z:b=d0
  ·subst z;obtain⟨_,⟨o,_,_,y,_⟩,_⟩:=nd;exact⟨o,y⟩
  ·exact⟨u,kp b u z q⟩
 ·rw[one b _ (λz=>by rw[z,hd]at q;cases q) q];simp
 ·by_cases hb:b=d0
  ·subst hb;rw[aV]at q;cases q;exact nd
  ·rw[au hb]at q;refine (I.hok b u q).stay (λc v d z=>?_) (λc z=>one c _ (λy=>by rw[y,hd]at z;cases z) z) λc xs z=>one c _ (λy=>by rw[y,hd]at z;cases z) z;rcases d with rfl|d
   ·exact kp c v hb z
   ·exact kp c v (λy=>by rw[y,hd]at d;cases d) z
def EK{mA:Str->Option Value}(r:∀f,dl (fs.lookup f) (mA f)):Within mA (fs.map (·.1)):=λy d=>by
 have z:=r y;cases q:fs.lookup y with
 | none =>
  rw[q]at z;cases p:mA y with
  | none=>exact Wx p d
  | some u=>rw[p]at z;exact z.elim
 | some v =>
  clear z d r
  induction fs with
  | nil=>cases q
  | cons a l ih =>
   obtain⟨a,b⟩:=a;rw[Ud]at q;by_cases c:(y == a)=true
   ·rw[beq_iff_eq.mp c];exact TV
   ·have c:(y == a)=false:=by simpa using c
    rw[c]at q;exact TW _ (ih q)
structure yn (K:W.Frag) (C:Addr):Prop where
 x:fo K C iB "ValueError.__new__" = true
 c:iT K C
 sa:W.findIn K (.ref C) "__setattr__" = some (some (.builtin "object.__setattr__"))
def G1{A:Around}{E:Value->fy->Prop}{m:Option Addr}{y:V}{u:Value}{Q:Unit->fy->Prop}(I:af X pins σ H s)(hx:H e=some (XN e C m))(S:yn X.K C)(L:cZ X.K C f)(v:aO y u)
 (k0:m=none->∀d0,H d0=none->d0≠e->∀s',af X pins σ (upd (upd H d0 (.xd [(f,y)])) e (XN e C (some d0))) s'->Q () s')
 (k1:∀d0,m=some d0->∃fs,H d0=some (.xd fs)/\fs.length<999/\∀s',af X pins σ (upd H d0 (.xd (cG f y fs))) s'->Q () s'):wpAny (model X.prog X.w) A (setAttr (.ref e) f u) Q E s:=by
 obtain⟨⟨G,vs,b⟩,_⟩:=I.hok e _ hx;have l:=PySem.F.store_ValueError;obtain⟨j,D⟩:∃j,W.InstAt s.heap e G C j:=by
  cases m with
  | none=>exact⟨none,b.at_,b.cls,by unfold W.notCls;rw[b.data],by rw[b.dict];trivial⟩
  | some d0 =>
   obtain⟨fs,hd,_⟩:=k1 d0 rfl;obtain⟨mA,⟨o,es,O,z,_⟩,_⟩:=(show ∃mA,s.heap.Ns1 d0 mA/\∀f,dl (fs.lookup f) (mA f) from I.hok d0 _ hd);exact⟨some o,b.at_,b.cls,by unfold W.notCls;rw[b.data],by rw[b.dict];exact z⟩
 have N:W.Looks (model X.prog X.w) s.heap (isInstance (.ref e) (.type "object")) true:=D.type.andThen (W.looks_mroIn I.kIn S.c.obj);have J:argsOk "object.__setattr__" ⟨[.ref e,.str f s.toks,u],[]⟩:=l.args _ _ _;refine W.set_plain I.kIn D S.sa (codeAny_call_builtin l.slot.plain l.entry ?_);refine @W.check_slot (model X.prog X.w) _ _ { s with toks:=s.toks+1 } "object.__setattr__" "object" "__setattr__" (.ref e) [.str f s.toks,u] [] _ l.kind l.split N J ?_;refine Er (h:=s.heap) (g:=s.gens) (d:=s.drawn) (t:=s.toks+1) (os:=s.os) I.kIn S.x S.c L b (λz h' d1 M i B kp n p=>?_) (λd1 z=>?_)
 ·subst z;have a:=I.none_of B;refine k0 rfl d1 a (λq=>by rw[q,hx]at a;cases a) _ (I.xdict (t':=i) hx B kp n ⟨_,p,λg=>?_⟩);by_cases q:g=f
  ·subst q;rw[Ww rfl,Ud,beq_self_eq_true];exact v
  ·rw[Wv q,Ud,show (g == f)=false by simpa using q];trivial
 ·obtain⟨fs,hd,hz,k⟩:=k1 d1 z;obtain⟨mA,a,r⟩:=(show ∃mA,s.heap.Ns1 d1 mA/\∀f,dl (fs.lookup f) (mA f) from I.hok d1 _ hd);refine⟨mA,fs.map (·.1),a,EK r,by rw[To];omega,λh' i kp p=>k _ ?_⟩;refine I.xput (t':=i) hd kp ⟨_,p,λg=>?_⟩;rw[tj];by_cases q:g=f
  ·rw[Ww q,Ww q];exact v
  ·rw[Wv q,Wv q];exact r g
end
def HQ(K:W.Frag)(b c:TE)(f:Str):TS:=λD σ H=>c σ H λy d=>b σ d λx a=>∃e C od,x=.ref e/\a e=some (XN e C od)/\yn K C/\cZ K C f /\
 (od=none->∀d0,a d0=none->d0≠e->D.nx σ (upd (upd a d0 (.xd [(f,y)])) e (XN e C (some d0))))/\(∀d0,od=some d0->∃fs,a d0=some (.xd fs)/\fs.length<999/\D.nx σ (upd a d0 (.xd (cG f y fs))))
def MJ{v:V}{u:Value}(r:aO v u):W.handedIn u=true:=by
 cases v<;>first|(obtain rfl:=r;rfl)|(obtain⟨_,rfl⟩:=r;rfl)
structure SG (K:W.Frag) (Y:Addr):Prop where
 sp:W.specialIn K (.ref Y) "__getattribute__" = some (some (.builtin "type.__getattribute__"))
 rd:W.readsIn K Y (.type "type")=true
 fc:W.findCls K (.ref Y) (.type "type") "__init__" = some (.val (.builtin "ValueError.__init__"))
def zv(K:W.Frag)(t:TA):TE:=λσ H Q=>t σ H λvs a=>match vs with
 | .ref e::bJ=>bJ.length<=1000/\∃C od,a e=some (XN e C od)/\fo K C iB "ValueError.__new__" = true/\Q .non a
 | _=>False
def FG(K:W.Frag)(b:TE)(f:Str):TE:=λσ H Q=>b σ H λx a=>∃e C d0 fs v,x=.ref e/\(a e=some (XN e C (some d0))\/∃q,a e=some (XO e C (some d0) q))/\a d0=some (.xd fs)/\iT K C/\cZ K C f/\fs.lookup f=some v/\Q v a
section
variable {X:Cx}{K:W.Frag}{Y:Addr}{y f:Str}{np apos pos pos':Pos}{a o value:Expr}{es:List Expr}{t:TA}{ta tv:TE}
def sJ(h:X.K=K)(m:QE X o ta)(p:QE X value tv)(hs:swapsWith value (some (.Attribute o f pos')) pos.line X.env=pure false:=by rfl):QS X (.Assign [.Attribute o f pos'] value pos) (HQ K ta tv f):=⟨by
 subst h;intro a s σ H D I h;refine plainObj_wpAny_Assign_Attribute (az (p.h a s σ H _ I h) λu s1 ⟨y,r,i,g,q⟩=>az (m.h a s1 σ r _ i q) λj F ⟨x,J,n,B,e,C,G,ex,hx,S,l,k0,k1⟩=>?_) hs;subst ex;obtain rfl:j=Value.ref e:=B;exact G1 n hx S l g (λz d0 d c v b=>⟨σ,_,b,k0 z d0 d c⟩) λd0 z=>let ⟨fs,d,c,k⟩:=k1 d0 z;⟨fs,d,c,λv b=>⟨σ,_,b,k⟩⟩⟩
def IN{pl:Sem Bool}(h:X.K=K)(B:SG K Y)(R:X.mg y=some (.ref Y))(L:QA X (a::es) t)(F:Gl X y:=by rfl)(hd:(y == ("__debug__" : Str))=false:=by decide)(m:du (a::es)=true:=by rfl)
 (O:eval (.Call (.Attribute (.Name y np) "__init__" apos) (a::es) [] pos) X.env=(do
   let ov <- eval (.Name y np) X.env
   standAt apos.atName
   let (f,first) <- holding [ov] (getMethod ov "__init__" pl)
   callWith pos f first (backTo pos (starEach (a::es) X.env)) (backToKw pos (keywordEach [] X.env))):=by rfl) :
 QE X (.Call (.Attribute (.Name y np) "__init__" apos) (a::es) [] pos) (zv K t):=⟨by
 subst h;intro b s σ H Q I h;have ho:PE X (.Name y np) (tC (.ref Y)):=(jl (v:=.ref Y) F R rfl hd).h;refine W.methodCall_KW (pl:=pl) (az (ho b s σ H (λv J=>v=.ref Y/\zv X.K t σ J Q) I ⟨rfl,h⟩) λu s1 ⟨x,M,i,D,ex,q⟩=>?_) O;subst ex;obtain rfl:u=Value.ref Y:=D;refine W.method_cls i.kIn B.sp (W.cls_value (s:=s1) i.kIn B.rd B.fc Z ?_);have p:=i.tok (s1.toks+1);have z:=L.h pos b { s1 with toks:=s1.toks+1 } σ M _ p q;rw[cq (dq m).1]at z ⊢;refine Calls.callWith_builtin (first:=[]) (gH (dq m).2) (Calls.evalArgs_plain (az z λus U ⟨vs,k,j,r,d⟩=>?_));cases vs with
 | nil=>exact d.elim
 | cons v0 bJ =>
  cases v0 with
  | ref e =>
   obtain⟨hz,C,g,hx,N,d⟩:=(show bJ.length<=1000/\∃C g,k e=some (XN e C g)/\fo X.K C iB "ValueError.__new__" = true/\Q .non k from d);cases r with
   | cons r1 r2 =>
    obtain rfl:=(show _=Value.ref e from r1);obtain⟨⟨oe,n,G⟩,_⟩:=j.hok e _ hx;refine Ql j.kIn N G (cD (by rw[<- aJ.length r2];omega)) λh' kp ⟨S,V,c⟩=>?_;have l:=af.write (t':=U.toks) (x:=e) (e:=e) (h':=h') (o:=XN e C g) j (by rw[hx];trivial) (.inl rfl) kp ⟨_,c.at_⟩ (rP c);rw[EZ hx]at l;exact⟨.non,k,l,Z,d⟩
  | _=>exact d.elim⟩
def sK(h:X.K=K)(p:QE X o ta)(hb:attributeBase o f X.env (eval o X.env)=eval o X.env:=by rfl):QE X (.Attribute o f pos) (FG K ta f):=⟨by
 subst h;intro g s σ H Q I h;refine Dg hb (az (p.h g s σ H _ I h) λu s1 ⟨x,y,d,F,e,C,d0,fs,v,ex,hx,hd,c,n,l,q⟩=>?_);subst ex;obtain rfl:u=Value.ref e:=F;obtain⟨tb,b,vs,G,a⟩:∃tb b vs q,cO s1.heap e C (some d0) tb b vs q:=by
  rcases hx with hx|⟨q,hx⟩
  ·obtain⟨⟨b,vs,a⟩,_⟩:=d.hok e _ hx;exact⟨.none,b,vs,false,a⟩
  ·obtain⟨⟨tb,b,vs,a⟩,_⟩:=d.hok e _ hx;exact⟨tb,b,vs,q,a⟩
 obtain⟨mA,B,r⟩:=(show ∃mA,s1.heap.Ns1 d0 mA/\∀f,dl (fs.lookup f) (mA f) from d.hok d0 _ hd);obtain⟨o,ho,D⟩:=Bp B;obtain⟨u,m,i⟩:∃u,mA f=some u/\aO v u:=by
  have z:=r f;rw[l]at z;cases q:mA f with
  | none=>rw[q]at z;exact z.elim
  | some u=>rw[q]at z;exact⟨u,Z,z⟩
 have j:W.InstAt s1.heap e b C (some o):=⟨a.at_,a.cls,by unfold W.notCls;rw[a.data],by rw[a.dict];exact ho⟩;have hf:W.findObj X.K C (some o) f=some (.value u):=by
  obtain⟨J,k,q⟩:=W.any_some c.hd;unfold W.findObj W.ownOf;rw[k,VR,show W.findIn X.K (.ref C) f=some none from n,VR];simp[q,D,m]
 unfold getAttr;refine kb (wpAny_mkText (Ez (s:={ s1 with toks:=s1.toks+1 }) d.kIn c j (Ew (s:={ s1 with toks:=s1.toks+1 }) d.kIn j hf ⟨MJ i,⟨v,y,d.tok _,i,q⟩⟩)))⟩
end
inductive Dr (K:W.Frag) (H:Hp):V->Value->Prop where
 | of {x:V} {t:Value} (h:ym K H x t):Dr K H x t
 | exd {e C d0:Addr} {fs:List (Str × V)} (h:H e=some (XN e C (some d0))\/∃q,H e=some (XO e C (some d0) q)) (hd:H d0=some (.xd fs)) (c:iT K C):Dr K H (.ref e) (.ref C)
section
variable {M:Model}{A:Around}{E:Value->fy->Prop}{env:Env}
def Ie{s:fy}{x:Sem Value}{Q:Flow->fy->Prop}(F:A.handled=none)
 (h:wpAny M A x (λv c=>∃e C p l vs n q N bs k a y f u i o k0 k1 k2 k3 k5 newId,v=.ref e/\cO c.heap e C p .none l vs /\
   c.heap.get? C=some (excClassObj n q C N bs k a y f u i o k0 k1 k2 k3 k5 newId)/\k.contains (.type "BaseException")=true/\E (.ref e) c) E s) :
 wpAny M A (raiseStmt env (some x) none) Q E s:=by
 unfold raiseStmt;refine kb (wpAny_mono h (λv c D=>?_) λ_ _ x=>x);obtain⟨e,C,p,l,vs,n,q,N,bs,k,a,y,f,u,i,o,k0,k1,k2,k3,k5,newId,rfl,j,hC,b,hE⟩:=D;have hcB:(Value.ref C::k).contains (.type "BaseException")=true:=by rw[List.contains_cons,b,Bool.or_true]
 obtain⟨G,g,d,J,os⟩:=c;obtain⟨I,odd,B,z⟩:=l;have m:=j.at_;have r:=j.cls;have hd:=j.data;simp only at m r hd;subst r hd
 repeat (first|with_reducible refine wpAny_field m rfl j.tb1 ?_|with_reducible refine wpAny_loadPart_at m ?_|with_reducible refine wpAny_loadPart_at hC ?_|(with_reducible refine wpAny_isSubtype_exc hC ?_;rw[hcB])|wp_step)
 exact wpAny_raiseNew_none F hE
end
def Dt(C:Addr)(Es:St->XK)(σ:St):VK:=λx H=>∃e od,x=.ref e/\H e=some (XN e C od)/\Es σ (.ref C) (some e) (upd H e (XO e C od))
def FH(C:Addr)(sp:Sp)(Es:St->XK)(t:TA):TS:=λ_ σ H=>t σ H λvs a=>vs.length<=1000/\∀e,a e=none->sp (.ref e::vs) (upd a e (XN e C none)) (λv b=>v=.non/\Dt C Es σ (.ref e) b) E0
section
variable {X:Cx}{k j:Nat}{f C:Addr}{fd:FuncData}{ps:List Str}{sp:Sp}{x m:Str}{np cpos pos apos:Pos}{a e o:Expr}{es:List Expr}{ta:TE}{t:TA}{Es:St->XK}{dvs:List V}
def HW{b:List (Addr × Obj)}{σ:St}{H:Hp}{s:fy}{Q:VK}{us:List Value}{vs:List V}(M:yq X.K C f)(F:bL X.prog X.w X.K X.mg X.base bY k f fd ps sp)(U:bO (k+1) X.A)(hb:ax X.K fd ps [])(I:af X b σ H s)(r:aJ vs us)(hz:vs.length<=1000)
 (h:∀e,H e=none->sp (.ref e::vs) (upd H e (XN e C none)) (λv Y=>v=.non/\Q (.ref e) Y) E0):wpAny (model X.prog X.w) X.A (call (.ref C) us) (λu i=>(∃e,u=.ref e/\s.heap.get? e=none)/\EP X b σ Q u i) X.xe s:=by
 obtain⟨bm,N,nm,qn,bs,j,sn,L,ab,W,dd,k0,k1,k2,k3,k5,hC0,T⟩:=fo.obj I.kIn M.x;refine Eu (h:=s.heap) (g:=s.gens) (d:=s.drawn) (t:=s.toks) (os:=s.os) Wc T I.kIn hC0 M.init (beq_iff_eq.mp M.fn) (λh' e m=>?_) (cD (by rw[<- r.length];omega));obtain⟨t',O,p,J⟩:=m.there;have D:cO h' e C none .none _ _:=⟨O,rfl,rfl,rfl,rfl,rfl,λ_=>rfl⟩;have c:=I.adopt (t':=s.toks) (o:=XN e C none) m.keeps m.new (rP D);have l:=h e (I.none_of m.new);have n:aJ (V.ref e::vs) (Value.ref e::us):=.cons rfl r;have B:(Value.ref e::us++([]:List Value)).length=ps.length:=by
  have z:=n.length;rw[F.len _ _ _ _ l]at z;rw[TD];exact z.symm
 refine wpAny_call (codeAny_mono (F.run _ X.stack _ _ ⟨Value.ref e::us,[]⟩ (Value.ref e::us) _ _ E0 (U.make C us []) (c.env0.make C us []) (by have:=hb _ (Value.ref e::us) c.kIn B;rwa [TD]at this) n l) λr i a=>?_);cases r with
 | error e=>exact a.elim
 | ok fl =>
  cases fl with
  | ret u =>
   obtain⟨v,G,R,q,y,S⟩:=c.after a;subst y;exact⟨q,⟨e,Z,m.new⟩,⟨V.ref e,G,R,Z,S⟩⟩
  | next=>exact False.elim a
  | brk=>exact False.elim a
  | cont=>exact False.elim a
def Iw(F:DA X.prog X.w X.K X.mg X.base x C j f fd ps sp)(hr:bO k X.A)(hc:X.calm=true)(hx:jB X Es)(ha:QA X (a::es) t)(hj:j+1<=k:=by decide)(hg:Gl X x:=by rfl)(o:(x == ("__debug__" : Str))=false:=by decide)(J:du (a::es)=true:=by rfl) :
 QS X (.Raise (some (.Call (.Name x np) (a::es) [] cpos)) none pos) (FH C sp Es t):=⟨by
 intro c s σ H D I h;have U:wpAny (model X.prog X.w) X.A (eval (.Call (.Name x np) (a::es) [] cpos) X.env) (λu G=>(∃e,u=.ref e/\(X.ex=[]->X.s₀.heap.get? e=none))/\EP X c σ (Dt C Es σ) u G) X.xe s:=by
  refine wpAny_Call_Name_kw (jp I hg F.g ?_ o);refine W.callWith_K (h₀:=X.base) I.ok.mod.kin F.mkx.kp (az (ha.h cpos c s σ H _ I h) λus s1 ⟨vs,H1,n,r,hz,q⟩=>⟨n.kIn,?_⟩) (cq (dq J).1) (gH (dq J).2);exact wpAny_mono (HW F.mkx F.ok (hr.mono hj) F.b n r hz q) (λu G ⟨⟨e,z1,z2⟩,z3⟩=>⟨⟨e,z1,λh0=>n.newx h0 z2⟩,z3⟩) λ_ _ z=>z
 rw[arm_exec_Raise];refine kb (wpAny_standAt (Ie (I.ok.hd hc) ?_));refine kb (wpAny_mono U (λv s3 hv=>kb (wpAny_standAt (on ?_))) λ_ _ z=>z);obtain⟨⟨e0,z1,z2⟩,y,H2,m,L,l,S,V,M,q2⟩:=hv;rw[V]at L;have d:v=Value.ref l:=L;rw[d]at z1;obtain rfl:l=e0:=Value.ref.inj z1;rw[d];obtain⟨⟨Y,vs,xa⟩,_⟩:=m.hok l _ M;obtain⟨bm,N,O,qn,bs,i,sn,p,ab,B,R,k0,k1,k2,k3,k5,hC0,T⟩:=fo.obj m.kIn F.mkx.x;exact⟨l,C,S,Y,vs,O,qn,N,bs,bm,i,sn,p,ab,B,R,k0,k1,k2,k3,k5,_,Z,xa,hC0,T.hasType Wc.hasBase,hx.up c _ _ (OU m M z2 q2)⟩⟩
end
structure RX (k:Nat) (A:Around):Prop where
 dp:A.depth+3*k+5<recursionLimit
 un:A.units+16*k+200<cLine
structure yu (P:Program) (w:World) (K:W.Frag) (mg:Str->Option Value) (base:Heap) (k:Nat) (f:Addr) (fd:FuncData) (ps:List Str) (sp:Sp):Prop where
 len:∀vs H Q E,sp vs H Q E->vs.length=ps.length
 run:∀(A:Around) (outer:List Env) (s:fy) (H:Hp) (args:Args) (us:List Value) (vs:List V) (Q:VK) (E:XK),RX k A->i4 P w K mg base A outer s H->BindsTo s fd args (ps.zip us)->aJ vs us->sp vs H Q E ->
  codeAny (model P w) A (.call (.ref f) args) (CR bY outer P w H s Q E) s
structure Tb (P:Program) (w:World) (K:W.Frag) (mg:Str->Option Value) (base:Heap) (x:Str) (C:Addr) (k:Nat) (f:Addr) (fd:FuncData) (ps:List Str) (sp:Sp):Prop where
 g:mg x=some (.ref C)
 mkx:yq K C f
 b:ax K fd ps []
 ok:yu P w K mg base k f fd ps sp
section
variable {X:Cx}{k j:Nat}{f C:Addr}{fd:FuncData}{ps:List Str}{sp:Sp}{x m:Str}{p pos:Pos}{e:Expr}{es:List Expr}{t:TA}{dvs:List V}{ds:List Value}{Es:St->XK}
structure Ta (P:Program) (w:World) (K:W.Frag) (mg:Str->Option Value) (base:Heap) (x:Str) (k:Nat) (f:Addr) (fd:FuncData) (ps:List Str) (sp:Sp):Prop where
 g:mg x=some (.ref f)
 kp:W.keepIn K (.ref f)=true
 b:ax K fd ps []
 ok:yu P w K mg base k f fd ps sp
end
section
variable {X:Cx}{K:W.Frag}{o i value:Expr}{td ty tv:TE}{pos pos':Pos}
def OM:R2:=λy x H Q=>∃a ov,x=.ref a/\fz H a y ov/\Q (.bl (!ov.isSome)) H
def Om(h:X.A.units+64<cLine):be X (compareOp .NotIn) OM:=by
 intro b s σ H x y v u Q I f c q;obtain⟨a,d,rfl,g,q⟩:=q;obtain rfl:u=Value.ref a:=c;exact Pl (by omega) I g f λi e=>⟨.bl (!d.isSome),H,e,rfl,q⟩
def oZ(c:X.A.units+64<cLine)(ho:QE X o td)(a:QE X i ty)(b:QE X value tv)(hs:swapsWith value (some (.Subscript o i pos')) pos.line X.env=pure false:=by rfl):QS X (.Assign [.Subscript o i pos'] value pos) (Ak td ty tv):=⟨Jl (by omega) ho.h a.h b.h hs⟩
end
section
variable {X:Cx}{K:W.Frag}{k j:Nat}{f C:Addr}{fd:FuncData}{ps:List Str}{sp:Sp}{x m:Str}{p pos apos pos' tpos:Pos}{e o value:Expr}{es:List Expr}{ta tv:TE}{t:TA}
def IJ{f:Str}(h:X.K=K)(a:QE X o ta)(b:QE X value tv):QS X (.AugAssign (.Attribute o f tpos) .Add value pos) (Ai K ta tv Av f):=by subst h;exact⟨Ji a.h b.h Ms⟩
structure S7 (P:Program) (w:World) (K:W.Frag) (mg:Str->Option Value) (base:Heap) (C:Addr) (m:Str) (k:Nat) (f:Addr) (fd:FuncData) (ps:List Str) (sp:Sp):Prop where
 c:dA K C
 mt:bE K C m f
 b:ax K fd ps []
 ok:yu P w K mg base k f fd ps sp
end
section
variable {X:Cx}{K:W.Frag}
def OP:R2:=λy x H Q=>∃a ov,x=.ref a/\fz H a y ov/\Q (.bl ov.isSome) H
def Cq(h:X.A.units+64<cLine):be X (compareOp .In) OP:=by
 intro b s σ H x y v u Q I f c q;obtain⟨a,d,rfl,g,q⟩:=q;obtain rfl:u=Value.ref a:=c;exact Pn (by omega) I g f λi e=>⟨.bl d.isSome,H,e,rfl,q⟩
def tW(K:W.Frag):V->List V->Hp->VK->Prop:=λx vs H Q=>∃(a:Addr) (y:V) (xs:List V) (j:Nat),x=.ref a/\vs=[y]/\H a=some (.lst xs)/\fL y=true/\xs.all fL=true/\(∃z,xs[j]? = some z/\di z y=true)/\(∀i z,i<j->xs[i]? = some z->di z y=false)/\Q (.int (j:Int)) H
def Lw:gf X "list.index" (tW X.K):=by
 intro p s σ H x vs v us Q I M N q;obtain⟨a,y,xs,j,rfl,rfl,hx,J,fx,⟨z,hz,V⟩,g,q⟩:=q;cases M;obtain⟨u,rfl,U⟩:=hX N;obtain⟨b,h,pl,hsz⟩:=I.list (.of hx);have W:=h.length;have B:j<b.length:=by have:=(Tz.mp hz).1;omega
 obtain⟨⟨R,S,O,L⟩,n,o,D,C,r⟩:=pl;simp only at D C r;subst D C r;have at_:∀i (d:i<b.toArray.size),∃z,xs[i]? = some z/\dZ y b.toArray[i]=di z y:=λi d=>by
  have c:i<xs.length:=by rw[TB]at d;omega
  obtain⟨w,hw,k⟩:=h.get (i:=i) (x:=xs[i]) (by simp[c]);have e:b.toArray[i]=w:=by simpa using (Tz.mp hw).2
  refine⟨xs[i],by simp[c],?_⟩;rw[e];exact vG k (UY.mp fx _ (VL c))
 refine call_meets U3 ⟨_,o,Z⟩ PySem.F.entry_list_index (PySem.F.args_list_index_2 _ _)
  (SeqAt.list_indexAt a b.toArray n _ _ u (dZ y) j (by simpa using B) ?_ ?_ ?_) ⟨o,λw hw=>lQ U J h fx w (by simpa using hw),⟨.int j,H,I.tok _,⟨_,rfl⟩,q⟩⟩
 ·have:sizeLine<=2 ^ 40:=by decide
  have:(2:Int) ^ 63=9223372036854775808:=by decide
  have:(2:Nat) ^ 40=1099511627776:=by decide
  omega
 ·obtain⟨G,f,m⟩:=at_ j (by simpa using B);rw[hz]at f;cases f;rw[m];exact V
 ·intro i d l;obtain⟨G,f,m⟩:=at_ i d;rw[m];exact g i G l f
def pG (h:X.K=K):gf X "list.index" (tW K):=by subst h;exact Lw
end
section
open HT
variable {prog:Program}{w:World}{A:Around}{E:Value->fy->Prop}{s:fy}
def NF{t f:Addr}{items:Array Value}{g i:Value}{lo c:Option Int}{Q:Value->fy->Prop}(b:IsTup s.heap t items)(hs:s.heap.IsSliceOf f g i .none)(pl:IsPart g lo)(k:IsPart i c)
 (hw:sIx items.size 0 lo=0/\sIx items.size items.size c=items.size) (h:Q (.ref t) s):wpAny (model prog w) A (getItem (.ref t) (.ref f)) Q E s:=by
 obtain⟨os,e,d,j⟩:=id hs;have hTs:s.TypeIs (.ref f) "slice":=⟨os,e,d⟩;unfold getItem
 try with_reducible refine wpAny_holding ?_
 first|refine kb (on ?_)|skip
 refine kb (wpAny_sequenceKey b.typeIs (by decide) ?_);refine kb (wpAny_callSpecial?_slot (name:=Str.ofString "__getitem__") b.typeIs UK
  (wpAny_call_entry UK b.typeIs entry_tuple_getitem ?_ (args_tuple_getitem _ _)))
 show wpAny _ _ (Builtin.Tuple.tupleItemsOf (.ref t) >>= _) _ _ s;refine kb (tupleItemsOf_ b ?_);refine kb (wpAny_typeOf hTs ?_);rw[Ww (by decide)];refine kb (zN hs pl k ?_);have a:((((sIx items.size 0 lo:Nat):Int) == 0 && (1:Int) == 1 && (sIx items.size items.size c-sIx items.size 0 lo) == items.size)=true):=by
  rw[hw.1,hw.2];simp
 show wpAny _ _ (if (((sIx items.size 0 lo:Nat):Int) == 0 && (1:Int) == 1 && (sIx items.size items.size c-sIx items.size 0 lo) == items.size)=true then _ else _) _ _ s;rw[Ww a];unfold Builtin.Tuple.tupleIsExact;refine kb (kb (wpAny_typeOf b.typeIs (on ?_)));rw[Ww (by decide)];refine kb (wpAny_rule ?_)
 first
  | exact on ⟨_,rfl,on h⟩
  | exact kb (on ⟨_,rfl,on h⟩)
  | exact kb (on (on ⟨_,rfl,on h⟩))
end
section
variable {X:Cx}{K:W.Frag}{pos:Pos}
def LP:TE:=λ_ H Q=>∀p H',bA H p (.dT []) H'->Q (.ref p) H'
def AC:QE X (.Dict [] [] pos) LP:=⟨JT.imp λσ H Q q=>λp a=>q p _ (.mk' a)⟩
def Cs(K:W.Frag):V->Option Int->Option Int->Hp->VK->Prop:=λx lo b H Q=>match x with
 | .ref a=>∃xs,bv K H a xs/\H a=some (.tup xs)/\∀p H',am H H'->H' p=some (.tup (d7 xs lo b))->Q (.ref p) H'
 | _=>False
def Od:iW X (Cs X.K):=by
 intro c s σ H x v k m lo g n Q I h hs pl i q;cases x with
 | ref a =>
  obtain⟨xs,f,l,q⟩:=q;by_cases hw:HT.sIx xs.length 0 lo=0/\HT.sIx xs.length xs.length g=xs.length
  ·cases h;obtain⟨d,r,j,hz⟩:=I.tuple f;have b:d.toArray.size=xs.length:=by rw[TB];exact r.length.symm
   refine⟨"tuple",_,UK.lookup,j.typeIs,?_⟩;refine NF j hs pl i (by rw[b];exact hw) ?_;refine⟨.ref a,H,I,Z,q a H (am.refl _) ?_⟩;rw[l];unfold d7;rw[hw.1,hw.2,List.drop_zero,Uj (by omega)]
  ·exact GU c s σ H _ v k m lo g n Q I h hs pl i ⟨a,xs,Z,f,hw,λp e=>q p _ (bA.mk' e).sm (bA.mk' e).at_⟩
 | _=>exact False.elim q
def tS(h:X.K=K):iW X (Cs K):=by subst h;exact Od
end
def gn(m x:Nat):Nat:=(x*5+1)%m
def ip(m:Nat):Nat->Nat->Nat
 | 0,x=>x
 | n+1,x=>ip m n (gn m x)
theorem pT(m:Nat):∀(a b x:Nat),ip m (a+b) x=ip m b (ip m a x)
 | 0,b,x=>by rw[U4];rfl
 | a+1,b,x=>by rw[Nat.add_right_comm];exact pT m a b (gn m x)
def pz(m:Nat):Nat->Nat->Nat->Nat
 | 0,_,acc=>acc
 | n+1,x,acc=>pz m n (gn m x) (acc ||| (1 <<< x))
theorem AX(m j:Nat):∀(n x a:Nat),(pz m n x a).testBit j=true->a.testBit j=true\/∃k,k<n/\ip m k x=j
 | 0,x,a,h=>.inl h
 | n+1,x,a,h=>by
  rcases AX m j n (gn m x) (a ||| (1 <<< x)) h with h|⟨k,hk,e⟩
  ·rw[Nat.testBit_or,Vn]at h;rcases h with h|h
   ·exact .inl h
   ·refine .inr ⟨0,by omega,?_⟩;rw[Nat.one_shiftLeft,Nat.testBit_two_pow]at h;exact Wz h
  ·exact .inr ⟨k+1,by omega,e⟩
def cI(m:Nat):Prop:=pz m m 0 0=2 ^ m-1/\ip m m 0=0
def cI.to0{m:Nat}(h:cI m){j:Nat}(a:j<m):∃k,k<m/\ip m k 0=j:=by
 have:(pz m m 0 0).testBit j=true:=by rw[h.1,Nat.testBit_two_pow_sub_one];exact WA a
 rcases AX m j m 0 0 this with z|z
 ·rw[Nat.zero_testBit]at z;cases z
 ·exact z
def cI.all{m:Nat}(h:cI m){i j:Nat}(d:i<m)(e:j<m):∃k,k<m/\ip m k i=j:=by
 obtain⟨a,f,rfl⟩:=h.to0 d;obtain⟨b,hb,rfl⟩:=h.to0 e;by_cases c:a<=b
 ·exact⟨b-a,by omega,by rw[<- pT,Nat.add_sub_cancel' c]⟩
 ·refine⟨m-a+b,by omega,?_⟩;rw[<- pT,show a+(m-a+b)=m+b by omega,pT,h.2]
def yM:cI 8:=by unfold cI;decide +kernel
def EQ:cI 16:=by unfold cI;decide +kernel
def EN:cI 32:=by unfold cI;decide +kernel
def EL:cI 64:=by unfold cI;decide +kernel
def ER:cI 128:=by unfold cI;decide +kernel
def EO:cI 256:=by unfold cI;decide +kernel
def EM:cI 512:=by unfold cI;decide +kernel
def ES:cI 1024:=by unfold cI;decide +kernel
def og(owner:Array (Option Nat))(j:Nat):Prop:=(owner.getD j (some 0)).isNone=false
def CB{mask:Nat}{owner:Array (Option Nat)}{f i p:Nat}(h:SetTable.layClean.free mask owner (f+1) i p=none):og owner i/\SetTable.layClean.free mask owner f ((i*5+1+p/32)%(mask+1)) (p/32)=none:=by
 unfold SetTable.layClean.free at h
 split at h
 ·cases h
 ·rename_i e;refine⟨?_,h⟩;have a:0∈List.range (SetTable.runEnd mask i+1-i):=Us.mpr (by unfold SetTable.runEnd;split<;>omega);have:=Ue.mp e 0 a;rw[Nat.add_zero]at this;exact Bool.eq_false_iff.mpr this
theorem CA{mask:Nat}{owner:Array (Option Nat)}:∀(f i:Nat),SetTable.layClean.free mask owner f i 0=none->∀k,k<f->og owner (ip (mask+1) k i)
 | 0,_,_,k,hk=>Wx hk (Vp _)
 | f+1,i,h,k,hk=>by
  obtain⟨a,b⟩:=CB h;rw[show i*5+1+0/32=i*5+1 by omega,Nat.zero_div]at b;cases k with
  | zero=>exact a
  | succ k=>exact CA f _ b k (by omega)
theorem CD{mask:Nat}{owner:Array (Option Nat)}:∀(n f i p:Nat),p<32 ^ n->SetTable.layClean.free mask owner (f+n) i p=none->i<mask+1->∃i',i'<mask+1/\SetTable.layClean.free mask owner f i' 0=none
 | 0,f,i,p,hp,h,hi=>by
  obtain rfl:p=0:=by rw[Nat.pow_zero]at hp;omega
  exact⟨i,hi,h⟩
 | n+1,f,i,p,hp,h,hi=>by
  obtain⟨_,b⟩:=CB (f:=f+n) h;exact CD n f _ (p/32) (Nat.div_lt_of_lt_mul (by rw[Nat.pow_succ,Nat.mul_comm]at hp;exact hp)) b (Nat.mod_lt _ (by omega))
def OR{mask:Nat}{owner:Array (Option Nat)}{h:Int}(d:cI (mask+1)){j:Nat}(b:j<mask+1)(f:¬og owner j):∃j',SetTable.layClean.free mask owner (SetTable.turns mask) (SetTable.bits h%(mask+1)) (SetTable.bits h)=some j':=by
 cases e:SetTable.layClean.free mask owner (SetTable.turns mask) (SetTable.bits h%(mask+1)) (SetTable.bits h) with
 | some j'=>exact⟨j',rfl⟩
 | none =>
  exfalso
  have hb:SetTable.bits h<32 ^ 13:=by
   unfold SetTable.bits;have:=Int.emod_lt_of_pos h (show (0:Int)<2 ^ 64 by decide);have:=Int.emod_nonneg h (show (2 ^ 64:Int)≠0 by decide);have e:(32:Nat) ^ 13=2*2 ^ 64:=by decide
   rw[e];omega
  obtain⟨g,a,c⟩:=CD (mask:=mask) (owner:=owner) 13 (mask+2) _ _ hb (show SetTable.layClean.free mask owner (SetTable.turns mask) (SetTable.bits h%(mask+1)) (SetTable.bits h)=none from e) (Nat.mod_lt _ (by omega));obtain⟨k,i,rfl⟩:=d.all a b;exact f (CA _ _ c k (by omega))
theorem CC{mask:Nat}{owner:Array (Option Nat)}:∀(f i p j:Nat),SetTable.layClean.free mask owner f i p=some j->owner.getD j (some 0)=none
 | 0,_,_,_,h=>by unfold SetTable.layClean.free at h;cases h
 | f+1,i,p,j,h=>by
  unfold SetTable.layClean.free at h
  split at h
  ·rename_i k e;cases h;have:=Ux e;exact Wq.mp this
  ·exact CC f _ _ j h
def G2{l:List (Option Nat)}{j k:Nat}(h:l[j]? = some none):List.Perm ((l.set j (some k)).filterMap id) (k::l.filterMap id):=by
 induction l generalizing j with
 | nil=>cases h
 | cons a l ih =>
  cases j with
  | zero =>
   cases h;exact .rfl
  | succ j =>
   have h:l[j]? = some none:=h;cases a with
   | none=>exact ih h
   | some b =>
    show List.Perm (b::(l.set j (some k)).filterMap id) (k::b::l.filterMap id);exact ((ih h).cons b).trans (List.Perm.swap ..)
def MI{l:List (Option Nat)}(h:(l.filterMap id).length<l.length):∃j,j<l.length/\l[j]? = some none:=by
 induction l with
 | nil=>cases h
 | cons a l ih =>
  cases a with
  | none=>exact⟨0,Nat.succ_pos _,rfl⟩
  | some b =>
   have h:(l.filterMap id).length+1<l.length+1:=h;obtain⟨j,c,e⟩:=ih (by omega);exact⟨j+1,Nat.succ_lt_succ c,e⟩
def pP(mask:Nat)(a:Option (Array (Option Nat) × Nat))(h:Int):Option (Array (Option Nat) × Nat):=do
 let (owner,k) <- a
 let j <- SetTable.layClean.free mask owner (SetTable.turns mask) (SetTable.bits h%(mask+1)) (SetTable.bits h)
 pure (owner.setIfInBounds j (some k),k+1)
def L4{mask:Nat}(n:cI (mask+1)){owner:Array (Option Nat)}{k:Nat}(h:Int)(sz:owner.size=mask+1)(f:List.Perm (owner.toList.filterMap id) (List.range k))(lt:k<mask+1) :
 ∃owner',pP mask (some (owner,k)) h=some (owner',k+1)/\owner'.size=mask+1/\List.Perm (owner'.toList.filterMap id) (List.range (k+1)):=by
 have c:(owner.toList.filterMap id).length<owner.toList.length:=by rw[f.length_eq,Uk,T2,sz];exact lt
 obtain⟨g,a,l⟩:=MI c;rw[T2,sz]at a;have m:¬og owner g:=by
  unfold og;rw[VS,<- Wg,l]
  decide
 obtain⟨j,d⟩:=OR (h:=h) n a m;have b:=CC _ _ _ _ d;have i:owner.toList[j]? = some none:=by
  rw[VS,<- Wg]at b;cases e:owner.toList[j]? with
  | none=>rw[e]at b;cases b
  | some v=>rw[e]at b;exact congrArg some b
 refine⟨owner.setIfInBounds j (some k),?_,?_,?_⟩
 ·unfold pP;simp only [Option.bind_eq_bind,VR];rw[d]
  rfl
 ·rw[Wb];exact sz
 ·rw[Array.toList_setIfInBounds];refine (G2 i).trans ((f.cons k).trans ?_);rw[List.range_succ];exact (List.perm_append_singleton k (List.range k)).symm
theorem By{mask:Nat}(e:cI (mask+1)):∀(hs:e7) (owner:Array (Option Nat)) (k:Nat),owner.size=mask+1->List.Perm (owner.toList.filterMap id) (List.range k)->k+hs.length<=mask+1 ->
 ∃owner',hs.foldl (pP mask) (some (owner,k))=some (owner',k+hs.length)/\owner'.size=mask+1/\List.Perm (owner'.toList.filterMap id) (List.range (k+hs.length))
 | [],owner,k,sz,pm,_=>⟨owner,rfl,sz,pm⟩
 | h::hs,owner,k,sz,pm,le=>by
  rw[TX]at le;obtain⟨o1,f,a,d⟩:=L4 e h sz pm (by omega);obtain⟨i,g,b,c⟩:=By e hs o1 (k+1) a d (by omega);refine⟨i,?_,b,?_⟩
  ·rw[UM,f,g,TX,Nat.add_right_comm,Nat.add_assoc]
  ·rw[TX,show k+(hs.length+1)=k+1+hs.length by omega];exact c
def Ib(o:Array (Option Nat)):((List.range o.size).filterMap λj=>(o.getD j none).map λk=>(j,k)).map (λx=>x.2)=o.toList.filterMap id:=by
 rw[List.map_filterMap];have e:(λj=>Option.map (λx:Nat × Nat=>x.2) ((o.getD j none).map λk=>(j,k)))=λj=>(o[j]?).bind id:=by
  funext j
  rw[VS];cases o[j]? with
  | none=>rfl
  | some v=>cases v<;>rfl
 rw[e];have a:=filterMap_getElem?_range o;rw[<- a,List.filterMap_filterMap]
def BA{mask finger moves:Nat}{led plain:Bool}{hs:Array Int}(c:cI (mask+1))(le:hs.size<=mask+1):∃t order,SetTable.laid mask finger moves led plain hs=some (t,order)/\t.mask=mask/\t.place.size=hs.size/\t.dummies = #[]/\List.Perm order.toList (List.range hs.size):=by
 obtain⟨o,e,sz,b⟩:=By c hs.toList (Array.replicate (mask+1) none) 0 (Array.size_replicate ..) (by
  rw[Array.toList_replicate];have:∀n:Nat,(List.replicate n (none:Option Nat)).filterMap id=[]:=λn=>by
   induction n with
   | zero=>rfl
   | succ n ih=>rw[UL];exact ih
  rw[this];exact .rfl) (by rw[T2];omega)
 have d:SetTable.layClean mask hs=some o:=by
  show Option.map _ (hs.foldl (pP mask) (some (Array.replicate (mask+1) none,0)))=_;rw[<- Array.foldl_toList,e]
  rfl
 have a:=Ib o;rw[sz]at a;rw[T2,U4]at b;refine⟨_,_,by unfold SetTable.laid;rw[d];rfl,rfl,?_,rfl,?_⟩
 ·rw[TB,To,<- To (f:=λx:Nat × Nat=>x.2),a,b.length_eq,Uk]
 ·show List.Perm (List.map _ _) _;rw[a];exact b
section
variable {prog:Program}{w:World}{A:Around}{E:Value->fy->Prop}{s:fy}
theorem vE{α:Type}:∀ {l:List α} {i:Nat} (h:i<l.length),List.Perm (l[i]::l.eraseIdx i) l
 | a::l,0,_=>.rfl
 | a::l,i+1,h=>by
  have h:i<l.length:=Nat.lt_of_succ_lt_succ h;show List.Perm (l[i]::a::l.eraseIdx i) (a::l);exact (List.Perm.swap ..).trans ((vE h).cons a)
theorem AK{α:Type}(next:Nat->Nat):∀(a k:Nat) (left:List α) (b:Array α),left.length=a->List.Perm (pickOrder.go next a k left b).toList (b.toList++left)
 | 0,k,left,b,h=>by
  obtain rfl:=U5 h;unfold pickOrder.go;rw[TD]
 | a+1,k,left,b,h=>by
  unfold pickOrder.go;have lt:next k%left.length<left.length:=Nat.mod_lt _ (by omega)
  rw[T4 lt];dsimp only;refine (AK next a (k+1) _ _ (by rw[Wh lt];omega)).trans ?_;rw[Array.toList_push,T8];refine List.Perm.append_left _ ?_;exact vE lt
def Jx{α:Type}(next:Nat->Nat)(xs:Array α):List.Perm (pickOrder next xs).toList xs.toList:=by
 have:=AK next xs.size 0 xs.toList #[] (T2 ..)
 exact this
def oK(w:World):Bool:=w.params.followText "set-order"
def yJ{Q:Bool->fy->Prop}(h:Q (oK w) s):wpAny (model prog w) A setsByText Q E s:=by
 unfold setsByText;exact kb (wpAny_askSetting (on h))
structure SI (prog:Program) (w:World) (h:Heap) (a:Addr) (o:Obj) (es:Array (Int × Value)) (ep:Nat) (t:SetTable):Prop where
 ho:h.get? a=some o
 hex:o.ExactSet
 hd:o.data=.set es ep t
 hel:ElemsOf (intKind prog w) es.toList
 hb:es.size<scanBound
 hf:t.fits es.size=true
def SI.at{h h':Heap}{a:Addr}{o:Obj}{es:Array (Int × Value)}{b:Nat}{t:SetTable}(I:SI prog w h a o es b t)(e:h'.get? a=some o):SI prog w h' a o es b t:=⟨e,I.hex,I.hd,I.hel,I.hb,I.hf⟩
def O9:∀(l:List (Int × Value)),ElemsOf (intKind prog w) l->∀e∈l,∃i t,e.2=.int i t:=λl h e b=>by
 obtain⟨⟨k,a,_⟩,_⟩:=h e b;obtain⟨t,e⟩:=Value.isInt_shape a;exact⟨k,t,e⟩
def EC{Q:Bool->fy->Prop}(a:List Addr)(hs:∀b∈a,∃o es f t,SI prog w s.heap b o es f t)(h:Q true s):wpAny (model prog w) A (setsQuiet a) Q E s:=by
 unfold setsQuiet;refine kb ?_;refine wpAny_forIn_list _ (λl b d=>d=s/\b=⟨none,⟨⟩⟩/\∀x∈l,∃o es f t,SI prog w s.heap x o es f t) _ ?_ ?_ a _ ⟨rfl,rfl,hs⟩
 ·rintro x bJ b d ⟨rfl,rfl,k⟩;obtain⟨o,es,f,t,I⟩:=k x (TV ..);refine kb (wpAny_setEntries_of I.ho I.hd I.hf ?_);dsimp only;refine kb ?_;refine Wi _ (λl b c=>c=d/\b=(none,())/\ElemsOf (intKind prog w) l) _ ?_ ?_ es _ ⟨rfl,rfl,I.hel⟩
  ·rintro e g b c ⟨rfl,rfl,j⟩;obtain⟨i,p,n⟩:=O9 _ j e (TV ..);rw[n];exact on ⟨rfl,rfl,j.tail⟩
  ·rintro b c ⟨rfl,rfl,_⟩;exact on ⟨rfl,rfl,λy m=>k y (TW _ m)⟩
 ·rintro b d ⟨rfl,rfl,_⟩;exact on h
def FL{a:Addr}{o:Obj}{es:Array (Int × Value)}{e:Nat}{t:SetTable}{Q:Array (Int × Value)->fy->Prop}(I:SI prog w s.heap a o es e t)(c:oK w=true\/(t.led=true/\t.plain=true)\/es.size<=1)
 (h:∀es',List.Perm es'.toList es.toList->Q es' s):wpAny (model prog w) A (setWalk a) Q E s:=by
 unfold setWalk;refine kb (wpAny_setState_of I.ho I.hd I.hf ?_);dsimp only;refine kb (yJ ?_);cases b:oK w with
 | true =>
  simp only [↓reduceIte];exact kb (wpAny_askSetting (on (h _ (Jx _ _))))
 | false =>
  have c:(t.led=true/\t.plain=true)\/es.size<=1:=c.resolve_left (by rw[b];decide);simp only [Uh,↓reduceIte];have nd:(!t.plain && decide (es.size > 1))=false:=by
   rcases c with c|c
   ·rw[c.2];rfl
   ·rw[WB (by omega),VG]
  have d:(!t.led && decide (es.size > 1))=false:=by
   rcases c with c|c
   ·rw[c.1];rfl
   ·rw[WB (by omega),VG]
  show wpAny _ _ (if (!t.plain && decide (es.size > 1))=true then _ else (do (if (!t.led && decide (es.size > 1))=true then unsupported "set:maker-not-led" else pure ());pure es)) Q E s;rw[nd,d];simp only [Uh,↓reduceIte];exact kb (on (on (h _ .rfl)))
def yF{a:Addr}{d:List Addr}{filled:Option Addr}{o:Obj}{es:Array (Int × Value)}{g:Nat}{t:SetTable}{Q:Array (Int × Value)->fy->Prop}(I:SI prog w s.heap a o es g t)
 (hO:∀b∈d,∃o es g t,SI prog w s.heap b o es g t) (hF:∀f,filled=some f->∃o es g t,SI prog w s.heap f o es g t)
 (h:∀es',List.Perm es'.toList es.toList->Q es' s) (hf:∀f o i e j tf',filled=some f->SI prog w s.heap f o i e j->tf'.fits i.size=true->Q es { s with heap:=s.heap.update f (Obj.putSet i tf') }) :
 wpAny (model prog w) A (setWalkUnseen a d filled) Q E s:=by
 unfold setWalkUnseen;refine kb (wpAny_setState_of I.ho I.hd I.hf ?_);dsimp only;refine kb (yJ ?_);by_cases c:(oK w || (t.led && t.plain) || decide (es.size<=1))=true
 ·rw[Ww c];refine FL I ?_ h;simp only [Vn,T7,decide_eq_true_eq]at c;rcases c with (c|c)|c
  ·exact .inl c
  ·exact .inr (.inl c)
  ·exact .inr (.inr c)
 ·rw[Wv c];refine kb (EC (a::d) (λb hb=>?_) ?_)
  ·rcases TF.mp hb with rfl|hb
   ·exact⟨o,es,g,t,I⟩
   ·exact hO b hb
  simp only [UN,Uh,↓reduceIte];refine kb (wpAny_rule ?_);cases filled with
  | none=>exact on (h es .rfl)
  | some f =>
   obtain⟨of,i,e,j,J⟩:=hF f rfl;dsimp only;refine kb (wpAny_setState_of J.ho J.hd J.hf ?_);dsimp only
   split
   ·refine kb (wpAny_storeSet_of J.ho J.hd (on (hf f of i e j _ Z J ?_)) (fits_of_scanBound J.hb));exact J.hf
   ·exact on (h es .rfl)
def SI.setOf{h:Heap}{a:Addr}{o:Obj}{es:Array (Int × Value)}{b:Nat}{t:SetTable}(I:SI prog w h a o es b t):h.SetOf (intKind prog w) a (λk=>es.toList.any λe=>Value.isInt k e.2) es.size :=
 ⟨o,es,b,t,I.ho,I.hex,I.hd,I.hel,λk=>Uo,I.hb,I.hf,rfl⟩
def SI.of{h:Heap}{a:Addr}{S:Int->Bool}{n:Nat}(hS:h.SetOf (intKind prog w) a S n):∃o es b t,SI prog w h a o es b t/\(∀k,S k=true ↔ ∃e∈es.toList,Value.isInt k e.2=true)/\es.size=n:=by
 obtain⟨o,es,b,t,ho,hex,hd,hel,c,hb,hf,d⟩:=hS;exact⟨o,es,b,t,⟨ho,hex,hd,hel,hb,hf⟩,c,d⟩
def SI.ty {a:Addr} {o:Obj} {es:Array (Int × Value)} {b:Nat} {t:SetTable} (I:SI prog w s.heap a o es b t):s.TypeIs (.ref a) "set":=⟨o,I.ho,I.hex.1⟩
def SI.put{h:Heap}{a:Addr}{o:Obj}{es es':Array (Int × Value)}{b:Nat}{t t':SetTable}(I:SI prog w h a o es b t)(hel:ElemsOf (intKind prog w) es'.toList)(hb:es'.size<scanBound)(hf:t'.fits es'.size=true) :
 SI prog w (h.update a (Obj.putSet es' t')) a { o with data:=.set es' (b+1) t' } es' (b+1) t' :=
 ⟨(SetOf_store (knd:=intKind prog w) (S':=λk=>es'.toList.any λe=>Value.isInt k e.2) I.ho I.hex I.hd hel (λk=>Uo) hb hf).1,I.hex,rfl,hel,hb,hf⟩
def oz{a:Addr}{o:Obj}{es:Array (Int × Value)}{b:Nat}{t:SetTable}{Q:Nat->fy->Prop}(I:SI prog w s.heap a o es b t)(h:Q es.size s):wpAny (model prog w) A (Builtin.Frozenset.sizeOf a) Q E s:=by
 unfold Builtin.Frozenset.sizeOf;exact kb (wpAny_setEntries_of I.ho I.hd I.hf (on h))
def oC {a:Addr} {Q:Bool->fy->Prop} (hT:s.TypeIs (.ref a) "set") (h:Q true s):wpAny (model prog w) A (Builtin.Frozenset.isAnySet (.ref a)) Q E s:=by
 unfold Builtin.Frozenset.isAnySet;unfold orM;exact kb (wpAny_isInstance hT sub_set_self (on h))
def yK {a:Addr} {Q:Value->fy->Prop} (hT:s.TypeIs (.ref a) "set") (h:Q (.type "set") s):wpAny (model prog w) A (Builtin.Frozenset.baseOf a) Q E s:=by
 unfold Builtin.Frozenset.baseOf;exact kb (wpAny_isInstance hT sub_set_self (on h))
def rS{id:String}{a:Addr}{o:Obj}{es:Array (Int × Value)}{b:Nat}{t:SetTable}{Q:Unit->fy->Prop}(I:SI prog w s.heap a o es b t)(h:Q () s):wpAny (model prog w) A (Builtin.Frozenset.unchanged id a b) Q E s:=by
 unfold Builtin.Frozenset.unchanged;refine kb (wpAny_setEpoch_of I.ho I.hd I.hf ?_);rw[bne_self_eq_false];exact on h
def Ky(l:List (Int × Value))(k:Int):Prop:=∃e∈l,Value.isInt k e.2=true
def pQ{l b:List (Int × Value)}(p:List.Perm l b)(k:Int):Ky l k ↔ Ky b k:=⟨λ⟨e,a,h⟩=>⟨e,p.mem_iff.mp a,h⟩,λ⟨e,a,h⟩=>⟨e,p.mem_iff.mpr a,h⟩⟩
def EI{id:String}{a b r:Addr}{N:Obj}{U:Array (Int × Value)}{j:Nat}{O:SetTable}{p:Int->Bool}{M:Nat}{l:List (Int × Value)}{Q:Unit->fy->Prop}
 (R:SI prog w s.heap a N U j O) (HB:s.heap.SetOf (intKind prog w) b p M) (HR:s.heap.SetOf (intKind prog w) r (λ_=>false) 0) (m:r≠a) (I:r≠b) (hw:ElemsOf (intKind prog w) l) (hz:l.length+1<scanBound)
 (h:∀h' S n,Heap.SameBut r s.heap h'->h'.SetOf (intKind prog w) r S n->(∀k,S k=true ↔ Ky l k/\p k=false)->Q () { s with heap:=h' }) :
 wpAny (model prog w) A (forIn l PUnit.unit λx _=>do
  holding [x.2] (do
   let d <- setFind b x.2 x.1
   let there <- pure d.isSome
   if (!there)=true then do
    let _ <- setAddHashed r x.2 x.1
    pure PUnit.unit
   else pure PUnit.unit)
  Builtin.Frozenset.unchanged id a j
  pure (ForInStep.yield PUnit.unit)) (λ_=>Q ()) E s:=by
 refine wpAny_forIn_list _ (λbJ b' D=>∃h' S n done,D = { s with heap:=h' }/\Heap.SameBut r s.heap h'/\h'.SetOf (intKind prog w) r S n/\done++bJ=l/\n<=done.length/\∀k,S k=true ↔ Ky done k/\p k=false) _ ?_ ?_ l _ ⟨s.heap,_,0,[],rfl,Uy _ _,HR,rfl,Tp _,λk=>⟨λz=>Bool.noConfusion z,λ⟨⟨e,q,_⟩,_⟩=>nomatch q⟩⟩
 ·rintro x bJ u D ⟨h',S,n,done,rfl,sb,hR,i,L,C⟩;have hx:x∈l:=by rw[<- i];exact TM _ (TV ..)
  have ll:=congrArg List.length i;rw[Tq,TX]at ll;obtain⟨⟨k,g,Y⟩,V⟩:=hw x hx;have v:∀c,c.get? a=h'.get? a->SI prog w c a N U j O:=λc e=>R.at (by rw[e,sb.2 a (Ne.symm m)];exact R.ho);have G:h'.SetOf (intKind prog w) b p M:=by
   obtain⟨o,es,W,t,ho,z⟩:=HB;exact⟨o,es,W,t,by rw[sb.2 b (Ne.symm I)];exact ho,z⟩
  have ks:∀f,Ky (done++[x]) f ↔ Ky done f\/f=k:=λf=>by
   constructor
   ·rintro⟨e,q,z⟩;rcases TL.mp q with y|y
    ·exact .inl ⟨e,y,z⟩
    ·rw[TU.mp y]at z;exact .inr (Value.isInt_inj _ _ _ z g)
   ·rintro (⟨e,q,z⟩|rfl)
    ·exact⟨e,Ub _ q,z⟩
    ·exact⟨x,TM _ (TU.mpr Z),g⟩
  rw[Y];refine kb (wpAny_holding (kb (wpAny_setFind_of (s:={ s with heap:=h' }) g V G λr' F=>kb (on ?_))));rw[F];cases hSb:p k with
  | true =>
   simp only [UN,Uh,↓reduceIte];refine on (kb (rS (s:={ s with heap:=h' }) (v h' rfl) (on ⟨h',S,n,done++[x],rfl,sb,hR,by rw[T8];exact i,by rw[Tq];exact Nat.le_succ_of_le L,λf=>?_⟩)));rw[C f,ks f];exact⟨λ⟨y,z⟩=>⟨.inl y,z⟩,λ⟨y,z⟩=>⟨y.resolve_right (λe=>by rw[e,hSb]at z;cases z),z⟩⟩
  | false =>
   simp only [Bool.not_false,↓reduceIte];refine kb (wpAny_setAddHashed_of (s:={ s with heap:=h' }) g V hR (by omega) λc B J=>on (kb (rS (s:={ s with heap:=c }) (v c (B.2 a (Ne.symm m))) (on ⟨c,_,_,done++[x],rfl,sb.trans B,J,by rw[T8];exact i,?_,λf=>?_⟩))))
   ·rw[Tq];show _<=_+1
    split<;>omega
   ·rw[Vn,decide_eq_true_eq,C f,ks f];exact⟨λz=>z.elim (λy=>⟨.inl y.1,y.2⟩) (λe=>⟨.inr e,by rw[e];exact hSb⟩),λ⟨y,z⟩=>y.elim (λy=>.inl ⟨y,z⟩) .inr⟩
 ·rintro u D ⟨h',S,n,done,rfl,sb,hR,i,L,C⟩;rw[TD]at i;exact h h' S n sb hR (by rw[<- i];exact C)
def Dp:∀n,n<1001->(SetTable.sizeAbove n=8\/SetTable.sizeAbove n=16\/SetTable.sizeAbove n=32\/SetTable.sizeAbove n=64\/SetTable.sizeAbove n=128\/SetTable.sizeAbove n=256\/SetTable.sizeAbove n=512\/SetTable.sizeAbove n=1024)/\n<SetTable.sizeAbove n:=by decide +kernel
def Do{n:Nat}(h:n<1001):cI (SetTable.sizeAbove n-1+1)/\n<=SetTable.sizeAbove n-1/\SetTable.sizeAbove n<=1024:=by
 obtain⟨a,b⟩:=Dp n h;refine⟨?_,by omega,by rcases a with a|a|a|a|a|a|a|a<;>rw[a]<;>decide⟩;rw[show SetTable.sizeAbove n-1+1=SetTable.sizeAbove n by omega];rcases a with a|a|a|a|a|a|a|a<;>rw[a]
 ·exact yM
 ·exact EQ
 ·exact EN
 ·exact EL
 ·exact ER
 ·exact EO
 ·exact EM
 ·exact ES
def AW{es:Array (Int × Value)}{a:Array Nat}(p:List.Perm a.toList (List.range es.size)):List.Perm (a.filterMap λi=>es[i]?).toList es.toList:=by
 rw[Array.toList_filterMap];exact (p.filterMap _).trans (by rw[filterMap_getElem?_range])
def o9{es es':Array (Int × Value)}(p:List.Perm es'.toList es.toList):es'.size=es.size:=by rw[<- T2,p.length_eq,T2]
def qh{t:SetTable}{n:Nat}(b:t.place.size=n)(a:t.place.size+t.dummies.size<=t.mask):t.fits n=true:=by
 unfold SetTable.fits SetTable.fill;rw[T7,beq_iff_eq,decide_eq_true_eq];exact⟨b,a⟩
def qg{t:SetTable}{n:Nat}(h:t.fits n=true):t.place.size=n/\t.place.size+t.dummies.size<=t.mask:=by
 unfold SetTable.fits SetTable.fill at h;rw[T7,beq_iff_eq,decide_eq_true_eq]at h;exact h
def yI{es es':Array (Int × Value)}{t':SetTable}{Q:Array (Int × Value) × SetTable->fy->Prop}{x:Sem (Array (Int × Value) × SetTable)}(sz:es'.size=es.size)(h:Q (es',t') s) :
 wpAny (model prog w) A (if (es'.size != es.size)=true then x else pure (es',t')) Q E s:=by
 rw[sz,bne_self_eq_false,Wv TC];exact on h
def yH{r:Addr}{o:Obj}{es:Array (Int × Value)}{m:Nat}{t:SetTable}{b:Nat}{Q:Unit->fy->Prop}(I:SI prog w s.heap r o es m t)(hw:b<1001)(q:es.size<=b\/es.size<=7)
 (h:∀o' es' c t' h',Heap.SameBut r s.heap h'->SI prog w h' r o' es' c t'->List.Perm es'.toList es.toList->t'.mask=SetTable.sizeAbove b-1->t'.dummies = #[]->Q () { s with heap:=h' }):wpAny (model prog w) A (setRelay r b) Q E s:=by
 obtain⟨n,ge,le⟩:=Do hw;have p:7<=SetTable.sizeAbove b-1:=by
  obtain⟨a,_⟩:=Dp b hw;rcases a with a|a|a|a|a|a|a|a<;>rw[a]<;>decide
 unfold setRelay;refine kb (wpAny_setState_of I.ho I.hd I.hf ?_);dsimp only;rw[Wv (by rw[sizeLine_eq];omega)];unfold SetTable.relaid;obtain⟨t',d,l,g,c,j,k⟩:=BA (mask:=SetTable.sizeAbove b-1) (finger:=t.finger) (moves:=t.movedTo (SetTable.sizeAbove b-1)) (led:=t.led) (plain:=t.plain) (hs:=es.map λe=>e.1) n (by rw[Vq];omega);rw[Vq]at c k;have f:=AW k;have sz:=o9 f;rw[l];refine kb ?_;exact yI (es':=d.filterMap λi=>es[i]?) (t':=t') sz (wpAny_storeSet_of I.ho I.hd (h _ _ _ _ _ (U6 s.heap r _) (I.put (I.hel.perm f) (by rw[sz];exact I.hb) (qh (by rw[c,sz]) (by rw[c,j,g];show _+0<=_;omega))) f g j) (fits_of_scanBound (by rw[sz];exact I.hb)))
def ED{a r:Addr}{S or:Obj}{f:Array (Int × Value)}{I p:Nat}{l o:SetTable}{Q:Unit->fy->Prop}(j:SI prog w s.heap a S f I l)(q:SI prog w s.heap r or #[] p o)(B:o.mask=7/\o.dummies = #[])(ne:r≠a)(ln:f.size<=250)
 (h:∀M es' b t' h',Heap.SameBut r s.heap h'->SI prog w h' r M es' b t'->List.Perm es'.toList f.toList->Q () { s with heap:=h' }):wpAny (model prog w) A (setMerge r a) Q E s:=by
 have F:o.place.size=0:=(qg q.hf).1;unfold setMerge;have Y:(r == a)=false:=by rw[beq_eq_false_iff_ne];exact ne
 rw[Y];simp only [Uh,↓reduceIte];refine kb (wpAny_setState_of j.ho j.hd j.hf ?_);dsimp only;by_cases em:f.isEmpty=true
 ·rw[Ww em];have V:s = { s with heap:=s.heap }:=by cases s;rfl
  refine on ?_;rw[V];exact h or #[] p o s.heap (Uy _ _) q (by rw[Array.isEmpty_iff.mp em])
 ·rw[Wv em];unfold setRoomFor;refine kb (kb (wpAny_setState_of q.ho q.hd q.hf ?_));dsimp only;refine wpAny_mono (Q:=λ_ s1=>∃v o1 m y d,s1 = { s with heap:=v }/\Heap.SameBut r s.heap v/\SI prog w v r o1 m y d/\m = #[]/\d.dummies = #[]/\cI (d.mask+1)/\f.size<=d.mask) ?_ ?_ (λ_ _ z=>z)
  ·have W:o.roomFor f.size=if f.size*5>=21 then some (f.size*2) else none:=by
    unfold SetTable.roomFor SetTable.fill;rw[F,B.1,B.2];show (if (0+0+f.size)*5>=7*3 then some ((0+f.size)*2) else none)=_;rw[U4]
   rw[W];by_cases c:f.size*5>=21
   ·rw[Ww c];refine yH q (by omega) (.inr (TJ _)) λM es' b t' h' sb O C k G=>?_;have N:es' = #[]:=by
     have:=o9 C;exact Array.eq_empty_of_size_eq_zero this
    obtain⟨L,ge,_⟩:=Do (n:=f.size*2) (by omega);exact⟨h',M,es',b,t',rfl,sb,O,N,G,by rw[k];exact L,by rw[k];omega⟩
   ·rw[Wv c];refine on ⟨s.heap,or,#[],p,o,rfl,Uy _ _,q,rfl,B.2,by rw[B.1];exact yM,by rw[B.1];omega⟩
  ·rintro _ s1 ⟨v,o1,m,y,d,rfl,x,g,rfl,G,L,le⟩;have R:d.place.size=0:=(qg g.hf).1;refine kb (wpAny_setState_of g.ho g.hd g.hf ?_);dsimp only;have rd:d.road l=if d.mask == l.mask && l.dummies.isEmpty then .slotForSlot else .clean:=by
    unfold SetTable.road SetTable.fill;rw[R,G]
    rfl
   rw[rd];have ft:=qg j.hf;by_cases c:(d.mask == l.mask && l.dummies.isEmpty)=true
   ·rw[Ww c];dsimp only;exact wpAny_storeSet_of g.ho g.hd (h _ _ _ _ _ (x.trans (U6 v r _)) (g.put j.hel j.hb (qh ft.1 ft.2)) .rfl) (fits_of_scanBound j.hb)
   ·rw[Wv c];dsimp only;obtain⟨t',u,U,k,b,D,C⟩:=BA (mask:=d.mask) (finger:=d.finger) (moves:=d.moves) (led:=d.led && l.led) (plain:=d.plain && l.plain) (hs:=f.map λe=>e.1) L (by rw[Vq];omega);rw[Vq]at b C;have J:=AW C;have sz:=o9 J;rw[U];refine kb ?_;exact yI (es':=u.filterMap λi=>f[i]?) (t':=t') sz (wpAny_storeSet_of g.ho g.hd (h _ _ _ _ _ (x.trans (U6 v r _)) (g.put (j.hel.perm J) (by rw[sz];exact j.hb) (qh (by rw[b,sz]) (by rw[b,D,k];show _+0<=_;omega))) J) (fits_of_scanBound (by rw[sz];exact j.hb)))
def EE{a:Addr}{o:Obj}{es:Array (Int × Value)}{d:Nat}{t:SetTable}{k:Int}{x:Value}{Q:Option Nat->fy->Prop}(b:Value.isInt k x=true)(c:x.scannable=true)(I:SI prog w s.heap a o es d t)
 (h:Q (es.toList.findIdx? λe=>Value.isInt k e.2) s):wpAny (model prog w) A (setFind a x ((intKind prog w).hash k)) Q E s:=by
 unfold setFind setFindIn;refine kb (wpAny_setState_of I.ho I.hd I.hf ?_);dsimp only;rw[byScan_of c I.hb I.hel];simp only [↓reduceIte];refine kb (wpAny_rule ?_);refine kb (wpAny_setScan_of (knd:=intKind prog w) b I.ho I.hd I.hf I.hel ?_);have f:List.findIdx? (λe:Int × Value=>(intKind prog w).is k e.2) es.toList=List.findIdx? (λe=>Value.isInt k e.2) es.toList:=rfl;rw[f];cases hr:List.findIdx? (λe=>Value.isInt k e.2) es.toList with
 | none=>rw[hr]at h;exact on h
 | some j=>rw[hr]at h;dsimp only;rw[U4];exact on h
def Dk(l:List (Int × Value)):Prop:=l.Pairwise λe a=>∀k,Value.isInt k e.2=true->Value.isInt k a.2=true->False
def vH{l c:List (Int × Value)}(p:List.Perm l c)(h:Dk l):Dk c:=(p.pairwise_iff λ{x y} z k a b=>z k b a).mp h
def qu(es:Array (Int × Value))(i:Nat):(SetTable.eraseAt es i).toList=es.toList.eraseIdx i:=by
 unfold SetTable.eraseAt;rw[Array.toList_append,Wj,Wj,List.eraseIdx_eq_take_drop_succ];simp[List.extract_eq_take_drop,Uj]
def Pd{t:SetTable}{n i:Nat}(h:t.fits n=true)(c:i<n):(t.drop i).fits (n-1)=true:=by
 obtain⟨d,b⟩:=qg h;have e:t.place[i]? = some t.place[i]:=Wd (by omega);unfold SetTable.drop;rw[e];dsimp only;have s1:(SetTable.eraseAt t.place i).size=n-1:=by
  unfold SetTable.eraseAt;rw[Array.size_append,VI,VI];omega
 have a:(SetTable.insertAt t.dummies (SetTable.below t.dummies t.place[i]) t.place[i]).size=t.dummies.size+1:=by
  rw[<- T2,(SetTable.insertAt_perm ..).length_eq,T2,Array.size_push]
 exact qh s1 (by dsimp only;rw[s1,a];omega)
def EF{r:Addr}{o:Obj}{es:Array (Int × Value)}{p:Nat}{t:SetTable}{k:Int}{x:Value}{Q:Bool->fy->Prop}(f:Value.isInt k x=true)(j:x.scannable=true)(I:SI prog w s.heap r o es p t)(dk:Dk es.toList)
 (h:∀b o' es' ep' t' h',Heap.SameBut r s.heap h'->SI prog w h' r o' es' ep' t'->Dk es'.toList->es'.size<=es.size->(∀d,Ky es'.toList d ↔ Ky es.toList d/\d≠k)->Q b { s with heap:=h' }):wpAny (model prog w) A (setDiscardHashed r x ((intKind prog w).hash k)) Q E s:=by
 unfold setDiscardHashed;refine kb (EE f j I ?_);cases hr:List.findIdx? (λe=>Value.isInt k e.2) es.toList with
 | none =>
  dsimp only;have q:s = { s with heap:=s.heap }:=by cases s;rfl
  refine on ?_;rw[q];refine h false o es p t s.heap (Uy _ _) I dk (Tp _) λd=>⟨λz=>⟨z,λe=>?_⟩,λz=>z.1⟩;obtain⟨B,a,y⟩:=z;have:=List.findIdx?_eq_none_iff.mp hr B a;rw[e]at y;rw[y]at this;cases this
 | some i =>
  dsimp only;obtain⟨m,n,_⟩:=List.findIdx?_eq_some_iff_getElem.mp hr;have l:i<es.size:=by rw[<- T2];exact m
  refine kb (wpAny_setState_of I.ho I.hd I.hf ?_);dsimp only;have g:=vE m;have c:=vH g.symm dk;have sz:(SetTable.eraseAt es i).size=es.size-1:=by rw[<- T2,qu,Wh m,T2]
  have u:ElemsOf (intKind prog w) (SetTable.eraseAt es i).toList:=by
   rw[qu];exact λe a=>I.hel e (g.mem_iff.mp (TW _ a))
  refine kb (wpAny_storeSet_of I.ho I.hd ?_ (fits_of_scanBound (by have:=I.hb;omega)));refine kb (wpAny_point (on (h true _ _ _ _ _ (U6 s.heap r _) (I.put u (by have:=I.hb;omega) (by rw[sz];exact Pd I.hf l)) ?_ (by omega) λd=>?_)))
  ·rw[qu];exact (List.pairwise_cons.mp c).2
  ·rw[qu]
   constructor
   ·rintro⟨e,a,z⟩;refine⟨⟨e,g.mem_iff.mp (TW _ a),z⟩,λv=>?_⟩;rw[v]at z;exact (List.pairwise_cons.mp c).1 e a k n z
   ·rintro⟨⟨e,a,z⟩,nk⟩;rcases TF.mp (g.mem_iff.mpr a) with y|y
    ·rw[y]at z;exact Wx (Value.isInt_inj _ _ _ z n) nk
    ·exact⟨e,y,z⟩
def EA{r:Addr}{o:Obj}{es:Array (Int × Value)}{c:Nat}{t:SetTable}{Q:Unit->fy->Prop}(I:SI prog w s.heap r o es c t)(i:es.size<=250)
 (h:∀b es' a t' h',Heap.SameBut r s.heap h'->SI prog w h' r b es' a t'->List.Perm es'.toList es.toList->Q () { s with heap:=h' }):wpAny (model prog w) A (setTidy r) Q E s:=by
 unfold setTidy;refine kb (wpAny_setState_of I.ho I.hd I.hf ?_);dsimp only
 split
 ·have g:SetTable.grown es.size=es.size*4:=by
   unfold SetTable.grown;rw[Wv (by omega)]
  rw[g];exact yH I (by omega) (.inl (by omega)) λb es' a t' h' sb e f _ _=>h b es' a t' h' sb e f
 ·have d:s = { s with heap:=s.heap }:=by cases s;rfl
  refine on ?_;rw[d];exact h o es c t s.heap (Uy _ _) I .rfl
def EH{id:String}{b r:Addr}{ob or:Obj}{G g:Array (Int × Value)}{F p:Nat}{tb tr:SetTable}{Q:Unit->fy->Prop}(c:SI prog w s.heap b ob G F tb)(IR:SI prog w s.heap r or g p tr)(dk:Dk g.toList)(ne:b≠r)(ln:g.size<=250)(lb:G.size<=g.size)
 (h:∀C es' a t' h',Heap.SameBut r s.heap h'->SI prog w h' r C es' a t'->(∀k,Ky es'.toList k ↔ Ky g.toList k/\¬Ky G.toList k)->Q () { s with heap:=h' }):wpAny (model prog w) A (Builtin.Frozenset.differenceUpdate id r (.ref b)) Q E s:=by
 unfold Builtin.Frozenset.differenceUpdate;have n1:((Value.ref b:Value) == .ref r)=false:=by
  rw[beq_eq_false_iff_ne];intro z;cases z;exact ne Z
 rw[n1];simp only [Uh,↓reduceIte];refine kb (oC c.ty ?_);simp only [↓reduceIte];unfold Builtin.Frozenset.addrOf;refine kb (on ?_);refine kb (oz c ?_);refine kb (oz IR ?_);rw[Wv (by omega)];refine kb (wpAny_setEpoch_of c.ho c.hd c.hf ?_);refine kb (wpAny_holding (kb (yF (filled:=none) c (λx hx=>by rw[TU.mp hx];exact⟨_,_,_,_,IR⟩) (λf z=>nomatch z) (λI pm=>?_) (λf _ _ _ _ _ z=>nomatch z))));have O:ElemsOf (intKind prog w) I.toList:=c.hel.perm pm;refine kb ?_;refine Wi _ (λbJ _ M=>∃h' C es' a t' done,M = { s with heap:=h' }/\Heap.SameBut r s.heap h'/\SI prog w h' r C es' a t'/\Dk es'.toList/\es'.size<=g.size/\done++bJ=I.toList/\∀k,Ky es'.toList k ↔ Ky g.toList k/\¬Ky done k) _ ?_ ?_ I _ ⟨s.heap,or,g,p,tr,[],rfl,Uy _ _,IR,dk,Tp _,rfl,λk=>⟨λz=>⟨z,λ⟨e,m,_⟩=>nomatch m⟩,λz=>z.1⟩⟩
 ·rintro x bJ u M ⟨h',C,es',a,t',done,rfl,sb,J,o,B,n,hk⟩;have hx:x∈I.toList:=by rw[<- n];exact TM _ (TV ..)
  obtain⟨⟨k,i,hh⟩,sc⟩:=O x hx;rw[hh];refine kb (wpAny_holding (EF (s:={ s with heap:=h' }) i sc J o λbb R j l V D d L S U Y=>?_));have W:SI prog w D b ob G F tb:=c.at (by rw[d.2 b ne,sb.2 b ne];exact c.ho);refine kb (rS (s:={ s with heap:=D }) W (on ⟨D,R,j,l,V,done++[x],rfl,sb.trans d,L,S,TH U B,by rw[T8];exact n,λk'=>?_⟩));rw[Y k',hk k']
  constructor
  ·rintro⟨⟨y,z⟩,nk⟩;refine⟨y,λ⟨e,m,v⟩=>?_⟩;rcases TL.mp m with q|q
   ·exact z ⟨e,q,v⟩
   ·rw[TU.mp q]at v;exact nk (Value.isInt_inj _ _ _ v i)
  ·rintro⟨y,z⟩
   exact⟨⟨y,λ⟨e,m,v⟩=>z ⟨e,Ub _ m,v⟩⟩,λek=>z ⟨x,TM _ (TU.mpr rfl),by rw[ek];exact i⟩⟩
 ·rintro u M ⟨h',C,es',a,t',done,rfl,sb,J,o,B,n,hk⟩;rw[TD]at n;refine on (EA (s:={ s with heap:=h' }) J (by omega) λR j l V D d L N=>h R j l V D (sb.trans d) L λk=>?_);rw[pQ N k,hk k,n,pQ pm k]
def EG{id:String}{a b:Addr}{oa U:Obj}{q F:Array (Int × Value)}{v C:Nat}{ta tb:SetTable}{Q:Value->fy->Prop}(l:SI prog w s.heap a oa q v ta)(u:SI prog w s.heap b U F C tb)(dk:Dk q.toList)(la:q.size<=250)
 (h:∀S n h',s.heap.objs.size<h'.objs.size->(∀c o,s.heap.get? c=some o->h'.get? c=some o)->h'.SetOf (intKind prog w) s.heap.objs.size S n->(∀k,S k=true ↔ Ky q.toList k/\¬Ky F.toList k)->Q (.ref s.heap.objs.size) { s with heap:=h' }) :
 wpAny (model prog w) A (Builtin.Frozenset.difference id a (.ref b)) Q E s:=by
 have r:a<s.heap.objs.size:=Tr l.ho;have m:b<s.heap.objs.size:=Tr u.ho;unfold Builtin.Frozenset.difference;refine kb (oC u.ty ?_);simp only [UN,Uh,↓reduceIte,Bool.false_and];unfold Builtin.Frozenset.addrOf;refine kb (on ?_);refine kb (oz u ?_);refine kb (oz l ?_);have kp:∀(N:Obj) (h':Heap),Heap.SameBut s.heap.objs.size (s.heap.push N) h'->(s.heap.objs.size<h'.objs.size)/\∀c o,s.heap.get? c=some o->h'.get? c=some o:=λN h' sb=>by
  refine⟨by rw[sb.1];simp[Heap.push],λc o e=>?_⟩;have lt:c<s.heap.objs.size:=Tr e;rw[sb.2 c (Tx lt)];exact Tu _ e
 by_cases c:q.size/4 > F.size
 ·rw[Ww c];refine kb (wpAny_rule ?_);unfold Builtin.Frozenset.copyOf Builtin.Frozenset.addrOf;refine kb (kb (yK l.ty ?_));refine kb (wpAny_newSet_of (knd:=intKind prog w) λled hS=>?_);dsimp only;refine kb (on ?_);have I:SI prog w (s.heap.push { cls:=.type "set",dict:=none,data:=.set #[] 0 (.fresh 0 0 led) }) s.heap.objs.size { cls:=.type "set",dict:=none,data:=.set #[] 0 (.fresh 0 0 led) } #[] 0 (.fresh 0 0 led):=⟨T6 _ rfl,⟨rfl,rfl,rfl⟩,rfl,λe R=>(by simp at R),by decide,rfl⟩;refine kb (ED (s:={ s with heap:=s.heap.push { cls:=.type "set",dict:=none,data:=.set #[] 0 (.fresh 0 0 led) } }) (l.at (Tu _ l.ho)) I ⟨rfl,rfl⟩ (Ut r) la λo1 a4 a6 t1 j D I1 B=>on ?_);dsimp only;refine kb (on ?_);have sz:=o9 B;have i:SI prog w j b U F C tb:=u.at (by rw[D.2 b (Tx m)];exact Tu _ u.ho);refine kb (wpAny_holding (EH (s:={ s with heap:=j }) i I1 (vH B.symm dk) (Tx m) (by omega) (by omega) λo2 ab af t2 L y I2 W=>on ?_));obtain⟨k1,k2⟩:=kp _ L (D.trans y);exact h _ _ L k1 k2 I2.setOf λk=>by rw[Uo];exact (W k).trans (by rw[pQ B k])
 ·rw[Wv c];refine kb (yK l.ty ?_);refine kb (wpAny_newSet_of (knd:=intKind prog w) λled hS=>?_);dsimp only;refine kb (on ?_);have I:SI prog w (s.heap.push { cls:=.type "set",dict:=none,data:=.set #[] 0 (.fresh 0 0 led) }) s.heap.objs.size { cls:=.type "set",dict:=none,data:=.set #[] 0 (.fresh 0 0 led) } #[] 0 (.fresh 0 0 led):=⟨T6 _ rfl,⟨rfl,rfl,rfl⟩,rfl,λe R=>(by simp at R),by decide,rfl⟩;have g:=l.at (h':=s.heap.push { cls:=.type "set",dict:=none,data:=.set #[] 0 (.fresh 0 0 led) }) (Tu _ l.ho);have i:=u.at (h':=s.heap.push { cls:=.type "set",dict:=none,data:=.set #[] 0 (.fresh 0 0 led) }) (Tu _ u.ho);refine kb (wpAny_setEpoch_of g.ho g.hd g.hf ?_);refine kb (wpAny_holding (kb ?_));have p:∀(M:Array (Int × Value)) (j:Heap),Heap.SameBut s.heap.objs.size (s.heap.push { cls:=.type "set",dict:=none,data:=.set #[] 0 (.fresh 0 0 led) }) j->j.SetOf (intKind prog w) s.heap.objs.size (λ_=>false) 0->List.Perm M.toList q.toList ->
   wpAny (model prog w) A (do
    forIn M PUnit.unit λx _=>do
     holding [x.2] (do
      let d <- setFind b x.2 x.1
      let there <- pure d.isSome
      if (!there)=true then do
       let _ <- setAddHashed s.heap.objs.size x.2 x.1
       pure PUnit.unit
      else pure PUnit.unit)
     Builtin.Frozenset.unchanged id a v
     pure (ForInStep.yield PUnit.unit)
    pure PUnit.unit) (λ_ O=>wpAny (model prog w) A (pure (Value.ref s.heap.objs.size)) Q E O) E { s with heap:=j }:=λM j sb hR G=>by
   have Y:SI prog w j a oa q v ta:=g.at (by rw[sb.2 a (Tx r)];exact g.ho);have V:SI prog w j b U F C tb:=i.at (by rw[sb.2 b (Tx m)];exact i.ho);refine kb ?_;rw[<- Array.forIn_toList];refine EI (s:={ s with heap:=j }) (Q:=λ_ O=>wpAny (model prog w) A (pure PUnit.unit) _ E O) Y V.setOf hR (Ut r) (Ut m) (l.hel.perm G) (by rw[G.length_eq,T2];unfold scanBound;omega) λL S n y hS2 W=>on (on ?_);obtain⟨k1,k2⟩:=kp _ L (sb.trans y);refine h S n L k1 k2 hS2 λk=>?_;rw[W k,pQ G k,<- Vr,Uo];exact Iff.rfl
  refine yF (filled:=some s.heap.objs.size) g (λx hx=>?_) (λf z=>by cases z;exact⟨_,_,_,_,I⟩) (λM G=>p M _ (Uy _ _) hS G) (λf o' ef a0 tf a8 z J ht=>?_)
  ·rcases TF.mp hx with rfl|hx
   ·exact⟨_,_,_,_,i⟩
   ·rw[TU.mp hx];exact⟨_,_,_,_,I⟩
  ·cases z;obtain⟨rfl,rfl,rfl⟩:ef = #[]/\a0=0/\o' = { cls:=.type "set",dict:=none,data:=.set #[] 0 (.fresh 0 0 led) }:=by
    have e:=J.ho;rw[I.ho]at e;cases e;have e2:=J.hd;cases e2;exact⟨rfl,rfl,rfl⟩
   refine p q _ (U6 _ _ _) ?_ .rfl;have:=(J.put J.hel J.hb ht).setOf;exact this
def O8:entryFor table "set.__sub__" = some Builtin.«frozenset.__sub__» :=
 entryFor_alias (id' := "frozenset.__sub__") (by kernel_rfl) rfl (by decide +kernel) (by kernel_rfl)
def EB{a b:Addr}{m q:Obj}{d j:Array (Int × Value)}{g i:Nat}{u tb:SetTable}{Q:Value->fy->Prop}(e:SI prog w s.heap a m d g u)(f:SI prog w s.heap b q j i tb)(dk:Dk d.toList)(p:d.size<=250)
 (h:∀S n h',s.heap.objs.size<h'.objs.size->(∀c o,s.heap.get? c=some o->h'.get? c=some o)->h'.SetOf (intKind prog w) s.heap.objs.size S n->(∀k,S k=true ↔ Ky d.toList k/\¬Ky j.toList k)->Q (.ref s.heap.objs.size) { s with heap:=h' }) :
 wpAny (model prog w) A (binaryOp .Sub (.ref a) (.ref b)) Q E s:=by
 refine wpAny_binaryOp_same (T := "set") (id := "set.__sub__") e.ty f.ty F.fills_set_sub F.slot_set_sub ?_;refine wpAny_call_entry F.slot_set_sub e.ty O8 ?_ (F.args_set_sub_2 _ _);unfold Builtin.«frozenset.__sub__»;show wpAny _ _ (do
  let (self,other) <- Builtin.Frozenset.slot1 "__sub__" ⟨[.ref a,.ref b],[]⟩
  let (l,r):=(self,other)
  if !(<- Builtin.Frozenset.isAnySet l <&&> Builtin.Frozenset.isAnySet r) then rule "frozenset.__sub__.declined"; return <- ret .notImplemented
  ret (<- Builtin.Frozenset.difference "frozenset.__sub__" (<- Builtin.Frozenset.addrOf l) r)) _ _ _
 unfold Builtin.Frozenset.slot1 slotArgs;simp only [List.isEmpty_nil,UN,Uh,↓reduceIte,bind_assoc,TX,Vg,U4,bne_self_eq_false];refine kb (on ?_);dsimp only;refine kb (on ?_);dsimp only;unfold andM;refine kb (kb (oC e.ty ?_));refine oC f.ty ?_;simp only [UN,Uh,↓reduceIte];unfold Builtin.Frozenset.addrOf;refine kb (on ?_);refine kb (EG e f dk p λS n h' k1 k2 hS v=>?_);exact on ⟨_,rfl,⟨(λz=>nomatch z),h S n h' k1 k2 hS v⟩⟩
theorem zQ:∀ {ks:e7} {l:List (Int × Value)},ks.Nodup->(∀k∈ks,Ky l k)->l.length=ks.length->Dk l/\∀e∈l,∃k∈ks,Value.isInt k e.2=true
 | [],l,_,_,len=>by
  obtain rfl:=U5 len;exact⟨.nil,λe h=>nomatch h⟩
 | k::r,l,nd,cov,len=>by
  obtain⟨e,h,i⟩:=cov k (TV ..);obtain⟨x,y,rfl⟩:=List.append_of_mem h;have g:List.Perm (x++e::y) (e::(x++y)):=List.perm_middle;obtain⟨m,j⟩:=UV.mp nd;obtain⟨d,n⟩:=zQ (ks:=r) (l:=x++y) j (λo c=>by
   obtain⟨f,a,z⟩:=cov o (TW _ c);rcases TF.mp (g.mem_iff.mp a) with q|q
   ·rw[q]at z;exact Wx (Value.isInt_inj _ _ _ z i ▸ c) m
   ·exact⟨f,q,z⟩) (by have:=g.length_eq;rw[len]at this;simp only [TX]at this;omega)
  refine⟨vH g.symm (List.pairwise_cons.mpr ⟨λf a o z p=>?_,d⟩),λf a=>?_⟩
  ·obtain⟨k2,b,z2⟩:=n f a;have s:=Value.isInt_inj _ _ _ z i;have u:=Value.isInt_inj _ _ _ p z2;exact m (by rw[<- s,u];exact b)
  ·rcases TF.mp (g.mem_iff.mp a) with q|q
   ·exact⟨k,TV ..,by rw[q];exact i⟩
   ·obtain⟨k2,b,z2⟩:=n f q;exact⟨k2,TW _ b,z2⟩
theorem ue(val:Nat->Int):∀i,(firstMet val i).Nodup
 | 0=>.nil
 | i+1=>by
  rw[firstMet_succ];unfold step_dedup
  split
  ·exact ue val i
  ·rename_i h;refine List.nodup_append.mpr ⟨ue val i,List.pairwise_singleton ..,λa c b hb e=>h ?_⟩;rw[TU.mp hb]at e;exact Uo.mpr ⟨a,c,by rw[e];exact beq_self_eq_true _⟩
def Ia(ns:e7):(List.range ns.length).map (λi=>ns.getD i 0)=ns:=by
 refine List.ext_getElem (by simp) λi b a=>?_;simp[U7];rw[T4 a]
 rfl
def yG{l:Addr}{items:Array Value}{ns:e7}{Q:Value->fy->Prop}(n:A.handled=none)(p:s.heap.IsList l items)(g:IntsAre items.toList ns)(hb:ns.length<=250)
 (h:∀h' a o es d t,SI prog w h' s.heap.objs.size o es d t->Dk es.toList->es.size<=ns.length->(∀k,Ky es.toList k ↔ k∈ns)->(∀b u,s.heap.get? b=some u->h'.get? b=some u)->Q (.ref s.heap.objs.size) { s with heap:=h',toks:=a }) :
 wpAny (model prog w) A (call (.type "set") [.ref l]) Q E s:=by
 have m:items.size=ns.length:=by rw[<- T2];exact IntsAre.length g
 refine PySem.call_set_list n p g (by rw[m];unfold scanBound;omega) λh' a hS kp=>?_;obtain⟨o,es,d,t,I,f,j⟩:=SI.of hS;have mem:∀k,(firstMet (λi=>ns.getD i 0) items.size).any (· == k)=true ↔ k∈ns:=λk=>by
  rw[firstMet_any,m,Ia,Uo];exact⟨λ⟨x,hx,e⟩=>(beq_iff_eq.mp e) ▸ hx,λc=>⟨k,c,beq_self_eq_true _⟩⟩
 have len:=firstMet_length_le (λi=>ns.getD i 0) items.size;refine h h' a o es d t I (zQ (ue _ items.size) (λk c=>(f k).mp (Uo.mpr ⟨k,c,beq_self_eq_true _⟩)) (by rw[T2,j])).1 (by rw[j];omega) (λk=>(f k).symm.trans (mem k)) λb u e=>kp b u (Tr e) e
end
section
variable {X:Cx}{pins:List (Addr × Obj)}{σ:St}{H:Hp}{s:fy}
def af.addPin(I:af X pins σ H s){a:Addr}{o:Obj}(ho:s.heap.get? a=some o)(hH:H a=none)(b:a≠X.env.locals)(hf:a∉X.fs)(c:∀v,o.data ≠ .cell v):af X ((a,o)::pins) σ H s:=by
 refine⟨I.ok,I.os,I.bare,I.base,I.loc,I.cell,I.free,I.freeC,λp d=>?_,I.hok,I.len⟩;rcases TL.mp d with z|z
 ·exact I.pin p (Ub _ z)
 ·rcases TF.mp z with rfl|z
  ·exact⟨ho,hH,b,hf,c⟩
  ·exact I.pin p (TM _ z)
def af.dropPin{q:Addr × Obj}(I:af X (q::pins) σ H s):af X pins σ H s:=by
 refine⟨I.ok,I.os,I.bare,I.base,I.loc,I.cell,I.free,I.freeC,λp a=>I.pin p ?_,I.hok,I.len⟩;rcases TL.mp a with z|z
 ·exact Ub _ z
 ·exact TM _ (TW _ z)
theorem tF:∀ {ns:e7} {us:List Value},aJ (ns.map V.int) us->IntsAre us ns
 | [],us,h=>by cases h;exact .nil
 | n::ns,us,h=>by
  cases h with
  | cons a b =>
   obtain⟨t,rfl⟩:=a;exact .cons n t (tF b)
def za(K:W.Frag)(c tb:TE):TE:=λσ H Q=>c σ H λx b=>∃(p:Addr) (ns:e7),x=.ref p/\aE K b p (ns.map V.int)/\ns.length<=250/\tb σ b λy a=>∃(q:Addr) (ms:e7),y=.ref q/\aE K a q (ms.map V.int)/\ms.length<=250/\∀n:Nat,(0<n ↔ ∃k∈ns,k∉ms)->Q (.int (n:Int)) a
def JL {d xs:Str} {pl p1 p2 pos r m l:Pos} {W J:Expr} {ta tb:TE} (hc:X.calm=true) (hmL:X.mg d=none) (hvL:bootBuiltins d=some (.builtin "len")) (hmS:X.mg xs=none) (hvS:bootBuiltins xs=some (.type "set")) (ha:PE X W ta) (hb:PE X J tb)
 (hgL:Gl X d:=by rfl) (hgS:Gl X xs:=by rfl) (hxL:d ≠ "__name__":=by decide) (hxS:xs ≠ "__name__":=by decide) (hdL:(d == ("__debug__" : Str))=false:=by decide) (hdS:(xs == ("__debug__" : Str))=false:=by decide) (sa:dh W=false:=by rfl) (sb:dh J=false:=by rfl) :
 PE X (.Call (.Name d pl) [.BinOp (.Call (.Name xs p1) [W] [] r) .Sub (.Call (.Name xs p2) [J] [] m) l] [] pos) (za X.K ta tb):=by
 intro i s σ H Q I h;refine wpAny_Call_Name_kw (gL I hgL hmL hvL ?_ hxL hdL);refine V2 ?_ (cq Z) Z;rw[cq rfl];refine Calls.spliced_cons ?_;refine wpAny_BinOp ?_;refine wpAny_Call_Name_kw (gL I hgS hmS hvS ?_ hxS hdS);refine Uu ?_ (cq sa) Z;rw[cq sa];refine Calls.spliced_cons (az (ha i s σ H _ I h) λv s1 ⟨x,H1,f,r1,q1⟩=>?_);obtain⟨p,ns,rfl,hp,lp,q1⟩:=q1;cases r1;refine Calls.spliced_nil ?_;obtain⟨ae,rv,O,_⟩:=f.list hp;refine yG (f.ok.hd hc) O.isList (by simpa using tF rv) lp λh1 U oA eA epA tA R dkA lA kA a3=>?_;have F:H1 s1.heap.objs.size=none:=f.hok.fresh (Tp _);have I2:=(f.kept (h':=h1) (t':=U) a3).addPin R.ho F (Ut f.lt) (f.nofs (Tp _)) (λv z=>by rw[R.hd]at z;cases z);refine wpAny_Call_Name_kw (gL I2 hgS hmS hvS ?_ hxS hdS);refine Uu ?_ (cq sb) Z;rw[cq sb];refine Calls.spliced_cons (az (hb _ _ σ H1 _ I2 q1) λv s3 ⟨y,H2,D,r3,Y⟩=>?_);obtain⟨q,ms,rfl,hq,lq,Y⟩:=Y;cases r3;refine Calls.spliced_nil ?_;obtain⟨a5,L,N,_⟩:=D.list hq;refine yG (D.ok.hd hc) N.isList (by simpa using tF L) lq λh4 c oB eB epB tB IB dkB lB kB o=>?_;have V:SI X.prog X.w h4 s1.heap.objs.size oA eA epA tA:=R.at (o _ _ (D.pin _ (TM _ (TV ..))).1);refine EB (s:={ s3 with heap:=h4,toks:=c }) V IB dkA (by omega) λS n h5 aq G hS hk=>?_;refine Calls.spliced_nil ?_;obtain⟨o6,a,ai,t6,g,B,au⟩:=SI.of hS;refine call_len_set (s:={ s3 with heap:=h5,toks:=c }) g.ho g.hex g.hd g.hf (by have:=g.hb;unfold scanBound at this;omega) ?_;refine⟨.int (a.size:Int),H2,(D.dropPin.kept (h':=h5) (t':=c+1+1) λb u e=>G b u (o b u e)),⟨_,Z⟩,Y a.size ?_⟩
 constructor
 ·intro j;have C:a.toList[0]'(by rw[T2];exact j)∈a.toList:=VL _;obtain⟨⟨k,M,_⟩,_⟩:=g.hel _ C;obtain⟨a1,a2⟩:=(hk k).mp ((B k).mpr ⟨_,C,M⟩);exact⟨k,(kA k).mp a1,λz=>a2 ((kB k).mpr z)⟩
 ·rintro⟨k,k1,k2⟩;obtain⟨e,C,_⟩:=(B k).mp ((hk k).mpr ⟨(kA k).mpr k1,λz=>k2 ((kB k).mp z)⟩);rw[<- T2];exact List.length_pos_of_mem C
def Iv {K:W.Frag} {a xs:Str} {pl l i pos d c b:Pos} {e f:Expr} {g tb:TE} (hK:X.K=K) (j:X.calm=true) (hmL:X.mg a=none) (hvL:bootBuiltins a=some (.builtin "len")) (hmS:X.mg xs=none) (hvS:bootBuiltins xs=some (.type "set")) (k:QE X e g) (hb:QE X f tb)
 (hgL:Gl X a:=by rfl) (hgS:Gl X xs:=by rfl) (hxL:a ≠ "__name__":=by decide) (hxS:xs ≠ "__name__":=by decide) (hdL:(a == ("__debug__" : Str))=false:=by decide) (hdS:(xs == ("__debug__" : Str))=false:=by decide) (sa:dh e=false:=by rfl) (sb:dh f=false:=by rfl) :
 QE X (.Call (.Name a pl) [.BinOp (.Call (.Name xs l) [e] [] d) .Sub (.Call (.Name xs i) [f] [] c) b] [] pos) (za K g tb):=by
 subst hK;exact⟨JL j hmL hvL hmS hvS k.h hb.h hgL hgS hxL hxS hdL hdS sa sb⟩
end
def Ax{X:Cx}{i j:Nat}{x y:Str}{a b:Expr}{f:TA}{e c pt pos:Pos}{kt k2 pt2}(l:X.calm=true)(hN:X.N.Nodup)(n:X.N[i]? = some x)(k:X.N[j]? = some y)(d:i≠j)
 (hx:X.env.scope.names.lookup x=some .local) (g:X.env.scope.names.lookup y=some .local) (m:QA X [a,b] f)
 (hw:swappedStores [.Tuple [.Name x e,.Name y c] kt pt] (.Tuple [a,b] k2 pt2) X.env=pure (some [x,y]))
 (hs:swapsWithSole [.Tuple [.Name x e,.Name y c] kt pt] (.Tuple [a,b] k2 pt2) pos.line X.env=pure false:=by rfl) :
 QS X (.Assign [.Tuple [.Name x e,.Name y c] kt pt] (.Tuple [a,b] k2 pt2) pos) (zd i j f):=⟨Je l hN n k d hx g m.h hw hs⟩
open PySem.AutoSeq1 (wpAny_loadPart')
open PySem.MeetsSeq
def Mv(n:Int)(ns:e7):bB (.int n) (ns.map V.int)=decide (n∈ns):=by
 induction ns with
 | nil=>rfl
 | cons m ns ih =>
  unfold bB at *;rw[Uc,UI,ih];simp only [di,TF];by_cases e:m=n
  ·simp[e]
  ·have:¬n=m:=λz=>e z.symm;simp[e,this]
section
variable {X:Cx}{o e:Expr}{apos cpos:Pos}{td ty:TE}
def AE (d:X.A.units+64<cLine) (ho:QE X o td) (a:QE X e ty) (hb:attributeBase o "get" X.env (eval o X.env)=eval o X.env:=by rfl)
 (hf:((backTo cpos (starEach [e] X.env)).all (λx=>!x.1) && (backToKw cpos (keywordEach [] X.env)).all (λx=>x.1.isSome)
   && decide (([e]:List Expr).length+([]:List Keyword).length+(if ([]:List Keyword).isEmpty then 0 else 1)<30))=true:=by rfl)
 (b:(apos.endLine == cpos.line)=true:=by rfl) (c:backTo cpos (starEach [e] X.env)=[(false,eval e X.env)]:=by rfl) :
 QE X (.Call (.Attribute o "get" apos) [e] [] cpos) (zt td ty):=⟨JV (by omega) ho.h a.h ⟨hb,hf,b,c⟩⟩
end
section
variable {X:Cx}{K:W.Frag}
def R1(H:Hp)(y:V):Prop:=fL y=true\/∃a zs,y=.ref a/\H a=some (.lst zs)
end
def strOf? : Value->Option Str
 | .str x _=>some x
 | _=>none
def refOf? : Value->Option Addr
 | .ref a=>some a
 | _=>none
def strOf?.eq{v:Value}{x:Str}(h:strOf? v=some x):∃t,v=.str x t:=by
 cases v<;>first|(cases h;exact⟨_,Z⟩)|cases h
def refOf?.eq{v:Value}{a:Addr}(h:refOf? v=some a):v=.ref a:=by
 cases v<;>first|(cases h;rfl)|cases h
def iR:List DictEntry->Option (List (Int × Str × Addr))
 | []=>some []
 | e::r=>(strOf? e.key).bind λx=>(refOf? e.val).bind λa=>(iR r).map λl=>(e.hash,x,a)::l
theorem iR.pairs{P:Program}{w:World}:∀ {es:List DictEntry} {m:List (Int × Str × Addr)},iR es=some m->(∀p∈m,p.1=hashStr w p.2.1) ->
 (∀e∈es,∃k,(cA P w).is k e.key=true/\e.hash=(cA P w).hash k)/\Pairs (cA P w) es (m.map λp=>((Sum.inr p.2.1:aQ),Value.ref p.2.2))
 | [],m,h,_=>by cases h;exact⟨λ_ z=>(nomatch z),.nil⟩
 | e::r,m,h,hs=>by
  unfold iR at h;obtain⟨x,hx,h⟩:=U0.mp h;obtain⟨a,g,h⟩:=U0.mp h;obtain⟨l,q,h⟩:=UO.mp h;subst h;obtain⟨f,i⟩:=strOf?.eq hx;obtain⟨o,j⟩:=iR.pairs (P:=P) (w:=w) q λp d=>hs p (TW _ d);have c:(cA P w).is (.inr x) e.key=true:=by rw[i];exact Bi P w x f
  refine⟨λn b=>?_,.cons c (refOf?.eq g) j⟩;rcases TF.mp b with rfl|b
  ·exact⟨.inr x,c,hs _ TV⟩
  ·exact o n b
structure ow (K:W.Frag) (w:World) (a:Addr) (m:List (Int × Str × Addr)):Prop where
 ex:∃es ep,K.lookup a=some ⟨.type "dict",none,.dict es ep,#[]⟩/\iR es.toList=some m
 hs:∀p∈m,p.1=hashStr w p.2.1
 nd:(m.map (·.2.1)).Nodup
 ns:(a == sysModules)=false
def ow.rd{K:W.Frag}{a:Addr}{m:List (Int × Str × Addr)}{P:Program}{w:World}{h:Heap}(D:ow K w a m)(X:K.In h):h.DictOf (cA P w) a (m.map λp=>((Sum.inr p.2.1:aQ),Value.ref p.2.2)):=by
 obtain⟨es,f,l,e⟩:=D.ex;obtain⟨c,d⟩:=iR.pairs (P:=P) (w:=w) e D.hs;refine⟨_,es,f,X _ _ l,⟨rfl,rfl,rfl⟩,rfl,λe g=>c e (Wa.mpr g),d,?_⟩;rw[U1];have:(((λx=>x.1) ∘ λp:Int × Str × Addr=>((Sum.inr p.2.1:aQ),Value.ref p.2.2)):Int × Str × Addr->aQ)=(λi:Str=>(Sum.inr i:aQ)) ∘ (·.2.1):=rfl;rw[this,<- U1];exact List.Pairwise.map _ (λa b (z:a≠b) (q:(Sum.inr a:aQ)=Sum.inr b)=>z (Sum.inr.inj q)) D.nd
def hG(m:List (Int × Str × Addr))(z:Str):Option Addr:=(m.find? λp=>decide (p.2.1=z)).map (·.2.2)
theorem tQ:∀(m:List (Int × Str × Addr)) (z:Str),valueAt (m.map λp=>((Sum.inr p.2.1:aQ),Value.ref p.2.2)) (Sum.inr z)=(hG m z).map Value.ref
 | [],z=>rfl
 | p::m,z=>by
  have ih:=tQ m z;unfold hG valueAt at ih ⊢;rw[Uc,Ug,Ug];by_cases c:p.2.1=z
  ·have c':(Sum.inr p.2.1:aQ)=Sum.inr z:=congrArg _ c;simp only [WA c,WA c',UJ]
  ·have c':¬(Sum.inr p.2.1:aQ)=Sum.inr z:=λq=>c (Sum.inr.inj q);simp only [WB c,WB c'];exact ih
def OO(a:Addr)(m:List (Int × Str × Addr))(neg:Bool):R2:=λx y H Q=>∃z,x=.str z/\y=.ref a/\Q (.bl (if neg then !(hG m z).isSome else (hG m z).isSome)) H
section
variable {X:Cx}{K:W.Frag}{w:World}{a:Addr}{m:List (Int × Str × Addr)}
def Ol(h:X.K=K)(hw:X.w=w)(D:ow K w a m):be X (compareOp .NotIn) (OO a m true):=by
 subst h hw;intro b s σ H x y v u Q I d c q;obtain⟨z,rfl,rfl,q⟩:=q;obtain rfl:u=Value.ref a:=c;refine wpAny_notIn_of (iM (k:=.inr z) d) D.ns (D.rd (P:=X.prog) (w:=X.w) I.kIn).mapOf ?_;rw[tQ,Vh];exact⟨.bl _,H,I.tok _,Z,q⟩
def IK{i:Expr}{e:TE}{x:Str}{p pos:Pos}(h:X.K=K)(hw:X.w=w)(D:ow K w a m)(o:Gl X x)(l:X.mg x=some (.ref a))(J:QE X i e)(hs:Dw i:=by intro _ _;rfl)(hd:(x == ("__debug__" : Str))=false:=by decide) :
 QE X (.Subscript (.Name x p) i pos) (λσ H Q=>e σ H λy d=>∃z b,y=.str z/\hG m z=some b/\Q (.ref b) d):=⟨by
 subst h hw;intro c s σ H Q I h;have ho:PE X (.Name x p) (tC (.ref a)):=(jl (v:=.ref a) o l rfl hd).h;refine FM PySem.F.slot_dict_getitem.lookup hs (az (ho c s σ H (λv r=>v=.ref a/\e σ r λy d=>∃z b,y=.str z/\hG m z=some b/\Q (.ref b) d) I ⟨rfl,h⟩) λu s1 ⟨x,d,q,M,ex,B⟩=>az (J.h c s1 σ d _ q B) λO N ⟨y,G,j,n,z,b,L,g,C⟩=>?_);subst ex L;obtain rfl:u=Value.ref a:=M;have f:=D.rd (P:=X.prog) (w:=X.w) j.kIn;exact⟨f.typeIs,wpAny_getItem_of (iM (k:=.inr z) n) f.mapOf (by rw[tQ,g];rfl) ⟨.ref b,G,j.tok _,rfl,C⟩⟩⟩
end
structure Tc (P:Program) (w:World) (K:W.Frag) (mg:Str->Option Value) (base:Heap) (x:Str) (k:Nat) (f:Addr) (fd:FuncData) (ps:List Str) (dvs:List V) (sp:Sp):Prop where
 g:mg x=some (.ref f)
 kp:W.keepIn K (.ref f)=true
 b:∃ds,ax K fd ps ds/\aJ dvs ds
 ok:bL P w K mg base bY k f fd ps sp
def gW:List Value->Option (List Addr)
 | []=>some []
 | .ref m::u=>(match gW u with|some l=>some (m::l)|none=>none)
 | _=>none
theorem gW.vals:∀ {us:List Value} {ns:List Addr},gW us=some ns->aJ (ns.map V.ref) us
 | [],ns,h=>by cases h;exact .nil
 | .ref m::u,ns,h=>by
  unfold gW at h;cases q:gW u with
  | none=>rw[q]at h;cases h
  | some l=>rw[q]at h;cases h;exact .cons Z (gW.vals q)
def yY {K:W.Frag} {a:Addr} {c:Option Addr} {b:Array Value} {n:Nat} {d:Array (Option Value)} {ns:List Addr} (h:K.lookup a=some ⟨.type "tuple",c,.seq b n,d⟩) (e:gW b.toList=some ns) (hz:b.size<=1000:=by decide) (H:Hp):bv K H a (ns.map V.ref) :=
 .inr ⟨_,b,n,h,rfl,rfl,sz (V9 hz),gW.vals e⟩
end L2
namespace L2
open PySem
def PB{lo c:Int}{n:Nat}{cs:St}{o:TT}{q:TE}{H:Hp}{Q:VK}(h:Nat->List V->Hp->Prop)(v:h 0 [] H)(C:∀i d H,i<=n->h i d H->d.length<=i)(hz:n<=sizeLine)
 (hs:∀i d H (N:List V->Hp->Prop),i<n->h i d H->(∀a f,h (i+1) a f->N a f)->o (some (.int (lo+i*c))::cs) H λb l=>if b=true then q (some (.int (lo+i*c))::cs) l λy u=>N (d++[y]) u else N d l)
 (hd:∀d H p f,h n d H->bA H p (.lst d) f->Q (.ref p) f) :
 i5 (jC lo c n) H (List.replicate 1 none++cs) (bP 0) o q Q:=by
 refine⟨λi m d σ H=>m=n-i/\i<=n/\h i d H/\∃j,σ=j::cs,⟨n,by simp,TJ _,v,none,rfl⟩,?_⟩;rintro i m d σ r ⟨rfl,B,p,j,rfl⟩;have D:=C i d r B p;by_cases hlt:i<n
 ·refine .inr ⟨hlt,by omega,λa s f=>h (i+1) a f/\∃j,s=j::cs,λa s f ⟨k,e⟩=>⟨n-(i+1),by omega,rfl,hlt,k,e⟩,λx f y=>?_⟩;obtain⟨e,y⟩:=y;subst e y;exact hs i d f (λa f=>h (i+1) a f/\∃j,some (V.int (lo+i*c))::cs=j::cs) hlt p λ_ _ z=>⟨z,_,Z⟩
 ·have e:i=n:=by omega
  subst e;exact .inl ⟨Tp _,by omega,λk f g=>hd d r k f p g⟩
def Pz{lo c:Int}{n:Nat}{cs:St}{j:TE}{H:Hp}{Q:VK}(d:List V)(m:d.length=n)(hz:n<=sizeLine)
 (hs:∀(i:Nat) y a (N:VK),i<n->d[i]? = some y->am H a->(∀b,am a b->N y b)->j (some (.int (lo+i*c))::cs) a N) (hd:∀p a,bA H p (.lst d) a->Q (.ref p) a) :
 i5 (jC lo c n) H (List.replicate 1 none++cs) (bP 0) gA j Q:=by
 refine PB (λi e a=>am H a/\e=d.take i) ⟨am.refl _,rfl⟩ (λi e a k z=>by rw[z.2,TyZ];omega) hz (λi e a N k z hN=>?_) λe a p b z g=>?_
 ·obtain⟨s,rfl⟩:=z;have f:i<d.length:=by omega
  have h:d[i]? = some d[i]:=T4 f;simp only [gA,if_true];exact hs i _ a _ k h s λb l=>hN _ _ ⟨s.trans l,by rw[fA h]⟩
 ·obtain⟨s,rfl⟩:=z;rw[<- m,TK]at g;exact hd p b (g.after s)
def OQ(K:W.Frag)(neg:Bool):R2:=λx y H Q=>∃xs d,c6 K H (.list xs) y/\c6 K H d x/\PyData.canLayAll0 xs=true/\d.canLay0=true/\min (PyData.depthAll xs) d.depth<=60/\Q (.bl (if neg then !xs.any (λy=>PyData.eqv y d) else xs.any (λy=>PyData.eqv y d))) H
section
variable {X:Cx}{K:W.Frag}
def OB(h:X.K=K)(m:X.A.units+64<cLine):be X (compareOp .In) (OQ K false):=by
 subst h;intro a s σ H x y v u Q I k c q;obtain⟨xs,d,g,f,i,e,l,q⟩:=q;obtain⟨as,b⟩:=g X a σ s _ rfl I c;obtain⟨bs,j⟩:=f X a σ s _ rfl I k;exact SeqAt.in_list_reads b j i e (by omega) ⟨.bl _,H,I,rfl,q⟩
end
end L2
namespace My
open PySem L2
def Te{X:Cx}(K:W.Frag)(h:X.K=K:=by rfl):=bp (X:=X) (K:=K) h
def Tf{X:Cx}(K:W.Frag)(h:X.K=K:=by rfl):=iz (X:=X) (K:=K) h
def Th{X:Cx}(K:W.Frag)(h:X.K=K:=by rfl):=bH (X:=X) (K:=K) h
def Ti{X:Cx}(K:W.Frag)(h:X.K=K:=by rfl):=aD (X:=X) (K:=K) h
def Tj{X:Cx}(K:W.Frag)(h:X.K=K:=by rfl):=fh (X:=X) (K:=K) h
def Tk{X:Cx}(K:W.Frag)(h:X.K=K:=by rfl):=d9 (X:=X) (K:=K) h
def top(i:Nat):Stmt:=PySem.Challenge.pw_bytetongue_k64_whole_read_or_shown.main.body.getD i (.Pass ⟨0,0,0,0⟩)
abbrev lM:Stmt:=bW (top 7) 0
abbrev ls:Stmt:=bW (top 9) 0
abbrev lD:Stmt:=bW (top 9) 4
abbrev lE:Stmt:=bW (top 9) 6
abbrev lC:Stmt:=bW (top 9) 7
abbrev lF:Stmt:=bW (top 9) 8
abbrev lg:Stmt:=bW (top 9) 9
abbrev lm:Stmt:=bW (top 9) 10
abbrev li:Stmt:=bW (top 9) 11
abbrev lj:Stmt:=bW (top 9) 12
abbrev lh:Stmt:=bW (top 9) 13
abbrev kj:Stmt:=top 11
abbrev ki:Stmt:=top 12
abbrev kJ:Stmt:=top 14
abbrev kg:Stmt:=top 15
abbrev kz:Stmt:=top 25
abbrev kF:Stmt:=top 26
abbrev kD:Stmt:=top 27
abbrev ku:Stmt:=top 28
abbrev ky:Stmt:=top 29
abbrev kx:Stmt:=top 30
abbrev jg:Stmt:=top 31
abbrev kN:Stmt:=bW (top 33) 1
abbrev kM:Stmt:=bW (top 33) 4
abbrev kP:Stmt:=bW (top 33) 5
abbrev kO:Stmt:=bW (top 33) 6
abbrev ko:Stmt:=top 40
abbrev kK:Stmt:=top 41
abbrev kG:Stmt:=top 42
abbrev km:Stmt:=top 43
abbrev jh:Stmt:=top 44
abbrev lL:Stmt:=bW (top 45) 2
abbrev jj:Stmt:=bW (top 45) 3
abbrev kh:Stmt:=top 50
abbrev lJ:Stmt:=bW (top 51) 0
abbrev lH:Stmt:=bW (top 51) 1
abbrev lI:Stmt:=bW (top 51) 3
abbrev ji:Stmt:=bW (top 51) 5
abbrev lG:Stmt:=bW (top 51) 7
abbrev lK:Stmt:=bW (top 51) 8
abbrev kL:Stmt:=top 53
abbrev kl:Stmt:=top 57
abbrev kY:Stmt:=bW (top 58) 0
abbrev kX:Stmt:=bW (top 58) 1
abbrev kW:Stmt:=bW (top 58) 7
abbrev kU:Stmt:=bW (top 58) 8
abbrev kZ:Stmt:=bW (top 58) 9
abbrev kE:Stmt:=top 62
abbrev kH:Stmt:=top 63
abbrev kI:Stmt:=top 64
abbrev kR:Stmt:=bW (top 65) 0
abbrev kT:Stmt:=bW (top 65) 1
abbrev kQ:Stmt:=bW (top 65) 5
abbrev kS:Stmt:=bW (top 65) 6
abbrev ka:Stmt:=top 67
abbrev j7:Stmt:=top 68
abbrev j4:Stmt:=top 69
abbrev j8:Stmt:=top 70
abbrev kc:Stmt:=top 71
abbrev iI:Stmt:=top 72
abbrev jc:Stmt:=top 73
abbrev j3:Stmt:=top 74
abbrev jb:Stmt:=top 75
abbrev jT:Stmt:=top 76
abbrev j5:Stmt:=top 77
abbrev jY:Stmt:=top 78
abbrev jV:Stmt:=top 79
abbrev ia:Stmt:=top 80
abbrev j6:Stmt:=top 81
abbrev jZ:Stmt:=top 82
abbrev jf:Stmt:=top 83
abbrev jX:Stmt:=top 84
abbrev jU:Stmt:=top 85
abbrev j1:Stmt:=top 86
abbrev jd:Stmt:=top 87
abbrev je:Stmt:=top 88
abbrev j2:Stmt:=top 89
abbrev jW:Stmt:=top 90
abbrev j9:Stmt:=top 91
abbrev kr:Stmt:=top 92
def HP:aL ["self", "place", "length", "kind"] ["self", "place", "length", "kind"] (ao lM):=by constructor<;>first|rfl|decide +kernel
def HG:aL ["self", "tongue", "place"] ["self", "tongue", "place"] (ao ls):=by constructor<;>first|rfl|decide +kernel
def HH:aL ["self"] ["self"] (ao lD):=by constructor<;>first|rfl|decide +kernel
def HI:aL ["self"] ["self"] (ao lE):=by constructor<;>first|rfl|decide +kernel
def sE:aL ["self", "row", "signs", "byte"] ["self", "row"] (ao lC):=by constructor<;>first|rfl|decide +kernel
def Ae:aL ["self", "signs"] ["self"] (ao lF):=by constructor<;>first|rfl|decide +kernel
def HD:aL ["self", "byte"] ["self", "byte"] (ao lg):=by constructor<;>first|rfl|decide +kernel
def Ad:aL ["self", "found"] ["self"] (ao lm):=by constructor<;>first|rfl|decide +kernel
def Ac:aL ["self", "ahead_of_last"] ["self"] (ao li):=by constructor<;>first|rfl|decide +kernel
def HF:aL ["self", "length", "kind"] ["self", "length", "kind"] (ao lj):=by constructor<;>first|rfl|decide +kernel
def HE:aL ["self", "length", "kind"] ["self", "length", "kind"] (ao lh):=by constructor<;>first|rfl|decide +kernel
def oS:aL ["tongue", "row", "reader", "text", "fault"] ["tongue", "row"] (ao kj):=by constructor<;>first|rfl|decide +kernel
def zV:aL ["tongue", "row", "reader"] ["tongue", "row"] (ao ki):=by constructor<;>first|rfl|decide +kernel
def Ho:aL ["number", "bits"] ["number", "bits"] (ao kJ):=by constructor<;>first|rfl|decide +kernel
def oR:aL ["parts", "bits", "number", "part"] ["parts", "bits"] (ao kg):=by constructor<;>first|rfl|decide +kernel
def Hj:aL ["thing"] ["thing"] (ao kz):=by constructor<;>first|rfl|decide +kernel
def Hm:aL ["thing"] ["thing"] (ao kF):=by constructor<;>first|rfl|decide +kernel
def Hk:aL ["number"] ["number"] (ao kD):=by constructor<;>first|rfl|decide +kernel
def Hf:aL ["number"] ["number"] (ao ku):=by constructor<;>first|rfl|decide +kernel
def Hh:aL ["thing"] ["thing"] (ao ky):=by constructor<;>first|rfl|decide +kernel
def Hg:aL ["thing"] ["thing"] (ao kx):=by constructor<;>first|rfl|decide +kernel
def Hi:aL ["thing"] ["thing"] (ao jg):=by constructor<;>first|rfl|decide +kernel
def Hv:aL ["self"] ["self"] (ao kN):=by constructor<;>first|rfl|decide +kernel
def Hu:aL ["self", "row", "page"] ["self", "row", "page"] (ao kM):=by constructor<;>first|rfl|decide +kernel
def Hw:aL ["self", "row", "page"] ["self", "row", "page"] (ao kP):=by constructor<;>first|rfl|decide +kernel
def zX:aL ["self", "begun", "page", "found"] ["self", "begun", "page"] (ao kO):=by constructor<;>first|rfl|decide +kernel
def He:aL ["first"] ["first"] (ao ko):=by constructor<;>first|rfl|decide +kernel
def Hs:aL ["row", "place"] ["row", "place"] (ao kK):=by constructor<;>first|rfl|decide +kernel
def sB:aL ["row", "place", "bounds"] ["row"] (ao kG):=by constructor<;>first|rfl|decide +kernel
def zW:aL ["row", "lack"] ["row"] (ao km):=by constructor<;>first|rfl|decide +kernel
def Hq:aL ["row"] ["row"] (ao jh):=by constructor<;>first|rfl|decide +kernel
def HN:aL ["self", "row", "page"] ["self", "row", "page"] (ao lL):=by constructor<;>first|rfl|decide +kernel
def Ah:aL ["self", "row", "page", "lack"] ["self", "row", "page"] (ao jj):=by constructor<;>first|rfl|decide +kernel
def Hd:aL ["units"] ["units"] (ao kh):=by constructor<;>first|rfl|decide +kernel
def HM:aL ["self", "order"] ["self", "order"] (ao lJ):=by constructor<;>first|rfl|decide +kernel
def HK:aL ["self"] ["self"] (ao lH):=by constructor<;>first|rfl|decide +kernel
def HL:aL ["self", "pair"] ["self", "pair"] (ao lI):=by constructor<;>first|rfl|decide +kernel
def HJ:aL ["self", "row"] ["self", "row"] (ao ji):=by constructor<;>first|rfl|decide +kernel
def Af:aL ["self", "row", "page", "sign"] ["self", "row", "page"] (ao lG):=by constructor<;>first|rfl|decide +kernel
def Ag:aL ["self", "row", "page", "rest"] ["self", "row", "page"] (ao lK):=by constructor<;>first|rfl|decide +kernel
def Ht:aL ["one", "other"] ["one", "other"] (ao kL):=by constructor<;>first|rfl|decide +kernel
def oU:aL ["signs", "which", "places", "place", "sign"] ["signs", "which"] (ao kl):=by constructor<;>first|rfl|decide +kernel
def Hy:aL ["self", "first", "second"] ["self", "first", "second"] (ao kY):=by constructor<;>first|rfl|decide +kernel
def sD:aL ["self", "page", "place", "sign"] ["self", "page"] (ao kX):=by constructor<;>first|rfl|decide +kernel
def Hx:aL ["self", "byte", "page"] ["self", "byte", "page"] (ao kW):=by constructor<;>first|rfl|decide +kernel
def sC:aL ["self", "row", "page", "sign"] ["self", "row", "page"] (ao kU):=by constructor<;>first|rfl|decide +kernel
def Hz:aL ["self", "row", "page"] ["self", "row", "page"] (ao kZ):=by constructor<;>first|rfl|decide +kernel
def Hl:aL ["thing"] ["thing"] (ao kE):=by constructor<;>first|rfl|decide +kernel
def Hn:aL ["one", "other"] ["one", "other"] (ao kH):=by constructor<;>first|rfl|decide +kernel
def mI:aL ["rows", "other", "entry", "one", "earlier"] ["rows"] (ao kI):=by constructor<;>first|rfl|decide +kernel
def zZ:aL ["self", "rows", "entry"] ["self", "rows"] (ao kR):=by constructor<;>first|rfl|decide +kernel
def Ab:aL ["self", "sign", "row", "size"] ["self", "sign", "row"] (ao kT):=by constructor<;>first|rfl|decide +kernel
def zY:aL ["self", "row", "page", "sign"] ["self", "row", "page"] (ao kQ):=by constructor<;>first|rfl|decide +kernel
def Aa:aL ["self", "row", "page", "rest"] ["self", "row", "page"] (ao kS):=by constructor<;>first|rfl|decide +kernel
def Ha:aL ["_law_script", "_law_at"] ["_law_script", "_law_at"] (ao ka):=by constructor<;>first|rfl|decide +kernel
def G9:aL ["_law_found"] ["_law_found"] (ao j7):=by constructor<;>first|rfl|decide +kernel
def zS:aL ["_law_number", "_law_k"] ["_law_number", "_law_k"] (ao j4):=by constructor<;>first|rfl|decide +kernel
def oQ:aL ["_law_number", "_law_sign"] ["_law_number"] (ao j8):=by constructor<;>first|rfl|decide +kernel
def zU:aL ["_law_number", "_law_edges"] ["_law_number"] (ao kc):=by constructor<;>first|rfl|decide +kernel
def jR:aL ["_law_number", "_law_sizes", "_law_base", "_law_first", "_law_second"] ["_law_number"] (ao iI):=by constructor<;>first|rfl|decide +kernel
def iF:aL ["_law_number", "_law_signs", "_law_rows", "_law_k", "_law_far", "_law_row_here"] ["_law_number"] (ao jc):=by constructor<;>first|rfl|decide +kernel
def jQ:aL ["_law_cell", "_law_number", "_law_first", "_law_second", "_law_signs", "_law_rows"] ["_law_cell"] (ao j3):=by constructor<;>first|rfl|decide +kernel
def oM:aL ["_law_model_here", "_law_word", "_law_first", "_law_second"] ["_law_model_here"] (ao jb):=by constructor<;>first|rfl|decide +kernel
def G6:aL ["_law_model_here"] ["_law_model_here"] (ao jT):=by constructor<;>first|rfl|decide +kernel
def G8:aL ["_law_sign"] ["_law_sign"] (ao j5):=by constructor<;>first|rfl|decide +kernel
def i9:aL ["_law_sign", "_law_word", "_law_units", "_law_row_here", "_law_number"] ["_law_sign", "_law_word"] (ao jY):=by constructor<;>first|rfl|decide +kernel
def oN:aL ["_law_model_here", "_law_sign", "_law_page_here", "_law_word", "_law_first", "_law_second"] ["_law_model_here", "_law_sign", "_law_page_here"] (ao jV):=by constructor<;>first|rfl|decide +kernel
def jP:aL ["_law_model_here", "_law_cells", "_law_word", "_law_first", "_law_second", "_law_some"] ["_law_model_here", "_law_cells"] (ao ia):=by constructor<;>first|rfl|decide +kernel
def gU:aL ["_law_kept", "_law_first", "_law_low", "_law_high", "_law_byte", "_law_size"] ["_law_kept"] (ao j6):=by constructor<;>first|rfl|decide +kernel
def mF:aL ["_law_kept", "_law_word", "_law_units", "_law_k", "_law_one", "_law_other"] ["_law_kept", "_law_word"] (ao jZ):=by constructor<;>first|rfl|decide +kernel
def jS:aL ["_law_model_here", "_law_kept", "_law_page_here", "_law_word", "_law_first", "_law_second", "_law_here", "_law_there"] ["_law_model_here", "_law_kept", "_law_page_here"] (ao jf):=by constructor<;>first|rfl|decide +kernel
def fB:aL ["_law_model_here", "_law_cells", "_law_edges", "_law_text_here", "_law_row_here", "_law_page_here", "_law_k", "_law_cell", "_law_way", "_law_part", "_law_after"] ["_law_model_here", "_law_cells"] (ao jX):=by constructor<;>first|rfl|decide +kernel
def mE:aL ["_law_tongue_here", "_law_row_here", "_law_told_here", "e"] ["_law_tongue_here", "_law_row_here"] (ao jU):=by constructor<;>first|rfl|decide +kernel
def ja:aL ["_law_model_here", "_law_text_here", "_law_row_here", "_law_page_here", "_law_sign", "_law_told_here"] ["_law_model_here", "_law_text_here"] (ao j1):=by constructor<;>first|rfl|decide +kernel
def sy:aL ["_law_tongue_here", "_law_model_here", "_law_row_here", "_law_told_here", "_law_found"] ["_law_tongue_here", "_law_model_here", "_law_row_here"] (ao jd):=by constructor<;>first|rfl|decide +kernel
def zT:aL ["_law_tongue_here", "_law_model_here", "_law_row_here", "_law_rest"] ["_law_tongue_here", "_law_model_here", "_law_row_here"] (ao je):=by constructor<;>first|rfl|decide +kernel
def mG:aL ["_law_model_here", "_law_kept", "_law_low", "_law_high"] ["_law_model_here", "_law_kept"] (ao j2):=by constructor<;>first|rfl|decide +kernel
def G7:aL ["_law_tongue_here", "_law_model_here", "_law_row_here", "_law_kept"] ["_law_tongue_here", "_law_model_here", "_law_row_here", "_law_kept"] (ao jW):=by constructor<;>first|rfl|decide +kernel
def iG:aL ["_law_tongue_here", "_law_model_here", "_law_row_here", "_law_told_here", "_law_place", "_law_length", "_law_kind", "_law_found", "_law_unit_here", "_law_met"] ["_law_tongue_here", "_law_model_here", "_law_row_here", "_law_told_here"] (ao j9):=by constructor<;>first|rfl|decide +kernel
def mH:aL ["_law_script", "_law_model_here", "_law_row_here", "_law_tongue_here", "_law_told_here"] ["_law_script"] (ao kr):=by constructor<;>first|rfl|decide +kernel
set_option genInjectivity false in
structure Adr where
 rD:Addr
 vD:FuncData
 rm:Addr
 nE:FuncData
 ud_Reader_init_0:Tok
 yf:Addr
 vx:FuncData
 yg:Addr
 vy:FuncData
 ye:Addr
 vw:FuncData
 yh:Addr
 vz:FuncData
 x9:Addr
 vm:FuncData
 yd:Addr
 vt:FuncData
 yb:Addr
 vp:FuncData
 yc:Addr
 vq:FuncData
 ya:Addr
 vo:FuncData
 xD:Addr
 uN:FuncData
 xC:Addr
 uM:FuncData
 xU:Addr
 ve:FuncData
 xA:Addr
 uK:FuncData
 xM:Addr
 uV:FuncData
 xP:Addr
 uY:FuncData
 xN:Addr
 uW:FuncData
 xI:Addr
 uR:FuncData
 xK:Addr
 uT:FuncData
 xJ:Addr
 uS:FuncData
 xL:Addr
 uU:FuncData
 hJ:Addr
 jv:FuncData
 xY:Addr
 qj:FuncData
 ud_Tongue_whole_0:Tok
 xZ:Addr
 qk:FuncData
 ud_Tongue_fill_0:Tok
 gw:Addr
 iu:FuncData
 ud_Tongue_look_0:Tok
 xG:Addr
 uQ:FuncData
 xW:Addr
 vg:FuncData
 xQ:Addr
 uZ:FuncData
 xF:Addr
 uP:FuncData
 xV:Addr
 vf:FuncData
 rA:Addr
 nJ:FuncData
 ud_LeadTongue_whole_0:Tok
 rB:Addr
 nK:FuncData
 ud_LeadTongue_fill_0:Tok
 xB:Addr
 uL:FuncData
 ro:Addr
 nH:FuncData
 ud_PairTongue_init_0:Tok
 yj:Addr
 vB:FuncData
 yk:Addr
 vC:FuncData
 yi:Addr
 vA:FuncData
 rn:Addr
 nG:FuncData
 ud_PairTongue_whole_0:Tok
 rq:Addr
 nI:FuncData
 ud_PairTongue_fill_0:Tok
 xX:Addr
 vh:FuncData
 xE:Addr
 uO:FuncData
 rk:Addr
 qo:FuncData
 x8:Addr
 vk:FuncData
 x6:Addr
 vj:FuncData
 rj:Addr
 nB:FuncData
 ud_ShiftTongue_whole_0:Tok
 rl:Addr
 nC:FuncData
 ud_ShiftTongue_fill_0:Tok
 xO:Addr
 uX:FuncData
 xR:Addr
 va:FuncData
 xT:Addr
 vd:FuncData
 rh:Addr
 qm:FuncData
 x5:Addr
 vi:FuncData
 rg:Addr
 ny:FuncData
 ud_TableTongue_whole_0:Tok
 ri:Addr
 nA:FuncData
 ud_TableTongue_fill_0:Tok
 xx:Addr
 uH:FuncData
 xt:Addr
 uD:FuncData
 xn:Addr
 uw:FuncData
 xv:Addr
 uF:FuncData
 xz:Addr
 uJ:FuncData
 xo:Addr
 uz:FuncData
 xb:Addr
 uj:FuncData
 xm:Addr
 uv:FuncData
 w5:Addr
 ug:FuncData
 wZ:Addr
 uf:FuncData
 xp:Addr
 uA:FuncData
 xh:Addr
 uq:FuncData
 xc:Addr
 uk:FuncData
 w9:Addr
 ui:FuncData
 xq:Addr
 uB:FuncData
 xi:Addr
 ur:FuncData
 xy:Addr
 uI:FuncData
 xg:Addr
 uo:FuncData
 w6:Addr
 uh:FuncData
 xj:Addr
 ut:FuncData
 xr:Addr
 uC:FuncData
 xu:Addr
 uE:FuncData
 xk:Addr
 uu:FuncData
 xf:Addr
 ul:FuncData
 xw:Addr
 uG:FuncData
 xH:Addr
 qi:FuncData
 bQ:Addr
 fN:Addr
 fO:Addr
 dj:Addr
 cf:Addr
 cv:Addr
 d6:Addr
 qv:Addr
 Fm:Tok
 Fk:Tok
 yl:Addr
 h_FILLS_0:Int
 a_FILLS_0:Addr
 a_FILLS_0_0:Addr
 a_FILLS_0_1:Addr
 a_FILLS_0_2:Addr
 a_FILLS_0_3:Addr
 a_FILLS_0_4:Addr
 h_FILLS_1:Int
 a_FILLS_1:Addr
 a_FILLS_1_0:Addr
 a_FILLS_1_1:Addr
 a_FILLS_1_2:Addr
 a_FILLS_1_3:Addr
 a_FILLS_1_4:Addr
 Fj:Tok
 Fi:Tok
 Fh:Tok
 Fg:Tok
 Ff:Tok
 Fe:Tok
 Fd:Tok
 Fc:Tok
 Fb:Tok
 Fa:Tok
 E9:Tok
 rC:Addr
 E8:Tok
 E7:Tok
 E6:Tok
 Dq:Addr
 a_SECONDS_0:Addr
 a_SECONDS_1:Addr
 a_SECONDS_2:Addr
 a_SECONDS_3:Addr
 a_SECONDS_4:Addr
 nZ:Addr
structure Txt (w:World) (K:PySem.W.Frag) (mg:Str->Option Value) (t:Adr):Prop where
 SC:aR K "__init__" "Faulty.__init__" lM t.rD t.vD
 RP:ax K t.vD ["self", "place", "length", "kind"] []
 Sn:dR K "__init__" "Reader.__init__" ls t.rm t.nE [.int 0 t.ud_Reader_init_0]
 Qm:ax K t.nE ["self", "tongue", "place"] [.int 0 t.ud_Reader_init_0]
 S4:ax K t.nE ["self", "tongue", "place"] []
 Sq:aR K "faults" "Reader.faults" lD t.yf t.vx
 RE:ax K t.vx ["self"] []
 Sr:aR K "ending" "Reader.ending" lE t.yg t.vy
 RF:ax K t.vy ["self"] []
 So:aR K "feed" "Reader.feed" lC t.ye t.vw
 RD:ax K t.vw ["self", "row"] []
 Ss:aR K "end" "Reader.end" lF t.yh t.vz
 RG:ax K t.vz ["self"] []
 Si:aR K "take" "Reader.take" lg t.x9 t.vm
 Ry:ax K t.vm ["self", "byte"] []
 Sm:aR K "look_at_begun" "Reader.look_at_begun" lm t.yd t.vt
 RC:ax K t.vt ["self"] []
 Sk:aR K "meet_none" "Reader.meet_none" li t.yb t.vp
 RA:ax K t.vp ["self"] []
 Sl:aR K "meet" "Reader.meet" lj t.yc t.vq
 RB:ax K t.vq ["self", "length", "kind"] []
 Sj:aR K "note" "Reader.note" lh t.ya t.vo
 Rz:ax K t.vo ["self", "length", "kind"] []
 D4:aR K "read" "read" kj t.xD t.uN
 QX:ax K t.uN ["tongue", "row"] []
 Oi:mg "read" = some (.ref t.xD)
 D3:aR K "rest_of" "rest_of" ki t.xC t.uM
 QV:ax K t.uM ["tongue", "row"] []
 Oh:mg "rest_of" = some (.ref t.xC)
 Ek:aR K "check_room" "check_room" kJ t.xU t.ve
 Rg:ax K t.ve ["number", "bits"] []
 OH:mg "check_room" = some (.ref t.xU)
 D1:aR K "together" "together" kg t.xA t.uK
 QR:ax K t.uK ["parts", "bits"] []
 Oc:mg "together" = some (.ref t.xA)
 Ed:aR K "is_number" "is_number" kz t.xM t.uV
 Q8:ax K t.uV ["thing"] []
 Ox:mg "is_number" = some (.ref t.xM)
 Eg:aR K "is_byte" "is_byte" kF t.xP t.uY
 Rb:ax K t.uY ["thing"] []
 OA:mg "is_byte" = some (.ref t.xP)
 Ee:aR K "is_head" "is_head" kD t.xN t.uW
 Q9:ax K t.uW ["number"] []
 Oy:mg "is_head" = some (.ref t.xN)
 D8:aR K "is_tail" "is_tail" ku t.xI t.uR
 Q4:ax K t.uR ["number"] []
 Ot:mg "is_tail" = some (.ref t.xI)
 Ea:aR K "is_seen_byte" "is_seen_byte" ky t.xK t.uT
 Q6:ax K t.uT ["thing"] []
 Ov:mg "is_seen_byte" = some (.ref t.xK)
 D9:aR K "is_sign" "is_sign" kx t.xJ t.uS
 Q5:ax K t.uS ["thing"] []
 Ou:mg "is_sign" = some (.ref t.xJ)
 Ec:aR K "is_row" "is_row" jg t.xL t.uU
 Q7:ax K t.uU ["thing"] []
 Ow:mg "is_row" = some (.ref t.xL)
 R4:aR K "unit" "Tongue.unit" kN t.hJ t.jv
 re:ax K t.jv ["self"] []
 R3:dR K "whole" "Tongue.whole" kM t.xY t.qj [.int 0 t.ud_Tongue_whole_0]
 SS:ax K t.qj ["self", "row", "page"] [.int 0 t.ud_Tongue_whole_0]
 Rk:ax K t.qj ["self", "row", "page"] []
 R6:dR K "fill" "Tongue.fill" kP t.xZ t.qk [.int 0 t.ud_Tongue_fill_0]
 SU:ax K t.qk ["self", "row", "page"] [.int 0 t.ud_Tongue_fill_0]
 Rl:ax K t.qk ["self", "row", "page"] []
 R5:dR K "look" "Tongue.look" kO t.gw t.iu [.int 0 t.ud_Tongue_look_0]
 ST:ax K t.iu ["self", "begun", "page"] [.int 0 t.ud_Tongue_look_0]
 nV:ax K t.iu ["self", "begun", "page"] []
 D7:aR K "length_behind" "length_behind" ko t.xG t.uQ
 Q0:ax K t.uQ ["first"] []
 Oq:mg "length_behind" = some (.ref t.xG)
 Em:aR K "bounds_behind" "bounds_behind" kK t.xW t.vg
 Ri:ax K t.vg ["row", "place"] []
 OJ:mg "bounds_behind" = some (.ref t.xW)
 Eh:aR K "fits_behind" "fits_behind" kG t.xQ t.uZ
 Rc:ax K t.uZ ["row"] []
 OD:mg "fits_behind" = some (.ref t.xQ)
 D6:aR K "missing" "missing" km t.xF t.uP
 QZ:ax K t.uP ["row"] []
 Op:mg "missing" = some (.ref t.xF)
 El:aR K "carried" "carried" jh t.xV t.vf
 Rh:ax K t.vf ["row"] []
 OI:mg "carried" = some (.ref t.xV)
 SA:dR K "whole" "LeadTongue.whole" lL t.rA t.nJ [.int 0 t.ud_LeadTongue_whole_0]
 S2:ax K t.nJ ["self", "row", "page"] [.int 0 t.ud_LeadTongue_whole_0]
 RN:ax K t.nJ ["self", "row", "page"] []
 SB:dR K "fill" "LeadTongue.fill" jj t.rB t.nK [.int 0 t.ud_LeadTongue_fill_0]
 S3:ax K t.nK ["self", "row", "page"] [.int 0 t.ud_LeadTongue_fill_0]
 RO:ax K t.nK ["self", "row", "page"] []
 D2:aR K "sign_of" "sign_of" kh t.xB t.uL
 QU:ax K t.uL ["units"] []
 Of:mg "sign_of" = some (.ref t.xB)
 Sy:dR K "__init__" "PairTongue.__init__" lJ t.ro t.nH [.str "high" t.ud_PairTongue_init_0]
 S0:ax K t.nH ["self", "order"] [.str "high" t.ud_PairTongue_init_0]
 RL:ax K t.nH ["self", "order"] []
 Sw:aR K "unit" "PairTongue.unit" lH t.yj t.vB
 RJ:ax K t.vB ["self"] []
 Sx:aR K "turned" "PairTongue.turned" lI t.yk t.vC
 RK:ax K t.vC ["self", "pair"] []
 Sv:aR K "units_in" "PairTongue.units_in" ji t.yi t.vA
 RI:ax K t.vA ["self", "row"] []
 Su:dR K "whole" "PairTongue.whole" lG t.rn t.nG [.int 0 t.ud_PairTongue_whole_0]
 SZ:ax K t.nG ["self", "row", "page"] [.int 0 t.ud_PairTongue_whole_0]
 RH:ax K t.nG ["self", "row", "page"] []
 Sz:dR K "fill" "PairTongue.fill" lK t.rq t.nI [.int 0 t.ud_PairTongue_fill_0]
 S1:ax K t.nI ["self", "row", "page"] [.int 0 t.ud_PairTongue_fill_0]
 RM:ax K t.nI ["self", "row", "page"] []
 En:aR K "begins" "begins" kL t.xX t.vh
 Rj:ax K t.vh ["one", "other"] []
 OK:mg "begins" = some (.ref t.xX)
 D5:aR K "places_in" "places_in" kl t.xE t.uO
 QY:ax K t.uO ["signs", "which"] []
 Oj:mg "places_in" = some (.ref t.xE)
 Sf:aR K "__init__" "ShiftTongue.__init__" kY t.rk t.qo
 Rw:ax K t.qo ["self", "first", "second"] []
 Se:aR K "row_beyond" "ShiftTongue.row_beyond" kX t.x8 t.vk
 Rv:ax K t.vk ["self", "page"] []
 Sd:aR K "sign_of" "ShiftTongue.sign_of" kW t.x6 t.vj
 Ru:ax K t.vj ["self", "byte", "page"] []
 Sc:dR K "whole" "ShiftTongue.whole" kU t.rj t.nB [.int 0 t.ud_ShiftTongue_whole_0]
 SX:ax K t.nB ["self", "row", "page"] [.int 0 t.ud_ShiftTongue_whole_0]
 Rr:ax K t.nB ["self", "row", "page"] []
 Sh:dR K "fill" "ShiftTongue.fill" kZ t.rl t.nC [.int 0 t.ud_ShiftTongue_fill_0]
 SY:ax K t.nC ["self", "row", "page"] [.int 0 t.ud_ShiftTongue_fill_0]
 Rx:ax K t.nC ["self", "row", "page"] []
 Ef:aR K "is_entry" "is_entry" kE t.xO t.uX
 Ra:ax K t.uX ["thing"] []
 Oz:mg "is_entry" = some (.ref t.xO)
 Ei:aR K "collide" "collide" kH t.xR t.va
 Re:ax K t.va ["one", "other"] []
 OF:mg "collide" = some (.ref t.xR)
 Ej:aR K "check_table" "check_table" kI t.xT t.vd
 Rf:ax K t.vd ["rows"] []
 OG:mg "check_table" = some (.ref t.xT)
 R8:aR K "__init__" "TableTongue.__init__" kR t.rh t.qm
 Rn:ax K t.qm ["self", "rows"] []
 Sa:aR K "enter" "TableTongue.enter" kT t.x5 t.vi
 Rq:ax K t.vi ["self", "sign", "row"] []
 R7:dR K "whole" "TableTongue.whole" kQ t.rg t.ny [.int 0 t.ud_TableTongue_whole_0]
 SV:ax K t.ny ["self", "row", "page"] [.int 0 t.ud_TableTongue_whole_0]
 Rm:ax K t.ny ["self", "row", "page"] []
 R9:dR K "fill" "TableTongue.fill" kS t.ri t.nA [.int 0 t.ud_TableTongue_fill_0]
 SW:ax K t.nA ["self", "row", "page"] [.int 0 t.ud_TableTongue_fill_0]
 Ro:ax K t.nA ["self", "row", "page"] []
 DX:aR K "_law_drawn" "_law_drawn" ka t.xx t.uH
 QN:ax K t.uH ["_law_script", "_law_at"] []
 N9:mg "_law_drawn" = some (.ref t.xx)
 DT:aR K "_law_is_number" "_law_is_number" j7 t.xt t.uD
 QJ:ax K t.uD ["_law_found"] []
 N5:mg "_law_is_number" = some (.ref t.xt)
 DO:aR K "_law_mixed" "_law_mixed" j4 t.xn t.uw
 QB:ax K t.uw ["_law_number", "_law_k"] []
 NZ:mg "_law_mixed" = some (.ref t.xn)
 DV:aR K "_law_gapped" "_law_gapped" j8 t.xv t.uF
 QL:ax K t.uF ["_law_number"] []
 N7:mg "_law_gapped" = some (.ref t.xv)
 DZ:aR K "_law_as_sign" "_law_as_sign" kc t.xz t.uJ
 QQ:ax K t.uJ ["_law_number"] []
 Ob:mg "_law_as_sign" = some (.ref t.xz)
 DP:aR K "_law_lists" "_law_lists" iI t.xo t.uz
 QC:ax K t.uz ["_law_number"] []
 N0:mg "_law_lists" = some (.ref t.xo)
 DF:aR K "_law_table" "_law_table" jc t.xb t.uj
 Qr:ax K t.uj ["_law_number"] []
 NQ:mg "_law_table" = some (.ref t.xb)
 DN:aR K "_law_model" "_law_model" j3 t.xm t.uv
 Qz:ax K t.uv ["_law_cell"] []
 NY:mg "_law_model" = some (.ref t.xm)
 DC:aR K "_law_tongue" "_law_tongue" jb t.w5 t.ug
 Qo:ax K t.ug ["_law_model_here"] []
 NN:mg "_law_tongue" = some (.ref t.w5)
 DB:aR K "_law_unit" "_law_unit" jT t.wZ t.uf
 Qn:ax K t.uf ["_law_model_here"] []
 NM:mg "_law_unit" = some (.ref t.wZ)
 DQ:aR K "_law_lead_row" "_law_lead_row" j5 t.xp t.uA
 QD:ax K t.uA ["_law_sign"] []
 N2:mg "_law_lead_row" = some (.ref t.xp)
 DJ:aR K "_law_pair_row" "_law_pair_row" jY t.xh t.uq
 Qv:ax K t.uq ["_law_sign", "_law_word"] []
 NU:mg "_law_pair_row" = some (.ref t.xh)
 DG:aR K "_law_spell" "_law_spell" jV t.xc t.uk
 Qs:ax K t.uk ["_law_model_here", "_law_sign", "_law_page_here"] []
 NR:mg "_law_spell" = some (.ref t.xc)
 DE:aR K "_law_text" "_law_text" ia t.w9 t.ui
 Qq:ax K t.ui ["_law_model_here", "_law_cells"] []
 NP:mg "_law_text" = some (.ref t.w9)
 DR:aR K "_law_lead_begun" "_law_lead_begun" j6 t.xq t.uB
 QF:ax K t.uB ["_law_kept"] []
 N3:mg "_law_lead_begun" = some (.ref t.xq)
 DK:aR K "_law_pair_begun" "_law_pair_begun" jZ t.xi t.ur
 Qw:ax K t.ur ["_law_kept", "_law_word"] []
 NV:mg "_law_pair_begun" = some (.ref t.xi)
 DY:aR K "_law_begun" "_law_begun" jf t.xy t.uI
 QP:ax K t.uI ["_law_model_here", "_law_kept", "_law_page_here"] []
 Oa:mg "_law_begun" = some (.ref t.xy)
 DI:aR K "_law_row" "_law_row" jX t.xg t.uo
 Qu:ax K t.uo ["_law_model_here", "_law_cells"] []
 NT:mg "_law_row" = some (.ref t.xg)
 DD:aR K "_law_told" "_law_told" jU t.w6 t.uh
 Qp:ax K t.uh ["_law_tongue_here", "_law_row_here"] []
 NO:mg "_law_told" = some (.ref t.w6)
 DL:aR K "_law_page" "_law_page" j1 t.xj t.ut
 Qx:ax K t.ut ["_law_model_here", "_law_text_here"] []
 NW:mg "_law_page" = some (.ref t.xj)
 DS:aR K "_law_is_text_of" "_law_is_text_of" jd t.xr t.uC
 QH:ax K t.uC ["_law_tongue_here", "_law_model_here", "_law_row_here"] []
 N4:mg "_law_is_text_of" = some (.ref t.xr)
 DU:aR K "_law_goes_on" "_law_goes_on" je t.xu t.uE
 QK:ax K t.uE ["_law_tongue_here", "_law_model_here", "_law_row_here"] []
 N6:mg "_law_goes_on" = some (.ref t.xu)
 DM:aR K "_law_odd_fits" "_law_odd_fits" j2 t.xk t.uu
 Qy:ax K t.uu ["_law_model_here", "_law_kept"] []
 NX:mg "_law_odd_fits" = some (.ref t.xk)
 DH:aR K "_law_short" "_law_short" jW t.xf t.ul
 Qt:ax K t.ul ["_law_tongue_here", "_law_model_here", "_law_row_here", "_law_kept"] []
 NS:mg "_law_short" = some (.ref t.xf)
 DW:aR K "_law_faulty" "_law_faulty" j9 t.xw t.uG
 QM:ax K t.uG ["_law_tongue_here", "_law_model_here", "_law_row_here", "_law_told_here"] []
 N8:mg "_law_faulty" = some (.ref t.xw)
 yw:aR K "law" "law" kr t.xH t.qi
 Q3:ax K t.qi ["_law_script"] []
 Cp:mg "law" = some (.ref t.xH)
 NJ:mg "Reader" = some (.ref t.bQ)
 aS:dA K t.bQ
 Lr:Mk K t.bQ t.rm
 Lc:bE K t.bQ "faults" t.yf
 Ld:bE K t.bQ "ending" t.yg
 Lb:bE K t.bQ "feed" t.ye
 Le:bE K t.bQ "end" t.yh
 K6:bE K t.bQ "take" t.x9
 La:bE K t.bQ "look_at_begun" t.yd
 K8:bE K t.bQ "meet_none" t.yb
 K9:bE K t.bQ "meet" t.yc
 K7:bE K t.bQ "note" t.ya
 gJ:cZ K t.bQ "at_page"
 dI:cZ K t.bQ "begun"
 iK:cZ K t.bQ "ended"
 sU:cZ K t.bQ "many"
 sT:cZ K t.bQ "met"
 Bg:cZ K t.bQ "place"
 dC:cZ K t.bQ "tongue"
 SL:∀H a dx fs,H a=some (.ins t.bQ dx fs)->c9 K H (.ref a) (.ref t.bQ)
 NG:mg "Tongue" = some (.ref t.fN)
 qV:dA K t.fN
 Lu:rH K t.fN
 KS:bE K t.fN "unit" t.hJ
 KR:bE K t.fN "whole" t.xY
 KW:bE K t.fN "fill" t.xZ
 KU:bE K t.fN "look" t.gw
 SH:∀H a dx fs,H a=some (.ins t.fN dx fs)->c9 K H (.ref a) (.ref t.fN)
 NL:mg "LeadTongue" = some (.ref t.fO)
 qW:dA K t.fO
 Lv:rH K t.fO
 Ll:bE K t.fO "whole" t.rA
 Lm:bE K t.fO "fill" t.rB
 mt_LeadTongue_unit:bE K t.fO "unit" t.hJ
 mt_LeadTongue_look:bE K t.fO "look" t.gw
 SN:∀H a dx fs,H a=some (.ins t.fO dx fs)->c9 K H (.ref a) (.ref t.fO)
 NK:mg "PairTongue" = some (.ref t.dj)
 iw:dA K t.dj
 Ls:Mk K t.dj t.ro
 Lh:bE K t.dj "unit" t.yj
 Li:bE K t.dj "turned" t.yk
 Lg:bE K t.dj "units_in" t.yi
 Lf:bE K t.dj "whole" t.rn
 Lj:bE K t.dj "fill" t.rq
 mt_PairTongue_look:bE K t.dj "look" t.gw
 sV:cZ K t.dj "order"
 SM:∀H a dx fs,H a=some (.ins t.dj dx fs)->c9 K H (.ref a) (.ref t.dj)
 NI:mg "ShiftTongue" = some (.ref t.cf)
 d8:dA K t.cf
 Lq:Mk K t.cf t.rk
 K4:bE K t.cf "row_beyond" t.x8
 K3:bE K t.cf "sign_of" t.x6
 K1:bE K t.cf "whole" t.rj
 K5:bE K t.cf "fill" t.rl
 mt_ShiftTongue_unit:bE K t.cf "unit" t.hJ
 mt_ShiftTongue_look:bE K t.cf "look" t.gw
 pF:cZ K t.cf "lists"
 sS:cZ K t.cf "places"
 pE:cZ K t.cf "shifted"
 SK:∀H a dx fs,H a=some (.ins t.cf dx fs)->c9 K H (.ref a) (.ref t.cf)
 NH:mg "TableTongue" = some (.ref t.cv)
 f9:dA K t.cv
 Lp:Mk K t.cv t.rh
 K0:bE K t.cv "enter" t.x5
 KY:bE K t.cv "whole" t.rg
 KZ:bE K t.cv "fill" t.ri
 mt_TableTongue_unit:bE K t.cv "unit" t.hJ
 mt_TableTongue_look:bE K t.cv "look" t.gw
 sR:cZ K t.cv "rest_by_row"
 Bf:cZ K t.cv "row_by_sign"
 sQ:cZ K t.cv "sign_by_row"
 SJ:∀H a dx fs,H a=some (.ins t.cv dx fs)->c9 K H (.ref a) (.ref t.cv)
 lX:mg "Faulty" = some (.ref t.d6)
 m5:mg "TongueError" = some (.ref t.qv)
 oy:iT K t.d6
 xm_Faulty_Faulty:PySem.W.exmOne K (.ref t.d6) (.ref t.d6)=some true
 jx:fo K t.d6 iB "ValueError.__new__" = true
 nP:PySem.W.findIn K (.ref t.d6) "__init__" = some (some (.ref t.rD))
 nO:PySem.W.isFn K (.ref t.rD)=true
 nN:PySem.W.keepIn K (.ref t.d6)=true
 nL:PySem.W.findIn K (.ref t.d6) "__setattr__" = some (some (.builtin "object.__setattr__"))
 en_Faulty_kind:PySem.W.findIn K (.ref t.d6) "kind" = some none
 en_Faulty_length:PySem.W.findIn K (.ref t.d6) "length" = some none
 en_Faulty_place:PySem.W.findIn K (.ref t.d6) "place" = some none
 eb_0:PySem.W.specialIn K (.ref t.qv) "__getattribute__" = some (some (.builtin "type.__getattribute__"))
 eb_1:PySem.W.readsIn K t.qv (.type "type")=true
 eb_2:PySem.W.findCls K (.ref t.qv) (.type "type") "__init__" = some (.val (.builtin "ValueError.__init__"))
 Qg:mg "BITS" = some (.int 6 t.Fm)
 Qf:mg "BYTE_BITS" = some (.int 8 t.Fk)
 C7:mg "FILLS" = some (.ref t.yl)
 CU:ow K w t.yl [(t.h_FILLS_0, "high",t.a_FILLS_0),(t.h_FILLS_1, "low",t.a_FILLS_1)]
 q_FILLS_0:∀H,bv K H t.a_FILLS_0 (([t.a_FILLS_0_0,t.a_FILLS_0_1,t.a_FILLS_0_2,t.a_FILLS_0_3,t.a_FILLS_0_4]:List Addr).map V.ref)
 q_FILLS_0_0:∀H,bv K H t.a_FILLS_0_0 (([]:e7).map V.int)
 q_FILLS_0_1:∀H,bv K H t.a_FILLS_0_1 (([0]:e7).map V.int)
 q_FILLS_0_2:∀H,bv K H t.a_FILLS_0_2 (([0,0]:e7).map V.int)
 q_FILLS_0_3:∀H,bv K H t.a_FILLS_0_3 (([220,0]:e7).map V.int)
 q_FILLS_0_4:∀H,bv K H t.a_FILLS_0_4 (([0,220,0]:e7).map V.int)
 q_FILLS_1:∀H,bv K H t.a_FILLS_1 (([t.a_FILLS_1_0,t.a_FILLS_1_1,t.a_FILLS_1_2,t.a_FILLS_1_3,t.a_FILLS_1_4]:List Addr).map V.ref)
 q_FILLS_1_0:∀H,bv K H t.a_FILLS_1_0 (([]:e7).map V.int)
 q_FILLS_1_1:∀H,bv K H t.a_FILLS_1_1 (([0]:e7).map V.int)
 q_FILLS_1_2:∀H,bv K H t.a_FILLS_1_2 (([220]:e7).map V.int)
 q_FILLS_1_3:∀H,bv K H t.a_FILLS_1_3 (([0,0]:e7).map V.int)
 q_FILLS_1_4:∀H,bv K H t.a_FILLS_1_4 (([0,220]:e7).map V.int)
 wU:mg "FIRST_BEHIND" = some (.int 128 t.Fj)
 C6:mg "FIRST_HEAD" = some (.int 55296 t.Fi)
 Qe:mg "FIRST_SEEN" = some (.int 61184 t.Fh)
 wT:mg "FIRST_TAIL" = some (.int 56320 t.Fg)
 Qd:mg "FIRST_WIDE" = some (.int 65536 t.Ff)
 Qc:mg "HALF_BITS" = some (.int 10 t.Fe)
 C5:mg "LAST_BEHIND" = some (.int 191 t.Fd)
 Qb:mg "LAST_BYTE" = some (.int 255 t.Fc)
 Qa:mg "LAST_SEEN" = some (.int 61439 t.Fb)
 P9:mg "LAST_SIGN" = some (.int 1114111 t.Fa)
 P8:mg "LAST_TAIL" = some (.int 57343 t.E9)
 P7:mg "LEADS" = some (.ref t.rC)
 IO:∀H,bv K H t.rC (([0,0,192,224,240]:e7).map V.int)
 SR:∃o,K.lookup t.rC=some o/\o.cls=.type "tuple"/\o.dict=none
 P6:mg "MOST_BYTES" = some (.int 6 t.E8)
 P5:mg "MOST_SIGNS" = some (.int 250 t.E7)
 P4:mg "MOST_TUPLES" = some (.int 64 t.E6)
 P3:mg "SECONDS" = some (.ref t.Dq)
 Pq:rM K t.Dq [(224,t.a_SECONDS_0),(237,t.a_SECONDS_1),(238,t.a_SECONDS_2),(240,t.a_SECONDS_3),(244,t.a_SECONDS_4)]
 q_SECONDS_0:∀H,bv K H t.a_SECONDS_0 (([160,191]:e7).map V.int)
 q_SECONDS_1:∀H,bv K H t.a_SECONDS_1 (([128,159]:e7).map V.int)
 q_SECONDS_2:∀H,bv K H t.a_SECONDS_2 (([128,187]:e7).map V.int)
 q_SECONDS_3:∀H,bv K H t.a_SECONDS_3 (([144,191]:e7).map V.int)
 q_SECONDS_4:∀H,bv K H t.a_SECONDS_4 (([128,143]:e7).map V.int)
 C4:mg "SHIFTS" = some (.ref t.nZ)
 AF:∀H,bv K H t.nZ (([254,255]:e7).map V.int)
 SQ:∃o,K.lookup t.nZ=some o/\o.cls=.type "tuple"/\o.dict=none
 n_all:mg "all" = none
 n_any:mg "any" = none
 n_bool:mg "bool" = none
 n_enumerate:mg "enumerate" = none
 n_int:mg "int" = none
 n_isinstance:mg "isinstance" = none
 n_len:mg "len" = none
 n_list:mg "list" = none
 n_range:mg "range" = none
 n_set:mg "set" = none
 n_str:mg "str" = none
 n_sum:mg "sum" = none
 n_tuple:mg "tuple" = none
 n_zip:mg "zip" = none
def lT{α:Type}{r:List α}(h:r.length=2):∃a b,r=[a,b]:=by
 obtain⟨a,r,rfl⟩:=Vs h;obtain⟨b,r,rfl⟩:=Vs (Up h);obtain rfl:=U5 (Up (Up h));exact⟨a,b,Z⟩
def mX{α:Type}{r:List α}(h:r.length=4):∃a b c d,r=[a,b,c,d]:=by
 obtain⟨a,r,rfl⟩:=Vs h;obtain⟨b,r,rfl⟩:=Vs (Up h);obtain⟨c,d,rfl⟩:=lT (Up (Up h));exact⟨a,b,c,d,Z⟩
def jO{t u:TS}{D:fR}{σ:St}{H:Hp}(h:∀N:St->Hp->Prop,N=u D->t { D with nx:=N } σ H):mw t u D σ H:=h _ rfl
def oI{sp:Sp}{vs:List V}{H:Hp}{Q:VK}{E:XK}(h:∀q:VK,(∀v H,Q v H->q v H)->sp vs H q E):sp vs H Q E:=h Q λ_ _ h=>h
def gl{d:Sort _}{c b:d->Prop}(a:d)(e:c a)(f:b a):∃a,c a/\b a:=⟨a,e,f⟩
def dL{e:Sort _}{c b d:e->Prop}(a:e)(f:c a)(g:b a)(h:d a):∃a,c a/\b a/\d a:=⟨a,f,g,h⟩
def yA{e:Sort _}{f b d c:e->Prop}(a:e)(g:f a)(h:b a)(j:d a)(i:c a):∃a,f a/\b a/\d a/\c a:=⟨a,g,h,j,i⟩
def bo{e:Sort _}{g:Sort _}{f c d:e->g->Prop}(a:e)(b:g)(h:f a b)(i:c a b)(j:d a b):∃a b,f a b/\c a b/\d a b:=⟨a,b,h,i,j⟩
def yz{f:Sort _}{h:Sort _}{g c e d:f->h->Prop}(a:f)(b:h)(i:g a b)(j:c a b)(l:e a b)(k:d a b):∃a b,g a b/\c a b/\e a b/\d a b:=⟨a,b,i,j,l,k⟩
def cz{g:Sort _}{j:Sort _}{i:Sort _}{h d f e:g->j->i->Prop}(a:g)(b:j)(c:i)(k:h a b c)(l:d a b c)(n:f a b c)(m:e a b c):∃a b c,h a b c/\d a b c/\f a b c/\e a b c:=⟨a,b,c,k,l,n,m⟩
def dB{f:Sort _}{m:Sort _}{g:Sort _}{l:Sort _}{e j i h n k:f->m->g->l->Prop}(b:f)(a:m)(c:g)(d:l)(p:e b a c d)(s:j b a c d)(u:i b a c d)(q:h b a c d)(r:n b a c d)(o:k b a c d):∃b a c d,e b a c d/\j b a c d/\i b a c d/\h b a c d/\n b a c d/\k b a c d:=⟨b,a,c,d,p,s,u,q,r,o⟩
def bZ{g:Sort _}{n:Sort _}{h:Sort _}{m:Sort _}{p:Sort _}{f k j i o l:g->n->h->m->p->Prop}(c:g)(a:n)(d:h)(e:m)(b:p)(r:f c a d e b)(x:k c a d e b)(s:j c a d e b)(u:i c a d e b)(v:o c a d e b)(q:l c a d e b):∃c a d e b,f c a d e b/\k c a d e b/\j c a d e b/\i c a d e b/\o c a d e b/\l c a d e b:=⟨c,a,d,e,b,r,x,s,u,v,q⟩
def xS{K:PySem.W.Frag}{H:Hp}{a b:Str}{G:PyData->PyData->Prop}(h:SeqAt.shaped (.str a)=true)(i:SeqAt.shaped (.str b)=true)(g:G (.str a) (.str b)):∃d e,c6 K H d (.str a)/\c6 K H e (.str b)/\SeqAt.shaped d=true/\SeqAt.shaped e=true/\G d e:=⟨_,_,.str _,.str _,h,i,g⟩
def ez{K:PySem.W.Frag}{H:Hp}{a b:Str}{G:PyData->PyData->Prop}(g:G (.str a) (.str b))(h:SeqAt.shaped (.str a)=true:=by decide +kernel)(i:SeqAt.shaped (.str b)=true:=by decide +kernel):∃d e,c6 K H d (.str a)/\c6 K H e (.str b)/\SeqAt.shaped d=true/\SeqAt.shaped e=true/\G d e:=xS h i g
def bc{d:Sort _}{c b:d->Prop}{a:d}(e:c a)(f:b a):∃a,c a/\b a:=⟨a,e,f⟩
def dS{e:Sort _}{c b d:e->Prop}{a:e}(f:c a)(g:b a)(h:d a):∃a,c a/\b a/\d a:=⟨a,f,g,h⟩
def gk{e:Sort _}{f b d c:e->Prop}{a:e}(g:f a)(h:b a)(j:d a)(i:c a):∃a,f a/\b a/\d a/\c a:=⟨a,g,h,j,i⟩
def aY{e:Sort _}{g:Sort _}{f c d:e->g->Prop}{a:e}{b:g}(h:f a b)(i:c a b)(j:d a b):∃a b,f a b/\c a b/\d a b:=⟨a,b,h,i,j⟩
def fU{f:Sort _}{h:Sort _}{g c e d:f->h->Prop}{a:f}{b:h}(i:g a b)(j:c a b)(l:e a b)(k:d a b):∃a b,g a b/\c a b/\e a b/\d a b:=⟨a,b,i,j,l,k⟩
end My
namespace My
open PySem L2
def jq:V->Bool
 | .int _=>true
 | _=>false
def dF(v:V)(lo a:Int):Bool:=match v with
 | .int i=>decide (lo<=i) && decide (i<=a)
 | _=>false
def dP(v:V):Bool:=dF v 0 1114111 && !(dF v 55296 57343) && !(dF v 61184 61439)
def tz{v:V}(h:jq v=true):∃i,v=.int i:=by
 cases v<;>first|exact⟨_,rfl⟩|cases h
def mz(f:V->Bool)(K:PySem.W.Frag):Sp:=λvs H Q _=>∃v,vs=[v]/\fQ K H v/\Q (.bl (f v)) H
def sx(f:Int->Bool):Sp:=λvs H Q _=>∃i,vs=[.int i]/\Q (.bl (f i)) H
def pN{f:V->Bool}{K:PySem.W.Frag}{x:Str}:∀vs H Q E,mz f K vs H Q E->vs.length=[x].length:=λvs H Q E h=>by
 obtain⟨v,rfl,_⟩:=h
 rfl
def Bw{f:Int->Bool}{x:Str}:∀vs H Q E,sx f vs H Q E->vs.length=[x].length:=λvs H Q E h=>by
 obtain⟨v,rfl,_⟩:=h
 rfl
def Sg(n:Int):Prop:=0<=n/\n<=1114111/\¬(55296<=n/\n<=57343)/\¬(61184<=n/\n<=61439)
def h8(n:Int):dP (.int n)=true ↔ Sg n:=by
 unfold dP dF Sg;simp;lia
def cR(n:Int):e7:=if n<65536 then [n] else [55296+(n-65536)/1024,56320+(n-65536)%1024]
def ub(h:Bool)(m:Int):e7:=if h then [m/256,m%256] else [m%256,m/256]
def cT(h:Bool)(n:Int):e7:=(cR n).flatMap (ub h)
def gG(h:Bool):Str:=if h then "high" else "low"
def mq(h:Bool)(m:Int):(ub h m).length=2:=by unfold ub;cases h<;>rfl
def yV(n:Int):(cR n).length<=2:=by
 unfold cR;by_cases c:n<65536
 ·rw[Ww c];simp
 ·rw[Wv c];simp
def E2{n u:Int}(h:Sg n)(a:u∈cR n):0<=u/\u<65536:=by
 obtain⟨d,b,_,_⟩:=h;unfold cR at a;by_cases c:n<65536
 ·rw[Ww c]at a;simp at a;lia
 ·rw[Wv c]at a;simp at a;lia
def qe(h:Bool)(us:e7):(us.flatMap (ub h)).length=2*us.length:=by
 induction us with
 | nil=>rfl
 | cons a r ih=>rw[VT,Tq,mq,ih,TX];lia
def Jp(h:Bool)(n:Int):(cT h n).length<=4:=by
 unfold cT;rw[qe];have:=yV n;lia
def u2(h:Bool)(x y:Int):Int:=if h then x*256+y else y*256+x
def bV(h:Bool):e7->e7
 | x::y::r=>u2 h x y::bV h r
 | _=>[]
def gF:e7->Option Int
 | [u]=>if dP (.int u) then some u else none
 | [u,v]=>if (55296<=u/\u<56320)/\56320<=v/\v<=57343 then some (65536+((u-55296)*1024+(v-56320))) else none
 | _=>none
def ca(h:Bool)(r:e7):Option Int:=if r.length=2\/r.length=4 then gF (bV h r) else none
def oV(o:Option Int):V:=o.elim .non V.int
def gO(h:Bool):List (e7):=if h then [[],[0],[0,0],[220,0],[0,220,0]] else [[],[0],[220],[0,0],[0,220]]
def bj(r:e7):Prop:=∀b∈r,0<=b/\b<=255
def bj.app{r s:e7}(a:bj r)(b:bj s):bj (r++s):=λx hx=>by
 rcases TL.mp hx with h|h
 ·exact a x h
 ·exact b x h
def CI{h:Bool}{f:e7}(hf:f∈gO h):bj f:=by
 unfold gO at hf;cases h<;>simp at hf<;>rcases hf with rfl|rfl|rfl|rfl|rfl<;>intro x hx<;>simp at hx<;>lia
def CH{h:Bool}{f:e7}(hf:f∈gO h):f.length<=3:=by
 unfold gO at hf;cases h<;>simp at hf<;>rcases hf with rfl|rfl|rfl|rfl|rfl<;>decide
def lb(f:Int):Int:=if f<128 then 1 else if f<194\/244<f then 0 else if f<224 then 2 else if f<240 then 3 else 4
def eQ(f:Int):Int:=if f=224 then 160 else if f=240 then 144 else 128
def eR(f:Int):Int:=if f=237 then 159 else if f=238 then 187 else if f=244 then 143 else 191
def cM(f:Int)(p:Nat):Int:=if p=1 then eQ f else 128
def dD(f:Int)(p:Nat):Int:=if p=1 then eR f else 191
def iZ(f:Int)(r:e7):Prop:=∀i x,r[i]? = some x->cM f (i+1)<=x/\x<=dD f (i+1)
def iD(f:Int)(r:e7):Prop:=(r.length:Int)+1<=lb f/\iZ f r
def i6:e7->Prop
 | []=>True
 | f::r=>iD f r
def dQ:e7->Prop
 | []=>False
 | f::r=>iD f r/\(r.length:Int)+1=lb f
def ir:e7->e7
 | []=>[0]
 | f::r=>(List.range (lb f-((r.length:Int)+1)).toNat).map λi=>cM f (r.length+1+i)
def mY(f:Int):0<=lb f/\lb f<=4:=by unfold lb;repeat' split<;>lia
def Bt(f:Int)(p:Nat):128<=cM f p:=by unfold cM eQ;repeat' split<;>lia
def ME(f:Int)(p:Nat):dD f p<=191:=by unfold dD eR;repeat' split<;>lia
def LQ(f:Int)(p:Nat):cM f p<=dD f p:=by
 unfold cM dD eQ eR
 repeat' split<;>lia
def EW{a:e7}(h:i6 a):dQ (a++ir a):=by
 cases a with
 | nil=>exact⟨⟨by decide,λi x z=>by cases z⟩,by decide⟩
 | cons f r =>
  have j:=mY f;obtain⟨g,b⟩:iD f r:=h;have d:((r++ir (f::r)).length:Int)=lb f-1:=by
   rw[Tq,ir,To,Uk];lia
  show dQ (f::(r++ir (f::r)));refine⟨⟨by lia,λi x z=>?_⟩,by lia⟩;by_cases c:i<r.length
  ·rw[UH c]at z;exact b i x z
  ·rw[UG (by lia),ir,Tv]at z;by_cases c2:i-r.length<(lb f-((r.length:Int)+1)).toNat
   ·rw[U8 c2]at z;cases z;have e:r.length+1+(i-r.length)=i+1:=by lia
    show cM f (i+1)<=cM f (r.length+1+(i-r.length))/\cM f (r.length+1+(i-r.length))<=dD f (i+1);rw[e];exact⟨Int.le_refl _,LQ _ _⟩
   ·rw[Uz (by rw[Uk];lia)]at z;cases z
def ni(f:Int)(r:e7):iZ f r ↔ (∀x∈r,128<=x/\x<=191)/\∀x,r[0]? = some x->eQ f<=x/\x<=eR f:=by
 constructor
 ·intro h;refine⟨λx hx=>?_,λx hx=>?_⟩
  ·obtain⟨i,c⟩:=Wk hx;have:=h i x c;have b:=Bt f (i+1);have a:=ME f (i+1);lia
  ·have:=h 0 x hx;simpa [cM,dD] using this
 ·rintro⟨b,a⟩ i x hx;cases i with
  | zero=>simpa [cM,dD] using a x hx
  | succ i =>
   have:=b x (TY hx);simp only [cM,dD];rw[Wv (by lia),Wv (by lia)];exact this
def row(n:Int):e7:=if n<128 then [n] else if n<2048 then [192+n/64,128+n%64] else if n<65536 then [224+n/4096,128+n/64%64,128+n%64] else [240+n/262144,128+n/4096%64,128+n/64%64,128+n%64]
def Am(n:Int):1<=(row n).length/\(row n).length<=4:=by
 unfold row;by_cases c1:n<128
 ·rw[Ww c1];simp
 rw[Wv c1];by_cases c2:n<2048
 ·rw[Ww c2];simp
 rw[Wv c2];by_cases c3:n<65536
 ·rw[Ww c3];simp
 rw[Wv c3];simp
def cK{α β:Type}(R:α->β->Prop)(xs:List α)(a:List β):Prop:=xs.length=a.length/\∀(i:Nat) x y,xs[i]? = some x->a[i]? = some y->R x y
def cK.nil{α β:Type}{R:α->β->Prop}:cK R [] []:=⟨rfl,λi x y h=>by simp at h⟩
def cK.cons{α β:Type}{R:α->β->Prop}{x:α}{y:β}{xs:List α}{d:List β}(h:R x y)(t:cK R xs d):cK R (x::xs) (y::d):=⟨by simp[t.1],λi a b c hb=>by
 cases i with
 | zero=>simp at c hb;subst c hb;exact h
 | succ i=>exact t.2 i a b (by simpa using c) (by simpa using hb)⟩
def cK.imp{α β:Type}{R S:α->β->Prop}{xs:List α}{c:List β}(h:cK R xs c)(k:∀x y,R x y->S x y):cK S xs c:=⟨h.1,λi x y a b=>k x y (h.2 i x y a b)⟩
def cK.app{α β:Type}{R:α->β->Prop}{xs us:List α}{c vs:List β}(h:cK R xs c)(k:cK R us vs):cK R (xs++us) (c++vs):=by
 refine⟨by simp[h.1,k.1],λi x y a b=>?_⟩;by_cases hi:i<xs.length
 ·rw[UH hi]at a;rw[UH (by rw[<- h.1];exact hi)]at b;exact h.2 i x y a b
 ·rw[UG (by lia)]at a;rw[UG (by rw[<- h.1];lia),<- h.1]at b;exact k.2 _ x y a b
def cK.right{α β:Type}{R:α->β->Prop}{xs:List α}{a:List β}(h:cK R xs a){i:Nat}{x:α}(hx:xs[i]? = some x):∃y,a[i]? = some y/\R x y:=by
 have c:=(Tz.mp hx).1;have b:a[i]? = some (a[i]'(by rw[<- h.1];exact c)):=by simp
 exact⟨_,b,h.2 i x _ hx b⟩
def cK.left{α β:Type}{R:α->β->Prop}{xs:List α}{a:List β}(h:cK R xs a){i:Nat}{y:β}(b:a[i]? = some y):∃x,xs[i]? = some x/\R x y:=by
 have c:=(Tz.mp b).1;have hx:xs[i]? = some (xs[i]'(by rw[h.1];exact c)):=by simp
 exact⟨_,hx,h.2 i _ y hx b⟩
def Kp(a:Addr)(H b:Hp):Prop:=∀c u,c≠a->H c=some u->b c=some u
def Kp.trans{a:Addr}{H d b:Hp}(h:Kp a H d)(h':Kp a d b):Kp a H b:=λc u n e=>h' c u n (h c u n e)
def Kp.of{a:Addr}{H b:Hp}(h:am H b):Kp a H b:=λc u _ e=>h c u e
def Kp.upd{a:Addr}{H:Hp}{o:HO}:Kp a H (upd H a o):=λc u n e=>by rw[au n];exact e
end My
namespace My
open PySem L2
section
variable {P:Program}{w:World}{K:PySem.W.Frag}{mg:Str->Option Value}{base:Heap}{t:Adr}
def Gf:Sp:=λvs H Q _=>∃(n:Int) (b:Nat),vs=[.int n,.int (b:Int)]/\0<=n/\n<2 ^ b/\Q .non H
def Ng (T:Txt w K mg t):bz P w K mg base "check_room" 1 t.xU t.ve ["number", "bits"] Gf:=by
 refine⟨T.OH,T.Ek.kp,T.Rg,T.Ek.okQ Ho (λvs H Q E h=>by obtain⟨n,b,rfl,_⟩:=h;rfl) λ_ _ _ _ H vs Q E d h=>?_⟩;obtain⟨n,b,rfl,c,a,k⟩:=h;refine⟨_,(aj (aA (bG (ck (av c7 (aa 0) ag (aq _)) (cE (av eT (AA (K:=K) Z PySem.F.plainAttrs_int PySem.F.slot_int_bit_length PySem.F.type_int_bit_length Lz (aa 0)) (aa 1) (aq _))))) (aj jk) aF)),?_⟩;refine ak (λe=>Wx (Wz e) (by lia)) (λ_=>?_);refine⟨rfl,?_⟩;have hb:Builtin.Int.intBits n<=b:=intBits_le_iff.mpr (by
  have:(n.natAbs:Int)<((2 ^ b:Nat):Int):=by rw[Wl c,Int.natCast_pow];exact a
  exact Int.ofNat_lt.mp this)
 refine ak (λe=>Wx (Wz e) (by lia)) (λ_=>?_);exact k
def FT(K:PySem.W.Frag):Sp:=λvs H Q _=>∃(a:Addr) (ps:e7) (b:Nat),vs=[.ref a,.int (b:Int)]/\aE K H a (ps.map V.int)/\(∀p∈ps,0<=p/\p<2 ^ b)/\b<=1000/\ps.length<=1000/\Q (.int (cb b ps)) H
def tK (T:Txt w K mg t):bz P w K mg base "together" 2 t.xA t.uK ["parts", "bits"] (FT K):=by
 refine⟨T.Oc,T.D1.kp,T.QR,T.D1.okQ oR (λvs H Q E h=>by obtain⟨a,ps,b,rfl,_⟩:=h;rfl) λ_ _ _ _ H vs Q E s h=>?_⟩;obtain⟨a,ps,b,rfl,o,n,hb,C,k⟩:=h;refine⟨_,(ah (aM (i:=2) oR.nd Z (.inl Z) ag)
  (ah (eI PassesOwn.never rfl (fF (K:=K) rfl (aa 0)) (bn (i:=3) oR.nd rfl (.inl rfl)) (ah (eJ (aP (Ng T) s (ad (aa 3) (ad (aa 1) ae))))
  (aj (aM (i:=2) oR.nd rfl (.inl rfl) (aG (Te K) (aG Og (aa 2) (aa 1)) (aa 3))))))
  (aj (ap (aa 2))))),?_⟩
 refine dL a rfl ⟨_,o⟩ (l7 (K:=K) (a:=a) (xs:=ps.map V.int) (λi σ m=>m=H/\∃j,σ=[some (.ref a),some (.int b),some (.int (cb b (ps.take i))),j]) ⟨rfl,_,rfl⟩ (λi σ m _ z=>by rw[z.1];exact o) ?_ ?_)
 ·rintro i x σ y c ⟨rfl,j,rfl⟩;obtain⟨p,l,rfl⟩:∃p,ps[i]? = some p/\x=.int p:=by
   rw[Tv]at c;cases e:ps[i]? with
   | none=>rw[e]at c;cases c
   | some p=>rw[e]at c;cases c;exact⟨p,Z,Z⟩
  have d:=n p (TY l);refine yz p b Z d.1 d.2 ?_;have v:i<ps.length:=(Tz.mp l).1;have r:=FA (b:=b) (ps:=ps.take i) λq B=>n q (Um B);have f:Builtin.Int.intBits (cb b (ps.take i))<=b*(ps.take i).length:=intBits_le_iff.mpr (by
   have:((cb b (ps.take i)).natAbs:Int)<((2 ^ (b*(ps.take i).length):Nat):Int):=by rw[Wl r.1,Int.natCast_pow];exact r.2
   exact Int.ofNat_lt.mp this)
  have g:(ps.take i).length<=1000:=by rw[TyZ];lia
  have u:b*(ps.take i).length<=1000000:=Nat.mul_le_mul hb g;refine⟨⟨by lia,show ((Builtin.Int.intBits (cb b (ps.take i)):Nat):Int)+(b:Int)<=2 ^ 27 by lia⟩,?_⟩;refine⟨rfl,?_⟩;have e:ps.take (i+1)=ps.take i++[p]:=by rw[VQ,l];rfl
  rw[e,Fz];exact⟨_,Z⟩
 ·rintro σ y ⟨rfl,j,rfl⟩;rw[To,TK];exact k
def tM (T:Txt w K mg t):bz P w K mg base "is_number" 1 t.xM t.uV ["thing"] (mz jq K):=by
 refine⟨T.Ox,T.Ed.kp,T.Q8,T.Ed.okQ Hj pN λ_ _ _ _ H vs Q E d h=>?_⟩;obtain⟨v,rfl,c,k⟩:=h;refine⟨_,(aj (ap (gv (bq (Tf K) T.n_isinstance Uq (ad (aa 0) (ad (ig Z T.n_int Ul) ae))) (fX (sM (bq (Tf K) T.n_isinstance Uq (ad (aa 0) (ad (ig Z T.n_bool Wm) ae)))))))),?_⟩;obtain⟨ty,a,b⟩:=c.isInt;refine bo ty _ a b ?_;refine ak (λe=>?_) (λe=>?_)
 ·obtain⟨ty,a,b⟩:=c.isBl;refine bo ty _ a b ?_;exact cX k (by cases v<;>simp_all [jq,tD,BG])
 ·exact cX k (by cases v<;>simp_all [jq,tD])
def B2 (T:Txt w K mg t):bz P w K mg base "is_head" 1 t.xN t.uW ["number"] (sx λi=>decide (55296<=i) && decide (i<56320)):=by
 refine⟨T.Oy,T.Ee.kp,T.Q9,T.Ee.okQ Hk Bw λ_ _ _ _ H vs Q E b h=>?_⟩;obtain⟨i,rfl,k⟩:=h;refine⟨_,(aj (ap (jm dE c7 (de T.C6) (aa 0) (de T.wT)))),?_⟩;refine ak (λa=>?_) (λa=>?_)
 ·exact cX k (by simp at *;lia)
 ·exact cX k (by simp at *;lia)
def B1 (T:Txt w K mg t):bz P w K mg base "is_tail" 1 t.xI t.uR ["number"] (sx λi=>decide (56320<=i) && decide (i<=57343)):=by
 refine⟨T.Ot,T.D8.kp,T.Q4,T.D8.okQ Hf Bw λ_ _ _ _ H vs Q E b h=>?_⟩;obtain⟨i,rfl,k⟩:=h;refine⟨_,(aj (ap (jm dE dE (de T.wT) (aa 0) (de T.P8)))),?_⟩;refine ak (λa=>?_) (λa=>?_)
 ·exact cX k (by simp at *;lia)
 ·exact cX k (by simp at *;lia)
def M7 (T:Txt w K mg t):bz P w K mg base "is_seen_byte" 2 t.xK t.uT ["thing"] (mz (λv=>dF v 61184 61439) K):=by
 refine⟨T.Ov,T.Ea.kp,T.Q6,T.Ea.okQ Hh pN λ_ _ _ _ H vs Q E a h=>?_⟩;obtain⟨v,rfl,c,k⟩:=h;refine⟨_,(aj (ap (gv (aP (tM T) a (ad (aa 0) ae)) (fX (jm dE dE (de T.Qe) (aa 0) (de T.Qa)))))),?_⟩;refine dL v Z c ?_;refine ak (λe=>?_) (λe=>?_)
 ·obtain⟨i,rfl⟩:=tz e;refine ak (λb=>?_) (λb=>?_)
  ·exact cX k (by simp[dF]at *;lia)
  ·exact cX k (by simp[dF]at *;lia)
 ·exact cX k (by cases v<;>simp_all [jq,dF])
def tL (T:Txt w K mg t):bz P w K mg base "is_sign" 3 t.xJ t.uS ["thing"] (mz dP K):=by
 refine⟨T.Ou,T.D9.kp,T.Q5,T.D9.okQ Hg pN λ_ _ _ _ H vs Q E a h=>?_⟩;obtain⟨v,rfl,b,k⟩:=h;refine⟨_,(ah (aA (bG (ck (dM (dH (aP (tM T) a (ad (aa 0) ae)))) (cE (dM (mN dE dE ag (aa 0) (de T.P9)))))) (aj (ap fG)) aF)
  (aj (ap (sM (oY (aP (B2 T) a (ad (aa 0) ae)) (oY (aP (B1 T) a (ad (aa 0) ae)) (fX (aP (M7 T) a (ad (aa 0) ae))))))))),?_⟩
 refine dL v Z b ?_;refine ak (λe=>?_) (λe=>?_)
 ·refine iN ?_;exact cX k (by cases v<;>simp_all [jq,dF,dP])
 ·obtain⟨i,rfl⟩:=tz (v:=v) (by simpa using e);refine ak (λd=>?_) (λd=>?_)
  ·refine ak (λg=>?_) (λg=>?_)
   ·exact cX k (by simp[dP,dF]at *;lia)
   ·refine gl i Z ?_;refine ak (λf=>?_) (λf=>?_)
    ·exact cX k (by simp[dP,dF]at *;lia)
    ·refine gl i Z ?_;refine ak (λc=>?_) (λc=>?_)
     ·exact cX k (by simp[dP,dF]at *;lia)
     ·refine dS Z b ?_;exact cX k (by rw[UD];simp[dP,dF]at *;lia)
  ·refine iN ?_;exact cX k (by simp[dP,dF]at *;lia)
def FZ(K:PySem.W.Frag):Sp:=λvs H Q _=>∃(a:Addr) (us:e7),vs=[.ref a]/\aE K H a (us.map V.int)/\us.length<=2/\∀H',am H H'->Q (oV (gF us)) H'
theorem Fq:∀ {us:e7},us.length=2->∃u v,us=[u,v]
 | [u,v],_=>⟨u,v,rfl⟩
def FB(x y:Int):cb 10 [x,y]=x*1024+y:=by
 show (0*2 ^ 10+x)*2 ^ 10+y=_;have:(2:Int) ^ 10=1024:=by decide
 rw[this];lia
def M4 (T:Txt w K mg t):bz P w K mg base "sign_of" 4 t.xB t.uL ["units"] (FZ K):=by
 refine⟨T.Of,T.D2.kp,T.QU,T.D2.okQ Hd (λvs H Q E h=>by obtain⟨a,us,rfl,_⟩:=h;rfl) λ_ _ _ _ H vs Q E i h=>?_⟩;obtain⟨a,us,rfl,d,G,k⟩:=h;have s:=i.units;obtain⟨o,g⟩:∃o,o=gF us:=⟨_,rfl⟩;rw[<- g]at k;obtain⟨L,eL⟩:∃L:Int,L=((us.map V.int).length:Int):=⟨_,rfl⟩;have eL2:L=(us.length:Int):=by rw[eL,To]
 refine⟨_,(ah (aA (bG (eG (av (bi (K:=K) Z s) (bq (Th K) T.n_len Tw (ad (aa 0) ae)) ag (aq _)) (fD (dH (aP (tL T) i (ad (aB (Ti K) (aa 0) ag (λ_ _=>rfl)) ae)))))) (aj (ap (aB (Ti K) (aa 0) ag (λ_ _=>rfl)))) aF)
  (ah (aA (bG (eG (av (bi (K:=K) rfl s) (bq (Th K) T.n_len Tw (ad (aa 0) ae)) ag (aq _)) (eG (dH (aP (B2 T) i (ad (aB (Ti K) (aa 0) ag (λ_ _=>rfl)) ae))) (fD (dH (aP (B1 T) i (ad (aB (Ti K) (aa 0) ag (λ_ _=>rfl)) ae))))))) (aj (ap (aG (Te K) (de T.Qd) (aP (tK T) i (ad (bh (ad (aG dw (aB (Ti K) (aa 0) ag (λ_ _=>rfl)) (de T.C6)) (ad (aG dw (aB (Ti K) (aa 0) ag (λ_ _=>rfl)) (de T.wT)) ae))) (ad (de T.Qc) ae)))))) aF)
  (aj (ap bD)))),?_⟩
 have l:∀ {m:Prop} {p:Prop} {b:Bool},(b=true->m)->(b=false->p)->if b=true then m else p:=λ{m p b} x y=>by
  cases b with
  | true=>exact x rfl
  | false=>exact y rfl
 refine bc (.inl d) ?_;rw[<- eL];refine ak (λe=>?_) (λe=>?_)
 ·have e:L=1:=Wz e;obtain⟨u,rfl⟩:∃u,us=[u]:=List.length_eq_one_iff.mp (by lia);refine bo _ (.int u) (.inl d) (aH (j:=0) Z) ?_;refine dL (.int u) Z (.int u) ?_;refine ak (λf=>?_) (λf=>?_)
  ·refine bo _ (.int u) (.inl d) (aH (j:=0) Z) ?_;have es:o=some u:=g.trans (Ww f);subst es;exact k _ (am.refl _)
  ·have es:o=none:=g.trans (Wv f);subst es;refine bc (.inl d) ?_;rw[<- eL];refine ak (λc=>Wx (Wz c) (by lia)) (λ_=>?_);exact k _ (am.refl _)
 have e:¬L=1:=λz=>e (WA z);refine bc (.inl d) ?_;rw[<- eL];refine ak (λc=>?_) (λc=>?_)
 ·have c:L=2:=Wz c;obtain⟨u,v,rfl⟩:∃u v,us=[u,v]:=Fq (by lia);refine bo _ (.int u) (.inl d) (aH (j:=0) Z) ?_;refine gl u Z ?_;refine ak (λf=>?_) (λf=>?_)
  ·simp only [T7,decide_eq_true_eq]at f;refine bo _ (.int v) (.inl d) (aH (j:=1) Z) ?_;refine gl v Z ?_;refine ak (λc=>?_) (λc=>?_)
   ·simp only [T7,decide_eq_true_eq]at c;have es:o=some (65536+((u-55296)*1024+(v-56320))):=g.trans (Ww ⟨f,c⟩);subst es;refine bo _ (.int u) (.inl d) (aH (j:=0) Z) ?_;refine bo _ (.int v) (.inl d) (aH (j:=1) Z) ?_;refine⟨sz Z,λC F q=>?_⟩;have B:=FB (u-55296) (v-56320);have r:aE K F C (([u-55296,v-56320]:e7).map V.int):=q.lst;obtain⟨ps,n⟩:∃ps:e7,ps=[u-55296,v-56320]:=⟨_,rfl⟩;rw[<- n]at r B;have D:(2:Int) ^ 10=1024:=by decide
    refine⟨C,ps,10,rfl,r,?_,by decide,by rw[n];simp,?_⟩
    ·intro x hx;rw[n]at hx;simp at hx;rcases hx with rfl|rfl<;>lia
    ·rw[B];exact k _ q.sm
   ·have es:o=none:=g.trans (Wv λz=>c (by simp;exact z.2));subst es;exact k _ (am.refl _)
  ·have es:o=none:=g.trans (Wv λz=>f (by simp;exact z.1));subst es;exact k _ (am.refl _)
 ·have c:¬L=2:=λz=>c (WA z);have z0:us=[]:=List.length_eq_zero_iff.mp (by lia);subst z0;subst g;exact k _ (am.refl _)
def Po(t:Adr)(H:Hp)(o:Addr)(h:Bool):Prop:=∃dx,H o=some (.ins t.dj dx [("order",.str (gG h))])
def Po.mono{H a:Hp}{o:Addr}{h:Bool}(p:Po t H o h)(s:am H a):Po t a o h:=let ⟨dx,z⟩:=p;⟨dx,s _ _ z⟩
def zG(t:Adr):Sp:=λvs H Q _=>∃(x dx:Addr) (h:Bool),vs=[.ref x,.str (gG h)]/\H x=some (.ins t.dj dx [])/\Q .non (upd H x (.ins t.dj dx [("order",.str (gG h))]))
def Ks (T:Txt w K mg t):bL P w K mg base bY 1 t.ro t.nH ["self", "order"] (zG t):=by
 refine T.Sy.okQ HM (λvs H Q E h=>by obtain⟨x,dx,v,rfl,_⟩:=h;rfl) λ_ _ _ _ H vs Q E a h=>?_;obtain⟨x,dx,h,rfl,hx,k⟩:=h;refine⟨_,(ah (aA (bG (ck (dM (dH (bq (Tf K) T.n_isinstance Uq (ad (aa 1) (ad (ig rfl T.n_str PyProof.Rows.boot_str) ae))))) (cE (av (Ol (K:=K) rfl rfl T.CU) (aa 1) (jl (v:=.ref t.yl) rfl T.C7 rfl) (by with_unfolding_all rfl))))) (aj jk) aF)
  (aj (dN (K:=K) rfl (aa 0) (aa 1)))),?_⟩
 refine aY (.str _) (by with_unfolding_all rfl) ?_;refine dS Z Z ?_;refine ak (λe=>Wx e (by cases h<;>simp[hG,gG])) (λ_=>?_);exact⟨x,_,dx,_,rfl,hx,T.iw,T.sV,by decide,k⟩
def MB (T:Txt w K mg t):oo P w K mg base "PairTongue" t.dj 1 t.ro t.nH ["self", "order"] [] (zG t):=⟨T.NK,T.Ls,⟨[],T.RL,.nil⟩,Ks T⟩
def Na (T:Txt w K mg t):bz P w K mg base "is_byte" 2 t.xP t.uY ["thing"] (mz (λv=>dF v 0 255) K):=by
 refine⟨T.OA,T.Eg.kp,T.Rb,T.Eg.okQ Hm pN λ_ _ _ _ H vs Q E a h=>?_⟩;obtain⟨v,rfl,c,k⟩:=h;refine⟨_,(aj (ap (gv (aP (tM T) a (ad (aa 0) ae)) (fX (jm dE dE ag (aa 0) (de T.Qb)))))),?_⟩;refine dL v Z c ?_;refine ak (λe=>?_) (λe=>?_)
 ·obtain⟨i,rfl⟩:=tz e;refine ak (λb=>?_) (λb=>?_)
  ·exact cX k (by simp[dF]at *;lia)
  ·exact cX k (by simp[dF]at *;lia)
 ·exact cX k (by cases v<;>simp_all [jq,dF])
def FS(t:Adr):Sp:=λvs H Q _=>∃(o a:Addr) (h:Bool) (x y:Int),vs=[.ref o,.ref a]/\Po t H o h/\H a=some (.lst [.int x,.int y])/\∀p H',am H H'->H' p=some (.lst ((if h then [x,y] else [y,x]).map V.int))->Q (.ref p) H'
def Nw (T:Txt w K mg t):dz P w K mg base t.dj "turned" 1 t.yk t.vC ["self", "pair"] (FS t):=by
 refine⟨T.iw,T.Li,T.RK,T.Sx.okQ HL (λvs H Q E h=>by obtain⟨o,a,h,x,y,rfl,_⟩:=h;rfl) λ_ _ _ _ H vs Q E c h=>?_⟩;obtain⟨o,a,h,x,y,rfl,⟨dx,ho⟩,b,k⟩:=h;have d:=c.units;refine⟨_,(aj (ap (ie (av (bi (K:=K) Z d) (aT (K:=K) Z (aa 0)) aW (aq _)) (aa 1) (bh (ad (aB (Ti K) (aa 1) ag (λ_ _=>rfl)) (ad (aB (Ti K) (aa 1) ag (λ_ _=>rfl)) ae)))))),?_⟩;refine bZ o _ dx _ _ Z ho T.iw T.sV Z ?_;cases h with
 | true =>
  refine ez ?_;refine ak (λ_=>?_) (λe=>Wx (by decide +kernel) e);exact k _ _ (am.refl _) b
 | false =>
  refine ez ?_;refine ak (λe=>Wx e (by decide +kernel)) (λ_=>?_);refine bo _ (.int y) (.inl (.of b)) (aH (j:=1) Z) ?_;refine bo _ (.int x) (.inl (.of b)) (aH (j:=0) Z) ?_;exact⟨sz Z,λp f g=>k _ _ g.sm g.at_⟩
def FQ(K:PySem.W.Frag)(t:Adr):Sp:=λvs H Q _=>∃(o a:Addr) (h:Bool) (r:e7),vs=[.ref o,.ref a]/\Po t H o h/\aE K H a (r.map V.int)/\(r.length=2\/r.length=4)/\bj r/\∀p H',bA H p (.lst ((bV h r).map V.int)) H'->Q (.ref p) H'
def Nv (T:Txt w K mg t):dz P w K mg base t.dj "units_in" 3 t.yi t.vA ["self", "row"] (FQ K t):=by
 refine⟨T.iw,T.Lg,T.RI,T.Sv.okQ HJ (λvs H Q E h=>by obtain⟨o,a,h,r,rfl,_⟩:=h;rfl) λ_ _ _ _ H vs Q E f h=>?_⟩;obtain⟨o,a,h,r,rfl,po,j,g,hb,k⟩:=h;have W:=f.units;refine⟨_,(aj (ap (gp rfl (dn.of (fns:=(ao ji).names) (N:=["self", "row"]) (Nc:=["at", "self", "row"]) (nv:=1) (caps:=[0,1]) rfl rfl (by decide +kernel)) (Ay rfl T.n_range (ad ag (ad (bq (Th K) T.n_len Tw (ad (aa 1) ae)) (ad ag ae)))) (λ_ _ _ _=>(bn (i:=0) (show List.Nodup (["at", "self", "row"]:List Str) by decide +kernel) rfl (Or.inl rfl) (Or.inr rfl))) (λ_ _ _ _=>fW) (λ_ _ _ _=>(aP (tK T) f (ad (fH (Nw T) f (aa 1) (ad (dO (Tj K) (aa 2) (da (aa 0)) (da (aG (Te K) (aa 0) ag))) ae)) (ad (de T.Qf) ae))))))),?_⟩;refine bc (.inl j) ?_;refine⟨r.length,2,by rw[To];rfl,by lia,by decide,by decide,?_⟩;have G:(bV h r).length=(r.length+(2-1))/2:=by
  rcases g with l|l
  ·obtain⟨x,y,rfl⟩:=lT l;simp[bV]
  ·obtain⟨x,y,z,v,rfl⟩:=mX l;simp[bV]
 refine Pz (cs:=[some (.ref o),some (.ref a)]) ((bV h r).map V.int) (by rw[To,G]) (cD (by lia)) (λi y Y N m e p hN=>?_) k;obtain⟨b,c,J,s,B,rfl⟩:∃b c,fM r (some ((0:Int)+(i:Int)*((2:Nat):Int))) (some ((0:Int)+(i:Int)*((2:Nat):Int)+2))=[b,c]/\b∈r/\c∈r/\y=.int (u2 h b c):=by
  rcases g with l|l
  ·obtain⟨x,z,rfl⟩:=lT l;have:i=0:=by simp at m;lia
   subst this;cases e;exact⟨x,z,rfl,by simp,by simp,rfl⟩
  ·obtain⟨x,z,v,u,rfl⟩:=mX l;have:i=0\/i=1:=by simp at m;lia
   rcases this with rfl|rfl
   ·cases e;exact⟨x,z,rfl,by simp,by simp,rfl⟩
   ·cases e;exact⟨v,u,rfl,by simp,by simp,rfl⟩
 obtain⟨dx,ho⟩:=po.mono p;refine cz o dx _ Z ho Z ?_;refine⟨_,Z,_,Z,_,p.seq j,λF O d=>?_⟩;rw[gP,J]at d;refine⟨o,F,h,b,c,Z,⟨dx,d.sm _ _ ho⟩,d.at_,λI S D C=>?_⟩;have M:=hb b s;have R:=hb c B;have U:(2:Int) ^ 8=256:=by decide
 refine⟨I,if h then [b,c] else [c,b],8,rfl,.of C,?_,by decide,by cases h<;>simp,?_⟩
 ·intro q n;cases h<;>simp at n<;>rcases n with rfl|rfl<;>lia
 ·have L:cb 8 (if h then [b,c] else [c,b])=u2 h b c:=by cases h<;>simp[cb,u2]
  rw[L];exact hN _ (d.sm.trans D)
theorem E1(h:Bool):∀r:e7,r.length=2\/r.length=4->(bV h r).length<=2
 | [_,_],_=>by simp[bV]
 | [_,_,_,_],_=>by simp[bV]
def zA(K:PySem.W.Frag)(t:Adr):Sp:=λvs H Q _=>∃(o a:Addr) (h:Bool) (r:e7),vs=[.ref o,.ref a,.int 0]/\Po t H o h/\aE K H a (r.map V.int)/\bj r/\r.length<=1000/\(∀n,ca h r=some n->∀p H',bA H p (.tup [.int n,.int 0]) H'->Q (.ref p) H')/\(ca h r=none->∀H',am H H'->Q .non H')
def Km (T:Txt w K mg t):bL P w K mg base bY 5 t.rn t.nG ["self", "row", "page"] (zA K t):=by
 refine T.Su.okQ Af (λvs H Q E h=>by obtain⟨o,a,h,r,rfl,_⟩:=h;rfl) λ_ _ _ _ H vs Q E d h=>?_;obtain⟨o,a,h,r,rfl,po,g,hb,B,k1,k2⟩:=h;have x:=d.units;refine⟨_,(ah (aA (av (pZ (K:=K) rfl) (bq (Th K) T.n_len Tw (ad (aa 1) ae)) (bS (ad ag (ad ag ae))) (by with_unfolding_all rfl)) (aj (ap bD)) aF)
  (ah (aM (i:=3) Af.nd rfl (.inl rfl) (aP (M4 T) d (ad (fH (Nv T) d (aa 0) (ad (aa 1) ae)) ae)))
  (aj (ap (ie (av gN (aa 3) bD (aq _)) bD (bS (ad (aa 3) (ad (aa 2) ae)))))))),?_⟩
 refine bc (.inl g) ?_;refine⟨sz Z,λv z b=>?_⟩;refine gk (.inr b.tup) Z Z ?_;have j:bB (.int ((r.map V.int).length:Int)) [V.int 2,V.int 4]=decide (r.length=2\/r.length=4):=by
  rw[To,UD];simp[bB,di];lia
 refine ak (λe=>?_) (λe=>?_)
 ·have e:(!bB (.int ((r.map V.int).length:Int)) [V.int 2,V.int 4])=true:=e;rw[j]at e;have c:¬(r.length=2\/r.length=4):=by simpa using e
  exact k2 (Wv c) _ b.sm
 have e:¬(!bB (.int ((r.map V.int).length:Int)) [V.int 2,V.int 4])=true:=e;rw[j]at e;have c:r.length=2\/r.length=4:=by simp at e;lia
 have m:ca h r=gF (bV h r):=Ww c;obtain⟨dx,ho⟩:=po.mono b.sm;refine cz o dx _ Z ho Z ?_;refine dB o a h r Z ⟨dx,ho⟩ (b.sm.seq g) c hb (λk y f=>?_);refine⟨k,bV h r,Z,f.lst,E1 h r c,λu q=>?_⟩;have sA:=b.sm.trans (f.sm.trans q);rw[m]at k1 k2;cases es:gF (bV h r) with
 | none=>exact k2 es _ sA
 | some n=>exact⟨sz rfl,λp l s=>k1 n es p l (s.after sA)⟩
def Cf (T:Txt w K mg t):eY P w K mg base t.dj "whole" 5 t.rn t.nG ["self", "row", "page"] [] (zA K t) :=
 ⟨T.iw,T.Lf,⟨_,T.RH,.nil⟩,Km T⟩
def cB(h:Bool)(r:e7):Option (e7):=(gO h).find? λf=>(ca h (r++f)).isSome
def zL(K:PySem.W.Frag)(t:Adr):Sp:=λvs H Q _=>∃(o a:Addr) (h:Bool) (r:e7),vs=[.ref o,.ref a,.int 0]/\Po t H o h/\aE K H a (r.map V.int)/\bj r/\r.length<=900/\(∀f,cB h r=some f->∀p H',bA H p (.lst (f.map V.int)) H'->Q (.ref p) H')/\(cB h r=none->∀H',am H H'->Q .non H')
def qp(t:Adr)(h:Bool):List Addr:=if h then [t.a_FILLS_0_0,t.a_FILLS_0_1,t.a_FILLS_0_2,t.a_FILLS_0_3,t.a_FILLS_0_4] else [t.a_FILLS_1_0,t.a_FILLS_1_1,t.a_FILLS_1_2,t.a_FILLS_1_3,t.a_FILLS_1_4]
def O6(T:Txt w K mg t)(h:Bool){i:Nat}{x:V}(hx:((qp t h).map V.ref)[i]? = some x):∃b f,x=.ref b/\(gO h)[i]? = some f/\∀H,bv K H b (f.map V.int):=by
 cases h with
 | true =>
  match i,hx with
  | 0,hx=>cases hx;exact⟨_,_,Z,Z,T.q_FILLS_0_0⟩
  | 1,hx=>cases hx;exact⟨_,_,Z,Z,T.q_FILLS_0_1⟩
  | 2,hx=>cases hx;exact⟨_,_,Z,Z,T.q_FILLS_0_2⟩
  | 3,hx=>cases hx;exact⟨_,_,Z,Z,T.q_FILLS_0_3⟩
  | 4,hx=>cases hx;exact⟨_,_,Z,Z,T.q_FILLS_0_4⟩
 | false =>
  match i,hx with
  | 0,hx=>cases hx;exact⟨_,_,Z,Z,T.q_FILLS_1_0⟩
  | 1,hx=>cases hx;exact⟨_,_,Z,Z,T.q_FILLS_1_1⟩
  | 2,hx=>cases hx;exact⟨_,_,Z,Z,T.q_FILLS_1_2⟩
  | 3,hx=>cases hx;exact⟨_,_,Z,Z,T.q_FILLS_1_3⟩
  | 4,hx=>cases hx;exact⟨_,_,Z,Z,T.q_FILLS_1_4⟩
theorem CG{α:Type}{p:α->Bool}:∀ {l:List α} {i:Nat} {f:α},l[i]? = some f->(∀g∈l.take i,p g=false)->p f=true->l.find? p=some f
 | a::r,0,f,h,_,hp=>by cases h;rw[Ug,hp]
 | a::r,i+1,f,h,hn,hp=>by
  rw[Ug,hn a (by simp)];exact CG (l:=r) (i:=i) h (λg b=>hn g (by simp[b])) hp
def Kx (T:Txt w K mg t):bL P w K mg base bY 6 t.rq t.nI ["self", "row", "page"] (zL K t):=by
 refine T.Sz.okQ Ag (λvs H Q E h=>by obtain⟨o,a,h,r,rfl,_⟩:=h;rfl) λ_ _ _ _ H vs Q E s h=>?_;obtain⟨o,a,h,r,rfl,po,I,hb,R,k1,k2⟩:=h;have hu:=s.units;refine⟨_,(ah (eI PassesOwn.never Z (IC (K:=K) Z (IK (K:=K) Z Z T.CU Z T.C7 (aT (K:=K) Z (aa 0)))) (bn (i:=3) Ag.nd Z (.inl Z)) (aj (aA (av js (db (Cf T) s (aa 0) (ad (aG (Te K) (aa 1) (cr (Tk K) T.n_list T5 (ad (aa 3) ae))) (ad (aa 2) ae))) bD (aq _)) (aj (ap (cr (Tk K) T.n_list T5 (ad (aa 3) ae)))) aF)))
  (aj (ap bD))),?_⟩
 obtain⟨dx,ho⟩:=id po;refine bZ o _ dx _ _ Z ho T.iw T.sV Z ?_;obtain⟨F,eF,qF⟩:∃F,hG [(t.h_FILLS_0, "high",t.a_FILLS_0),(t.h_FILLS_1, "low",t.a_FILLS_1)] (gG h)=some F/\∀H,bv K H F ((qp t h).map V.ref):=by
  cases h with
  | true=>exact⟨_,by simp[hG,gG],T.q_FILLS_0⟩
  | false=>exact⟨t.a_FILLS_1,by simp[hG,gG,show ¬(("high" : Str) = "low") by decide],T.q_FILLS_1⟩
 refine bo _ F Z eF ?_;have eL:((qp t h).map V.ref).length=(gO h).length:=by cases h<;>rfl
 refine dS rfl ⟨_,qF _⟩ (OS (K:=K) (a:=F) (xs:=(qp t h).map V.ref) (λi σ p=>am H p/\(∀g∈(gO h).take i,(ca h (r++g)).isSome=false)/\∃j,σ=[some (.ref o),some (.ref a),some (.int 0),j]) ⟨am.refl _,λg z=>by simp at z,_,rfl⟩ (λi σ p _ z=>qF _) ?_ ?_)
 ·rintro i x σ O hx ⟨e,d,j,rfl⟩;obtain⟨b,f,rfl,hf,m⟩:=O6 T h hx;have q:=TY hf;have J:=CH q;refine cz o dx _ Z (e _ _ ho) Z ?_;refine bc (.inr (m _)) (λY S v=>?_);have u:=e.trans v.sm;refine fU (u.seq I) v.lst (cD (by rw[To,To];lia)) (λN W l=>?_);rw[<- TZ]at l;have k:=u.trans l.sm;refine⟨o,N,h,r++f,rfl,⟨dx,k _ _ ho⟩,l.lst,hb.app (CI q),by rw[Tq];lia,λn hw U y B=>?_,λhw y D=>?_⟩
  ·have G:cB h r=some f:=CG hf d (by rw[hw];rfl);exact⟨_,.inr (m _),λC M L=>k1 f G C M (L.after (k.trans B.sm))⟩
  ·refine⟨k.trans D,λg c=>?_,_,Z⟩;rw[VQ,hf]at c;rcases TL.mp c with c|c
   ·exact d g c
   ·have:g=f:=by simpa using c
    rw[this,hw];rfl
 ·rintro σ O ⟨e,d,j,rfl⟩;rw[eL,TK]at d;exact k2 (Ue.mpr λg c=>by rw[d g c];simp) _ e
def Ch (T:Txt w K mg t):eY P w K mg base t.dj "fill" 6 t.rq t.nI ["self", "row", "page"] [] (zL K t) :=
 ⟨T.iw,T.Lj,⟨_,T.RM,.nil⟩,Kx T⟩
def oF(h:Bool)(m:Int)(r:e7):bV h (ub h m++r)=m::bV h r:=by
 have e:m/256*256+m%256=m:=by lia
 cases h
 ·show u2 false (m%256) (m/256)::bV false r=_;unfold u2;rw[Wv (by simp),e]
 ·show u2 true (m/256) (m%256)::bV true r=_;unfold u2;rw[Ww rfl,e]
theorem yW(h:Bool):∀us:e7,bV h (us.flatMap (ub h))=us
 | []=>rfl
 | a::r=>by rw[VT,oF,yW h r]
def o0(h:Bool)(n:Int):(cT h n).length=if n<65536 then 2 else 4:=by
 unfold cT cR;by_cases c:n<65536
 ·rw[Ww c,Ww c,qe];rfl
 ·rw[Wv c,Wv c,qe];rfl
def GW{n:Int}(hs:Sg n):gF (cR n)=some n:=by
 have a:=hs;obtain⟨f,d,b,g⟩:=a;unfold cR;by_cases c:n<65536
 ·rw[Ww c];exact Ww ((h8 n).mpr hs)
 ·rw[Wv c];have e:65536+((55296+(n-65536)/1024-55296)*1024+(56320+(n-65536)%1024-56320))=n:=by lia
  refine (Ww (by lia)).trans ?_;rw[e]
def EV(h:Bool){n:Int}(hs:Sg n):ca h (cT h n)=some n:=by
 have e:=o0 h n;unfold ca;rw[Ww (by rw[e];by_cases c:n<65536<;>simp[c])];unfold cT;rw[yW,GW hs]
def E5(h:Bool){u:Int}(a:0<=u/\u<65536):bj (ub h u):=by
 intro b hb;unfold ub at hb;cases h<;>simp at hb<;>lia
def Jq(h:Bool){n:Int}(hs:Sg n):bj (cT h n):=by
 intro b hb;unfold cT at hb;obtain⟨u,a,hb⟩:=List.mem_flatMap.mp hb;exact E5 h (E2 hs a) b hb
def Jo(h:Bool){n:Int}(hs:Sg n)(c:¬n<65536):∃u,(cT h n).take 2=ub h u/\55296<=u/\u<56320:=by
 obtain⟨d,b,a,e⟩:=hs;refine⟨55296+(n-65536)/1024,?_,by lia,by lia⟩;unfold cT cR;rw[Wv c,VT];have:=mq h (55296+(n-65536)/1024);rw[<- this,U9]
def MF(h:Bool){u:Int}(b:55296<=u)(a:u<56320):ca h (ub h u)=none:=by
 unfold ca;rw[Ww (.inl (mq h u))];have e:=oF h u [];rw[TD]at e;rw[e];refine Wv λz=>?_;have z:=(h8 u).mp z;unfold Sg at z;lia
def BQ(h:Bool){u:Int}(c:55296<=u)(b:u<56320):cB h (ub h u)≠none:=by
 intro z;have z:=Ue.mp z;have a:bV h (ub h u++ub h 56320)=[u,56320]:=by
  have:=oF h 56320 [];rw[TD]at this;rw[oF,this];rfl
 have m:ub h 56320∈gO h:=by cases h<;>decide
 refine z _ m ?_;unfold ca;rw[Ww (.inr (by rw[Tq,mq,mq])),a];have:gF [u,56320]=some (65536+((u-55296)*1024+(56320-56320))):=Ww (by lia);rw[this]
 rfl
def Pw(f:Int)(r:e7):d7 ((f::r).map V.int) (some 1) none=r.map V.int:=by
 rw[gP]
 congr 1
 exact nS (f::r) 1
def Gx:Sp:=λvs H Q _=>∃f,vs=[.int f]/\Q (.int (lb f)) H
def M5 (T:Txt w K mg t):bz P w K mg base "length_behind" 1 t.xG t.uQ ["first"] Gx:=by
 refine⟨T.Oq,T.D7.kp,T.Q0,T.D7.okQ He (λvs H Q E h=>by obtain⟨f,rfl,_⟩:=h;rfl) λ_ _ _ _ H vs Q E i h=>?_⟩;obtain⟨f,rfl,k⟩:=h;have j:=i.units;refine⟨_,(ah (aA (av c7 (aa 0) ag (aq _)) (aj (ap ag)) aF)
  (ah (aA (bG (ck (av c7 (aa 0) ag (aq _)) (cE (av eT (aa 0) ag (aq _))))) (aj (ap ag)) aF)
  (ah (aA (av c7 (aa 0) ag (aq _)) (aj (ap ag)) aF)
  (ah (aA (av c7 (aa 0) ag (aq _)) (aj (ap ag)) aF)
  (aj (ap ag)))))),?_⟩
 have a:∀ {n:Int},n=lb f->Q (.int n) H:=λe=>e ▸ k;refine ak (λe=>a ?_) (λe=>?_)
 ·simp at e;unfold lb;rw[Ww (by lia)]
 refine ak (λb=>?_) (λb=>?_)
 ·exact a (by simp at e b;unfold lb;rw[Wv (by lia),Ww (by lia)])
 refine ak (λc=>?_) (λc=>?_)
 ·exact a (by simp at e b c;unfold lb;rw[Wv (by lia),Ww (by lia)])
 refine ak (λd=>?_) (λd=>?_)
 ·exact a (by simp at e b c d;unfold lb;rw[Wv (by lia),Wv (by lia),Ww (by lia)])
 refine ak (λg=>?_) (λg=>?_)
 ·exact a (by simp at e b c d g;unfold lb;rw[Wv (by lia),Wv (by lia),Wv (by lia),Ww (by lia)])
 ·exact a (by simp at e b c d g;unfold lb;rw[Wv (by lia),Wv (by lia),Wv (by lia),Wv (by lia)])
def GO(K:PySem.W.Frag):Sp:=λvs H Q _=>∃(a:Addr) (f:Int) (r:e7) (p:Nat),vs=[.ref a,.int (p:Int)]/\aE K H a ((f::r).map V.int)/\∀b H',am H H'->bv K H' b [.int (cM f p),.int (dD f p)]->Q (.ref b) H'
def B3 (T:Txt w K mg t):bz P w K mg base "bounds_behind" 1 t.xW t.vg ["row", "place"] (GO K):=by
 refine⟨T.OJ,T.Em.kp,T.Ri,T.Em.okQ Hs (λvs H Q E h=>by obtain⟨a,f,r,p,rfl,_⟩:=h;rfl) λ_ _ _ _ H vs Q E g h=>?_⟩;obtain⟨a,f,r,p,rfl,l,k⟩:=h;have i:=g.units;refine⟨_,(ah (aA (av (bi (K:=K) Z i) (aa 1) ag (aq _)) (aj (ap (IL (K:=K) Z T.Pq Z T.P3 (aB (Ti K) (aa 0) ag (λ_ _=>rfl)) (bS (ad (de T.wU) (ad (de T.C5) ae)))))) aF)
  (aj (ap (bS (ad (de T.wU) (ad (de T.C5) ae)))))),?_⟩
 refine ak (λe=>?_) (λe=>?_)
 ·have d:p=1:=by have:=Wz e;lia
  subst d;refine bo _ (.int f) (.inl l) (aH (j:=0) Z) ?_;refine⟨sz Z,λm c b=>?_⟩;refine gl f Z ?_;by_cases c1:f=224
  ·subst c1;exact k _ _ b.sm (T.q_SECONDS_0 c)
  by_cases c2:f=237
  ·subst c2;exact k _ _ b.sm (T.q_SECONDS_1 c)
  by_cases c3:f=238
  ·subst c3;exact k _ _ b.sm (T.q_SECONDS_2 c)
  by_cases c4:f=240
  ·subst c4;exact k _ _ b.sm (T.q_SECONDS_3 c)
  by_cases c5:f=244
  ·subst c5;exact k _ _ b.sm (T.q_SECONDS_4 c)
  have e:m4 [(224,t.a_SECONDS_0),(237,t.a_SECONDS_1),(238,t.a_SECONDS_2),(240,t.a_SECONDS_3),(244,t.a_SECONDS_4)] f=none:=by
   simp[m4,Ne.symm c1,Ne.symm c2,Ne.symm c3,Ne.symm c4,Ne.symm c5]
  rw[e];refine k _ _ b.sm ?_;rw[cM,dD,Ww rfl,Ww rfl,eQ,eR,Wv c1,Wv c4,Wv c2,Wv c3,Wv c5];exact b.tup
 ·refine⟨sz Z,λm c b=>?_⟩;have d:p≠1:=λz=>by subst z;exact e Z
  refine k _ _ b.sm ?_;rw[cM,dD,Wv d,Wv d];exact b.tup
def GD(K:PySem.W.Frag):Sp:=λvs H Q _=>∃(a:Addr) (f:Int) (r:e7),vs=[.ref a]/\aE K H a ((f::r).map V.int)/\r.length<=1000/\∀H',am H H'->(iZ f r->Q (.bl true) H')/\(¬iZ f r->Q (.bl false) H')
def Nb (T:Txt w K mg t):bz P w K mg base "fits_behind" 2 t.xQ t.uZ ["row"] (GD K):=by
 refine⟨T.OD,T.Eh.kp,T.Rc,T.Eh.okQ sB (λvs H Q E h=>by obtain⟨a,f,r,rfl,_⟩:=h;rfl) λ_ _ _ _ H vs Q E B h=>?_⟩;obtain⟨a,f,r,rfl,q,J,k⟩:=h;have M:=B.units;refine⟨_,(ah (eI PassesOwn.never Z (Az Z T.n_range (ad ag (ad (bq (Th K) T.n_len Tw (ad (aa 0) ae)) ae))) (bn (i:=1) sB.nd Z (.inl Z)) (ah (aM (i:=2) sB.nd Z (.inl Z) (aP (B3 T) B (ad (aa 0) (ad (aa 1) ae))))
  (aj (aA (dM (mN dE dE (aB (Ti K) (aa 2) ag (λ_ _=>rfl)) (aB (Ti K) (aa 0) (aa 1) (λ_ _=>rfl)) (aB (Ti K) (aa 2) ag (λ_ _=>rfl)))) (aj (ap fG)) aF))))
  (aj (ap fG))),?_⟩
 refine bc (.inl q) ?_;have hL:((List.map V.int (f::r)).length:Int)=(r.length:Int)+1:=by simp
 refine bo 1 _ rfl ⟨by lia,by lia,by lia,by lia⟩ ?_;have hN:(((List.map V.int (f::r)).length:Int)-1).toNat=r.length:=by lia
 rw[hN];refine uc (lo:=1) (n:=r.length) (λi σ D=>am H D/\(∀j x,j<i->r[j]? = some x->cM f (j+1)<=x/\x<=dD f (j+1))/\∃s o,σ=[some (.ref a),s,o])
  ⟨am.refl _,λj x z=>Wx z (Vp _),_,_,rfl⟩ ?_ ?_
 ·rintro i σ I G ⟨d,p,s,o,rfl⟩;obtain⟨x,hx⟩:∃x,r[i]? = some x:=⟨_,T4 G⟩;have C:(1:Int)+(i:Int)=((i+1:Nat):Int):=by lia
  refine⟨a,f,r,i+1,by rw[<- C];rfl,d.seq q,λb F v hb=>?_⟩;refine bo _ (.int (cM f (i+1))) (.inr hb) (aH (j:=0) Z) ?_;have u:cY (List.map V.int (f::r)) (1+(i:Int))=some (.int x):=by
   rw[C];exact aH (by rw[Uc,List.getElem?_cons_succ,Tv,hx];rfl)
  refine bo _ (.int x) (.inl (v.seq (d.seq q))) u ?_;have g:¬(cM f (i+1)<=x/\x<=dD f (i+1))->Q (.bl false) F:=λz=>(k _ (d.trans v)).2 λy=>z (y i x hx);refine ak (λe=>?_) (λe=>?_)
  ·refine bo _ (.int (dD f (i+1))) (.inr hb) (aH (j:=1) Z) ?_;refine ak (λm=>?_) (λm=>?_)
   ·exact g λz=>by simp at m;lia
   ·refine⟨d.trans v,λj y L l=>?_,_,_,Z⟩;by_cases c:j<i
    ·exact p j y c l
    ·have:j=i:=by lia
     subst this;rw[hx]at l;cases l;have:=Wz e;simp at m;lia
  ·exact g λz=>e (WA z.1)
 ·rintro σ I ⟨d,p,s,o,rfl⟩;exact (k _ d).1 λi x hx=>p i x (Tz.mp hx).1 hx
def Gs(K:PySem.W.Frag):Sp:=λvs H Q _=>∃(a:Addr) (f:Int) (r:e7),vs=[.ref a]/\aE K H a ((f::r).map V.int)/\r.length<=1000/\∀H',am H H'->(iD f r->Q (.int (lb f-((r.length:Int)+1))) H')/\(¬iD f r->Q .non H')
def B0 (T:Txt w K mg t):bz P w K mg base "missing" 3 t.xF t.uP ["row"] (Gs K):=by
 refine⟨T.Op,T.D6.kp,T.QZ,T.D6.okQ zW (λvs H Q E h=>by obtain⟨a,f,r,rfl,_⟩:=h;rfl) λ_ _ _ _ H vs Q E b h=>?_⟩;obtain⟨a,f,r,rfl,c,g,k⟩:=h;have l:=b.units;refine⟨_,(ah (aM (i:=1) zW.nd Z (.inl Z) (aG dw (aP (M5 T) b (ad (aB (Ti K) (aa 0) ag (λ_ _=>rfl)) ae)) (bq (Th K) T.n_len Tw (ad (aa 0) ae))))
  (ah (aA (bG (ck (av c7 (aa 1) ag (aq _)) (cE (dM (dH (aP (Nb T) b (ad (aa 0) ae))))))) (aj (ap bD)) aF)
  (aj (ap (aa 1))))),?_⟩
 refine bo _ (.int f) (.inl c) (aH (j:=0) Z) ?_;refine gl f Z ?_;refine bc (.inl c) ?_;have hL:((List.map V.int (f::r)).length:Int)=(r.length:Int)+1:=by simp
 refine ak (λe=>?_) (λe=>?_)
 ·exact (k _ (am.refl _)).2 λz=>by have:=Wz e;have:=z.1;lia
 ·have m:¬(lb f-((List.map V.int (f::r)).length:Int)<0):=λz=>e (WA z);refine cz a f r Z c g (λn d=>⟨λy=>?_,λy=>?_⟩)
  ·have q:=(k _ d).1 ⟨by lia,y⟩;rw[<- hL]at q;exact q
  ·exact (k _ d).2 λz=>y z.2
def zK(K:PySem.W.Frag):Sp:=λvs H Q _=>∃(o a:Addr) (b:e7),vs=[.ref o,.ref a,.int 0]/\aE K H a (b.map V.int)/\b.length<=1000/\(i6 b->∀p H',bA H p (.lst ((ir b).map V.int)) H'->Q (.ref p) H')/\(¬i6 b->∀H',am H H'->Q .non H')
def Kz (T:Txt w K mg t):bL P w K mg base bY 4 t.rB t.nK ["self", "row", "page"] (zK K):=by
 refine T.SB.okQ Ah (λvs H Q E h=>by obtain⟨o,a,m,rfl,_⟩:=h;rfl) λ_ _ _ _ H vs Q E e h=>?_;obtain⟨o,a,m,rfl,c,q,k1,k2⟩:=h;have I:=e.units;refine⟨_,(ah (aA (dM (gu (K:=K) Z (aa 1))) (aj (ap (bh (ad ag ae)))) aF)
  (ah (aM (i:=3) Ah.nd rfl (.inl rfl) (aP (B0 T) e (ad (aa 1) ae)))
  (ah (aA (av gN (aa 3) bD (aq _)) (aj (ap bD)) aF)
  (aj (ap (gp rfl (dn.of (fns:=(ao jj).names) (N:=["self", "row", "page", "lack"]) (Nc:=["place", "row"]) (nv:=1) (caps:=[1]) rfl rfl (by decide +kernel)) (Az rfl T.n_range (ad (bq (Th K) T.n_len Tw (ad (aa 1) ae)) (ad (aG (Te K) (bq (Th K) T.n_len Tw (ad (aa 1) ae)) (aa 3)) ae))) (λ_ _ _ _=>(bn (i:=0) (show List.Nodup (["place", "row"]:List Str) by decide +kernel) rfl (Or.inl rfl) (Or.inr rfl))) (λ_ _ _ _=>fW) (λ_ _ _ _=>(aB (Ti K) (aP (B3 T) e (ad (aa 1) (ad (aa 0) ae))) ag (λ_ _=>rfl))))))))),?_⟩
 refine bc (.inl c) ?_;cases m with
 | nil =>
  refine iN ?_;exact⟨sz Z,λp s g=>k1 trivial p s g⟩
 | cons f r =>
  refine BC ?_;refine cz a f r rfl c (by simp at q;lia) (λJ d=>⟨λy=>?_,λy=>?_⟩)
  ·refine bc (.inl (d.seq c)) ?_;refine bc (.inl (d.seq c)) ?_;have hL:((List.map V.int (f::r)).length:Int)=(r.length:Int)+1:=by simp
   have hb:=mY f;have F:=y.1;refine aY rfl ⟨by lia,by lia,by lia,by lia⟩ ?_;have B:(((List.map V.int (f::r)).length:Int)+(lb f-((r.length:Int)+1))-((List.map V.int (f::r)).length:Int)).toNat=(lb f-((r.length:Int)+1)).toNat:=by lia
   rw[B];refine qN ((ir (f::r)).map V.int) (by rw[To,ir,To,Uk]) (cD (by lia)) (λi v k N u l z hN=>?_) λp k D=>k1 y p k (D.after d);have n:v=.int (cM f (r.length+1+i)):=by
    rw[Tv,ir,Tv,U8 u]at l;cases l
    rfl
   subst n;have C:((List.map V.int (f::r)).length:Int)+(i:Int)=((r.length+1+i:Nat):Int):=by lia
   refine⟨a,f,r,r.length+1+i,by rw[<- C];rfl,z.seq (d.seq c),λb G x hb=>?_⟩;exact⟨_,.int (cM f (r.length+1+i)),.inr hb,aH (j:=0) Z,hN _ x⟩
  ·exact k2 y _ d
def Cj (T:Txt w K mg t):eY P w K mg base t.fO "fill" 4 t.rB t.nK ["self", "row", "page"] [] (zK K) :=
 ⟨T.qW,T.Lm,⟨_,T.RO,.nil⟩,Kz T⟩
def gK(n:Nat):Int:=if n=1 then 192 else if n=2 then 224 else 240
def eW:e7->Int
 | []=>0
 | [f]=>f
 | f::r=>cb 6 ((f-gK r.length)::r.map λb=>b-128)
def GN(K:PySem.W.Frag):Sp:=λvs H Q _=>∃(a:Addr) (b:e7),vs=[.ref a]/\aE K H a (b.map V.int)/\dQ b/\∀H',am H H'->Q (.int (eW b)) H'
def EU{f x:Int}{r:e7}(h:dQ (f::x::r)):(∀y∈x::r,128<=y/\y<=191)/\0<=f-gK (r.length+1)/\f-gK (r.length+1)<64/\r.length<=2/\(∃v,[0,0,192,224,240][r.length+2]? = some v/\v=gK (r.length+1)):=by
 have g:=mY f;obtain⟨⟨e,b⟩,c⟩:iD f (x::r)/\((x::r).length:Int)+1=lb f:=h;refine⟨((ni f _).mp b).1,?_⟩;have a:(r.length:Int)+2=lb f:=by simp at c;lia
 have d:r.length<=2:=by lia
 unfold lb at a;have:r.length=0\/r.length=1\/r.length=2:=by lia
 rcases this with z|z|z<;>rw[z]at a ⊢<;>simp only [gK]<;>(repeat' split at a)<;>first|lia|exact⟨by simp;lia,by simp;lia,by lia,_,rfl,rfl⟩
def Nh (T:Txt w K mg t):bz P w K mg base "carried" 3 t.xV t.vf ["row"] (GN K):=by
 refine⟨T.OI,T.El.kp,T.Rh,T.El.okQ Hq (λvs H Q E h=>by obtain⟨a,u,rfl,_⟩:=h;rfl) λ_ _ _ _ H vs Q E s h=>?_⟩;obtain⟨a,u,rfl,c,hw,k⟩:=h;have G:=s.units;refine⟨_,(ah (aA (av (bi (K:=K) Z G) (bq (Th K) T.n_len Tw (ad (aa 0) ae)) ag (aq _)) (aj (ap (aB (Ti K) (aa 0) ag (λ_ _=>rfl)))) aF)
  (aj (ap (aP (tK T) s (ad (aG (Te K) (bh (ad (aG dw (aB (Ti K) (aa 0) ag (λ_ _=>rfl)) (aB (Ti K) (jl (v:=.ref t.rC) rfl T.P7 rfl) (bq (Th K) T.n_len Tw (ad (aa 0) ae)) (λ_ _=>rfl))) ae)) (gp rfl (dn.of (fns:=(ao jh).names) (N:=["row"]) (Nc:=["byte"]) (nv:=1) (caps:=[]) rfl rfl (by decide +kernel)) (fF (K:=K) rfl (dO (Tj K) (aa 0) (da ag) fE)) (λ_ _ _ _=>(bn (i:=0) (show List.Nodup (["byte"]:List Str) by decide +kernel) rfl (Or.inl rfl) (Or.inr rfl))) (λ_ _ _ _=>fW) (λ_ _ _ _=>(aG dw (aa 0) (de T.wU))))) (ad (de T.Qg) ae)))))),?_⟩
 refine bc (.inl c) ?_
 match u,c,hw,k with
 | [],_,hw,_=>exact hw.elim
 | [f],c,hw,k =>
  exact⟨_,.int f,.inl c,aH (j:=0) Z,k _ (am.refl _)⟩
 | f::x::r,c,hw,k =>
  obtain⟨z,D,C,O,v,g,p⟩:=EU hw;have hL:((List.map V.int (f::x::r)).length:Int)=((r.length+2:Nat):Int):=by simp;lia
  refine bo _ (.int f) (.inl c) (aH (j:=0) Z) ?_;refine bc (.inl c) ?_;have n:cY (([0,0,192,224,240]:e7).map V.int) ((List.map V.int (f::x::r)).length:Int)=some (.int v):=by
   rw[hL];exact aH (by rw[Tv,g];rfl)
  refine bo _ (.int v) (.inr (T.IO _)) n ?_;refine⟨sz Z,λI J l=>?_⟩;refine⟨_,Z,_,l.sm.seq c,λL U e=>?_⟩;rw[Pw]at e;refine dS Z ⟨_,e.lst⟩ ?_;refine nU (((x::r).map λb=>b-128).map V.int) (by simp) e.lst (cD (by simp;lia)) (λi y v B N d g R hN=>?_) λS B o=>?_
  ·rw[Tv]at d;obtain⟨y,m,rfl⟩:=UO.mp d;rw[Tv,Tv,m]at g;cases g;exact hN _ (am.refl _)
  refine fU ((e.sm.trans o.sm).seq l.lst) o.lst (cD (by simp;lia)) (λF M q=>?_);refine⟨F,(f-v)::(x::r).map λb=>b-128,6,rfl,q.lst,?_,by decide,by simp;lia,?_⟩
  ·intro y d;rcases TF.mp d with rfl|d
   ·rw[p];exact⟨D,C⟩
   ·obtain⟨b,hb,rfl⟩:=T0.mp d;have:=z b hb;exact⟨by lia,show b-128<64 by lia⟩
  ·rw[p];exact k _ (l.sm.trans (e.sm.trans (o.sm.trans q.sm)))
def zB(K:PySem.W.Frag):Sp:=λvs H Q _=>∃(o a:Addr) (b:e7),vs=[.ref o,.ref a,.int 0]/\aE K H a (b.map V.int)/\b.length<=1000/\(dQ b->∀p H',bA H p (.tup [.int (eW b),.int 0]) H'->Q (.ref p) H')/\(¬dQ b->∀H',am H H'->Q .non H')
def Kn (T:Txt w K mg t):bL P w K mg base bY 4 t.rA t.nJ ["self", "row", "page"] (zB K):=by
 refine T.SA.okQ HN (λvs H Q E h=>by obtain⟨o,a,i,rfl,_⟩:=h;rfl) λ_ _ _ _ H vs Q E c h=>?_;obtain⟨o,a,i,rfl,d,m,k1,k2⟩:=h;have l:=c.units;refine⟨_,(ah (aA (bG (eG (gu (K:=K) Z (aa 1)) (fD (av (bi (K:=K) Z l) (aP (B0 T) c (ad (aa 1) ae)) ag (aq _))))) (aj (ap (bS (ad (aP (Nh T) c (ad (aa 1) ae)) (ad (aa 2) ae))))) aF)
  (aj (ap bD))),?_⟩
 refine bc (.inl d) ?_;cases i with
 | nil=>exact k2 id _ (am.refl _)
 | cons f r =>
  refine cz a f r rfl d (by simp at m;lia) (λq b=>⟨λy=>?_,λy=>?_⟩)
  ·refine ak (λe=>?_) (λe=>?_)
   ·have hw:dQ (f::r):=⟨y,by have:=Wz e;lia⟩;refine⟨a,f::r,Z,b.seq d,hw,λn j=>?_⟩;exact⟨sz Z,λp k g=>k1 hw p k (g.after (b.trans j))⟩
   ·exact k2 (λz=>e (WA (by have:=z.2;lia))) _ b
  ·refine⟨_,_,c6.non,c6.int 0,Z,Z,?_⟩;exact k2 (λz=>y z.1) _ b
def Nz (T:Txt w K mg t):eY P w K mg base t.fO "whole" 4 t.rA t.nJ ["self", "row", "page"] [] (zB K) :=
 ⟨T.qW,T.Ll,⟨_,T.RN,.nil⟩,Kn T⟩
def HY{n:Int}(h:Sg n):dQ (row n)/\eW (row n)=n:=by
 obtain⟨c,b,a,d⟩:=h;unfold row;by_cases c1:n<128
 ·rw[Ww c1]
  exact⟨⟨⟨by unfold lb;rw[Ww c1];simp,λi x z=>by cases z⟩,by unfold lb;rw[Ww c1];simp⟩,rfl⟩
 rw[Wv c1];by_cases c2:n<2048
 ·rw[Ww c2];have e:lb (192+n/64)=2:=by unfold lb;repeat' split<;>lia
  refine⟨⟨⟨by rw[e];simp,(ni _ _).mpr ⟨λx hx=>?_,λx hx=>?_⟩⟩,by rw[e];simp⟩,?_⟩
  ·simp at hx;lia
  ·simp at hx;subst hx;unfold eQ eR;repeat' split<;>lia
  ·simp[eW,gK,cb];lia
 rw[Wv c2];by_cases c3:n<65536
 ·rw[Ww c3];have e:lb (224+n/4096)=3:=by unfold lb;repeat' split<;>lia
  refine⟨⟨⟨by rw[e];simp,(ni _ _).mpr ⟨λx hx=>?_,λx hx=>?_⟩⟩,by rw[e];simp⟩,?_⟩
  ·simp at hx;lia
  ·simp at hx;subst hx;unfold eQ eR;repeat' split<;>lia
  ·simp[eW,gK,cb];lia
 rw[Wv c3];have e:lb (240+n/262144)=4:=by unfold lb;repeat' split<;>lia
 refine⟨⟨⟨by rw[e];simp,(ni _ _).mpr ⟨λx hx=>?_,λx hx=>?_⟩⟩,by rw[e];simp⟩,?_⟩
 ·simp at hx;lia
 ·simp at hx;subst hx;unfold eQ eR;repeat' split<;>lia
 ·simp[eW,gK,cb];lia
def ET{a:e7}(h:dQ a){i:Nat}(l:0<i)(b:i<a.length):i6 (a.take i)/\¬dQ (a.take i):=by
 cases a with
 | nil=>exact h.elim
 | cons f r =>
  obtain⟨i,rfl⟩:∃j,i=j+1:=⟨i-1,by lia⟩;obtain⟨⟨g,e⟩,k⟩:=h;have c:(r.take i).length=i:=by rw[TyZ];simp at b;lia
  simp at b;rw[List.take_succ_cons];refine⟨⟨by rw[c];lia,λj x hx=>?_⟩,λz=>?_⟩
  ·have d:j<i:=by have:=(Tz.mp hx).1;lia
   rw[Vf d]at hx;exact e j x hx
  ·have:=z.2;rw[c]at this;lia
end
end My
namespace My
open PySem L2
def cW:e7->Int->Option Nat
 | [],_=>none
 | m::ms,n=>if m=n then some 0 else (cW ms n).map (· + 1)
def gM{ns:e7}{n:Int}:cW ns n=none ↔ n∉ns:=by
 induction ns with
 | nil=>simp[cW]
 | cons m ms ih =>
  unfold cW;by_cases e:m=n
  ·simp[e]
  ·rw[Wv e];have a:¬n=m:=λz=>e z.symm;simp[ih,a]
theorem iO:∀ {ns:e7} {n:Int} {i:Nat},cW ns n=some i->ns[i]? = some n/\∀j,j<i->ns[j]? ≠ some n
 | [],n,i,h=>by cases h
 | m::ms,n,i,h=>by
  unfold cW at h;by_cases e:m=n
  ·rw[Ww e]at h;cases h;exact⟨by simp[e],λj c=>Wx c (by lia)⟩
  ·rw[Wv e]at h;obtain⟨k,d,rfl⟩:=UO.mp h;obtain⟨a,b⟩:=iO d;refine⟨by simpa using a,λj c=>?_⟩;cases j with
   | zero=>simpa using e
   | succ j=>simpa using b j (by lia)
theorem Mw(ns:e7)(n m:Int):cW (ns++[n]) m=match cW ns m with
 | some i=>some i
 | none=>if n=m then some ns.length else none:=by
 induction ns with
 | nil=>simp[cW]
 | cons a as ih =>
  rw[VD,cW,cW];by_cases e:a=m
  ·rw[Ww e,Ww e]
  ·rw[Wv e,Wv e,ih];cases cW as m with
   | some i=>rfl
   | none =>
    dsimp only [Option.map];by_cases e2:n=m
    ·rw[Ww e2,Ww e2];simp
    ·rw[Wv e2,Wv e2]
def jr{ns:e7}{n:Int}(h:n∈ns):∃i,cW ns n=some i/\i<ns.length:=by
 cases e:cW ns n with
 | none=>exact Wx h (gM.mp e)
 | some i=>exact⟨i,rfl,(Tz.mp (iO e).1).1⟩
def ai{α:Type}(g:Int)(x y:α):α:=if g=0 then x else y
def cJ(g:Int):Prop:=g=0\/g=1
def nW{g:Int}{x y:V}(h:cJ g):cY [x,y] g=some (ai g x y):=by
 rcases h with rfl|rfl<;>rfl
def cJ.flip{g:Int}(h:cJ g):cJ (1-g):=by
 rcases h with rfl|rfl
 ·exact .inr Z
 ·exact .inl Z
def G4{α:Type}{g:Int}{x y:α}(h:cJ g):ai (1-g) x y=ai g y x:=by
 rcases h with rfl|rfl<;>rfl
def mD{α β:Type}(f:α->β)(g:Int)(x y:α):ai g (f x) (f y)=f (ai g x y):=by
 unfold ai;split<;>rfl
def nY(O P:e7)(b:Nat):Bool:=!decide (O.getD b 0∈P)
def fw(O P:e7):List Nat:=(List.range O.length).filter (nY O P)
def pI{O P:e7}{b:Nat}:b∈fw O P ↔ ∃n,O[b]? = some n/\n∉P:=by
 unfold fw nY;rw[List.mem_filter,Us]
 constructor
 ·rintro⟨h,k⟩;refine⟨O[b],T4 h,?_⟩;rw[U7,T4 h]at k;simpa using k
 ·rintro⟨n,h,k⟩;refine⟨(Tz.mp h).1,?_⟩;rw[U7,h];simpa using k
theorem BP{f:Nat->Bool}{i:Nat}(h:∀j,j<i->f j=false)(k:f i=true):∀ {n:Nat},i<n->((List.range n).filter f).head? = some i
 | 0,z=>Wx z (by lia)
 | n+1,z=>by
  rw[List.range_succ,List.filter_append,List.head?_append];by_cases c:i<n
  ·rw[BP h k c];rfl
  ·obtain rfl:i=n:=by lia
   have e:(List.range i).filter f=[]:=by
    rw[Wn];intro j a;rw[h j (Us.mp a)]
    decide
   rw[e];simp[k]
def OY{f:Nat->Bool}{n:Nat}(h:∀j,j<n->f j=false):(List.range n).filter f=[]:=by
 rw[Wn];intro j a;rw[h j (Us.mp a)]
 decide
def cw(O P:e7)(g:Int):e7:=match (fw O P).head? with
 | some b=>[254+(1-g),(b:Int)]
 | none=>[]
def dy(ns:e7):Prop:=(∀n∈ns,Sg n)/\ns.Nodup/\ns.length<=250
def jN{g:Int}{ns ms:e7}(h:dy ns)(k:dy ms):dy (ai g ns ms):=by
 unfold ai;split
 ·exact h
 ·exact k
structure Fp where
 dx:Addr
 pp:Addr
 pl:Addr
 ps:Addr
 d0:Addr
 d1:Addr
 l0:Addr
 l1:Addr
 s0:Addr
 s1:Addr
def hV(H:Hp)(d:Addr)(ns:e7):Prop:=∃kv,H d=some (.dK kv)/\∀n:Int,bF kv (.inl n)=(cW ns n).map λi=>V.int (i:Int)
structure Tg (t:Adr) (H:Hp) (a:Addr) (f:Fp) (ns ms:e7):Prop where
 o:H a=some (.ins t.cf f.dx [("places",.ref f.pp),("lists",.ref f.pl),("shifted",.ref f.ps)])
 p:H f.pp=some (.lst [.ref f.d0,.ref f.d1])
 l:H f.pl=some (.lst [.ref f.l0,.ref f.l1])
 s:H f.ps=some (.lst [.ref f.s0,.ref f.s1])
 d0:hV H f.d0 ns
 d1:hV H f.d1 ms
 l0:H f.l0=some (.lst (ns.map V.int))
 l1:H f.l1=some (.lst (ms.map V.int))
 s0:H f.s0=some (.lst ((cw ms ns 0).map V.int))
 s1:H f.s1=some (.lst ((cw ns ms 1).map V.int))
 k0:dy ns
 k1:dy ms
section
variable {t:Adr}{H H':Hp}{a:Addr}{f:Fp}{ns ms:e7}{g:Int}
def Tg.keep(h:Tg t H a f ns ms)(k:∀c u,c∈[a,f.pp,f.pl,f.ps,f.d0,f.d1,f.l0,f.l1,f.s0,f.s1]->H c=some u->H' c=some u):Tg t H' a f ns ms:=by
 obtain⟨o,p,l,s,⟨e,d0,d⟩,⟨g,d1,b⟩,l0,l1,s0,s1,k0,k1⟩:=h;exact⟨k _ _ (by simp) o,k _ _ (by simp) p,k _ _ (by simp) l,k _ _ (by simp) s,⟨e,k _ _ (by simp) d0,d⟩,⟨g,k _ _ (by simp) d1,b⟩,k _ _ (by simp) l0,k _ _ (by simp) l1,k _ _ (by simp) s0,k _ _ (by simp) s1,k0,k1⟩
def Tg.mono(h:Tg t H a f ns ms)(k:am H H'):Tg t H' a f ns ms:=h.keep λc u _ e=>k c u e
def Tg.dk(h:Tg t H a f ns ms)(b:cJ g):hV H (ai g f.d0 f.d1) (ai g ns ms):=by
 rcases b with rfl|rfl
 ·exact h.d0
 ·exact h.d1
def Tg.ll(h:Tg t H a f ns ms)(b:cJ g):H (ai g f.l0 f.l1)=some (.lst ((ai g ns ms).map V.int)):=by
 rcases b with rfl|rfl
 ·exact h.l0
 ·exact h.l1
def Tg.ss(h:Tg t H a f ns ms)(b:cJ g):H (ai g f.s0 f.s1)=some (.lst ((cw (ai g ms ns) (ai g ns ms) g).map V.int)):=by
 rcases b with rfl|rfl
 ·exact h.s0
 ·exact h.s1
def Gk(K:PySem.W.Frag):Sp:=λvs H Q _=>∃(a:Addr) (ns:e7) (b:Int),vs=[.ref a,.int b]/\aE K H a (ns.map V.int)/\dy ns/\∀p H',am H H'->H p=none->hV H' p ns->Q (.ref p) H'
def BZ (T:Txt w K mg t):bz P w K mg base "places_in" 4 t.xE t.uO ["signs", "which"] (Gk K):=by
 refine⟨T.Oj,T.D5.kp,T.QY,T.D5.okQ oU (λvs H Q E h=>by obtain⟨a,xs,I,rfl,_⟩:=h;rfl) λ_ _ _ _ H vs Q E J h=>?_⟩;obtain⟨a,ns,I,rfl,v,⟨sg,nd,ln⟩,O⟩:=h;have L:=J.units;refine⟨_,(ah (aA (av eT (bq (Th K) T.n_len Tw (ad (aa 0) ae)) (de T.P5) (aq _)) (aj jk) aF)
  (ah (aM (i:=2) oU.nd rfl (.inl rfl) AD)
  (ah (eI PassesOwn.never rfl (mM (K:=K) rfl rfl T.n_enumerate (ad (aa 0) ae)) (ff (K:=K) rfl rfl (bR (bn (i:=3) oU.nd rfl (.inl rfl)) (bR (bn (i:=4) oU.nd rfl (.inl rfl)) fe))) (ah (aA (bG (ck (dM (dH (aP (tL T) J (ad (aa 4) ae)))) (cE (av (Cq L) (aa 4) (aa 2) (by with_unfolding_all rfl))))) (aj jk) aF)
  (aj (oZ L (aa 2) (aa 4) (aa 3)))))
  (aj (ap (aa 2)))))),?_⟩
 refine bc (.inl v) ?_;refine ak (λz=>?_) (λ_=>?_)
 ·have z:((ns.map V.int).length:Int) > 250:=Wz z;rw[To]at z;lia
 refine λf H1 c=>?_;refine bo a _ rfl (c.sm.seq v) (nh (K:=K) (a:=a) (xs:=ns.map V.int) (λi σ s=>am H s/\∃(b:List (aQ × V)) (o B:Option V),s f=some (.dK b)/\b.length<=i/\(∀n:Int,bF b (.inl n)=(cW (ns.take i) n).map λi=>V.int (i:Int))/\σ=[some (.ref a),some (.int I),some (.ref f),o,B]) ⟨c.sm,[],_,_,c.at_,by simp,(λn=>by simp[bF,cW]),rfl⟩ (λi σ s _ z=>z.1.seq v) ?_ ?_)
 ·rintro i x p σ M H3 hx ⟨C,b,o,B,D,R,e,rfl⟩ F;obtain⟨n,l,rfl⟩:=dY hx;have hi:=(Tz.mp l).1;refine⟨p,_,Z,F.tup,Z,_,_,Z,_,_,Z,Z,?_⟩;have U:=C.trans F.sm;have d3:=F.sm _ _ D;have u:dP (.int n)=true:=(h8 n).mpr (sg n (TY l));refine dS Z (.int n) ?_;refine ak (λy=>?_) (λ_=>?_)
  ·have y:(!dP (.int n))=true:=y;rw[u]at y;cases y
  have d:n∉ns.take i:=λz=>by
   obtain⟨j,r⟩:=Wk z;have g:j<i:=by
    have:=(Tz.mp r).1;rw[TyZ]at this;lia
   rw[Vf g]at r;obtain⟨Y,N⟩:=Tz.mp r;obtain⟨a2,S⟩:=Tz.mp l;exact Wx (N.trans S.symm) (UP.mp nd j i Y a2 g)
  have G:bF b (.inl n)=none:=by rw[e,gM.mpr d];rfl
  refine bo f _ Z (fz.k (k:=.inl n) d3) ?_;refine ak (λy=>?_) (λ_=>?_)
  ·have y:(bF b (.inl n)).isSome=true:=y;rw[G]at y;cases y
  refine bo f _ rfl (hW.k (k:=.inl n) d3 (fV (by lia))) ?_;refine⟨U.put c.nw,_,_,_,aV,?_,λm=>?_,Z⟩
  ·rw[IU _ G,Tq];simp;lia
  ·rw[gT,fA l,Mw,TyZ,Ui (by lia)];by_cases q:m=n
   ·subst q;rw[Ww rfl,gM.mpr d];simp
   ·rw[Wv (λz=>q (Sum.inl.inj z)),e];have W:¬n=m:=λz=>q z.symm;cases cW (ns.take i) m with
    | some j=>rfl
    | none=>simp[W]
 ·rintro σ M ⟨C,b,o,B,D,R,e,rfl⟩;rw[To,TK]at e;exact O f M C c.nw ⟨b,D,e⟩
structure oq (t:Adr) (H:Hp) (a dx pp pl d0 d1 l0 l1:Addr) (ns ms:e7):Prop where
 o:H a=some (.ins t.cf dx [("places",.ref pp),("lists",.ref pl)])
 p:H pp=some (.lst [.ref d0,.ref d1])
 l:H pl=some (.lst [.ref l0,.ref l1])
 d0:hV H d0 ns
 d1:hV H d1 ms
 l0:H l0=some (.lst (ns.map V.int))
 l1:H l1=some (.lst (ms.map V.int))
def hV.mono{H c:Hp}{d:Addr}{ns:e7}(h:hV H d ns)(s:am H c):hV c d ns:=by
 obtain⟨e,a,b⟩:=h;exact⟨e,s _ _ a,b⟩
def oq.mono{H b:Hp}{a dx pp pl d0 d1 l0 l1:Addr}{ns ms:e7}(h:oq t H a dx pp pl d0 d1 l0 l1 ns ms)(s:am H b):oq t b a dx pp pl d0 d1 l0 l1 ns ms :=
 ⟨s _ _ h.o,s _ _ h.p,s _ _ h.l,h.d0.mono s,h.d1.mono s,s _ _ h.l0,s _ _ h.l1⟩
def Gi(t:Adr):Sp:=λvs H Q _=>∃(a dx pp pl d0 d1 l0 l1:Addr) (ns ms:e7) (g:Int),vs=[.ref a,.int g]/\cJ g/\oq t H a dx pp pl d0 d1 l0 l1 ns ms/\∀p H',am H H'->H p=none->H' p=some (.lst ((cw (ai g ms ns) (ai g ns ms) g).map V.int))->Q (.ref p) H'
def Cb (T:Txt w K mg t):dz P w K mg base t.cf "row_beyond" 1 t.x8 t.vk ["self", "page"] (Gi t):=by
 refine⟨T.d8,T.K4,T.Rv,T.Se.okQ sD (λvs H Q E h=>by obtain⟨a,dx,pp,pl,d0,d1,l0,l1,ns,ms,g,rfl,_⟩:=h;rfl) λ_ _ _ _ H vs Q E S h=>?_⟩;obtain⟨a,dx,pp,pl,d0,d1,l0,l1,ns,ms,g,rfl,f,hf,k⟩:=h;have W:=S.units;refine⟨_,(ah (eI PassesOwn.never rfl (mM (K:=K) rfl rfl T.n_enumerate (ad (aB (Ti K) (aT (K:=K) rfl (aa 0)) (aG dw ag (aa 1)) (λ_ _=>rfl)) ae)) (ff (K:=K) rfl rfl (bR (bn (i:=2) sD.nd rfl (.inl rfl)) (bR (bn (i:=3) sD.nd rfl (.inl rfl)) fe))) (aj (aA (av (Om W) (aa 3) (aB (Ti K) (aT (K:=K) rfl (aa 0)) (aa 1) (λ_ _=>rfl)) (by with_unfolding_all rfl)) (aj (ap (bh (ad (aB (Ti K) (jl (v:=.ref t.nZ) rfl T.C4 rfl) (aG dw ag (aa 1)) (λ_ _=>rfl)) (ad (aa 2) ae))))) aF)))
  (aj (ap (bh ae)))),?_⟩
 have D:H (ai (1-g) l0 l1)=some (.lst ((ai g ms ns).map V.int)):=by
  rcases f with rfl|rfl
  ·exact hf.l1
  ·exact hf.l0
 have L:hV H (ai g d0 d1) (ai g ns ms):=by
  rcases f with rfl|rfl
  ·exact hf.d0
  ·exact hf.d1
 obtain⟨B,C,s⟩:=L;have sh:cY (([254,255]:e7).map V.int) (1-g)=some (.int (254+(1-g))):=by
  rcases f with rfl|rfl<;>rfl
 generalize hO:ai g ms ns=O at *;generalize hP:ai g ns ms=P' at *;refine bZ a _ dx _ _ Z hf.o T.d8 T.pF Z ?_;refine bo _ (.ref (ai (1-g) l0 l1)) (.inl (.of hf.l)) (by rw[nW f.flip];exact congrArg some (mD V.ref _ _ _)) ?_;refine⟨ai (1-g) l0 l1,_,rfl,.of D,nh (K:=K) (a:=ai (1-g) l0 l1) (xs:=O.map V.int) (λi σ F=>am H F/\(∀j,j<i->nY O P' j=false)/\∃u r,σ=[some (.ref a),some (.int g),u,r]) ⟨am.refl _,(λj h=>Wx h (by lia)),_,_,rfl⟩ (λi σ F _ z=>z.1.seq (.of D)) ?_ ?_⟩
 ·rintro i x p σ Y H3 hx ⟨n,m,u,r,rfl⟩ J;obtain⟨q,G,rfl⟩:=dY hx;have N:=(Tz.mp G).1;refine⟨p,_,Z,J.tup,Z,_,_,Z,_,_,Z,Z,?_⟩;have d:=n.trans J.sm;refine bZ a _ dx _ _ Z (d _ _ hf.o) T.d8 T.sS Z ?_;refine bo _ (.ref (ai g d0 d1)) (.inl (.of (d _ _ hf.p))) (by rw[nW f];exact congrArg some (mD V.ref _ _ _)) ?_;refine⟨ai g d0 d1,_,Z,fz.k (k:=.inl q) (d _ _ C),?_⟩;have eq:(bF B (.inl q)).isSome=decide (q∈P'):=by
   rw[s];cases e:cW P' q with
   | none=>have:=gM.mp e;simp[this]
   | some j =>
    have:q∈P':=Decidable.byContradiction λz=>by rw[gM.mpr z]at e;cases e
    simp[this]
  have I:nY O P' i = !decide (q∈P'):=by
   unfold nY;rw[U7,G];rfl
  refine ak (λy=>?_) (λy=>?_)
  ·have y:(!(bF B (.inl q)).isSome)=true:=y;rw[eq,<- I]at y;refine bo _ (.int (254+(1-g))) (.inr (T.AF _)) sh ?_;refine⟨sz Z,λU R b=>?_⟩;refine k _ _ (d.trans b.sm) (d.free b.nw) ?_;have e:cw O P' g=[254+(1-g),(i:Int)]:=by
    unfold cw fw;rw[BP m y N]
   rw[e];exact b.at_
  ·have y:¬(!(bF B (.inl q)).isSome)=true:=y;rw[eq,<- I]at y;refine⟨d,λj M=>?_,_,_,Z⟩;by_cases c:j<i
   ·exact m j c
   ·obtain rfl:j=i:=by lia
    simpa using y
 ·rintro σ Y ⟨n,m,u,r,rfl⟩;rw[To]at m;refine⟨sz Z,λU R b=>k _ _ (n.trans b.sm) (n.free b.nw) ?_⟩;have e:cw O P' g=[]:=by
   unfold cw fw;rw[OY m]
   rfl
  rw[e];exact b.at_
def Kp.seq{a f:Addr}{H b:Hp}{xs:List V}(k:Kp a H b)(n:f≠a)(h:aE K H f xs):aE K b f xs:=by
 rcases h with h|h
 ·rcases h with h|⟨o,h⟩
  ·exact .inl (.inl (k _ _ n h))
  ·exact .inl (.inr ⟨o,k _ _ n h⟩)
 ·exact .inr h
def zH(K:PySem.W.Frag)(t:Adr):Sp:=λvs H Q _=>∃(a dx f g:Addr) (ns ms:e7),vs=[.ref a,.ref f,.ref g]/\H a=some (.ins t.cf dx [])/\aE K H f (ns.map V.int)/\aE K H g (ms.map V.int)/\dy ns/\dy ms/\f≠a/\g≠a /\
 ∀fp H',Kp a H H'->Tg t H' a fp ns ms->(∀c∈[fp.pp,fp.pl,fp.ps,fp.d0,fp.d1,fp.l0,fp.l1,fp.s0,fp.s1],c≠a/\H c=none)->Q .non H'
def Ku (T:Txt w K mg t):bL P w K mg base bY 5 t.rk t.qo ["self", "first", "second"] (zH K t):=by
 refine T.Sf.okQ Hy (λvs H Q E h=>by obtain⟨a,dx,f,g,ns,ms,rfl,_⟩:=h;rfl) λ_ _ _ _ H vs Q E hr h=>?_;obtain⟨a,dx,f,g,ns,ms,rfl,ha,hf,hg,S,a1,nf,ng,kq⟩:=h;have hu:=hr.units;refine⟨_,(ah (dN (K:=K) Z (aa 0) (bh (ad (aP (BZ T) hr (ad (aa 1) (ad ag ae))) (ad (aP (BZ T) hr (ad (aa 2) (ad ag ae))) ae))))
  (ah (dN (K:=K) rfl (aa 0) (bh (ad (cr (Tk K) T.n_list T5 (ad (aa 1) ae)) (ad (cr (Tk K) T.n_list T5 (ad (aa 2) ae)) ae))))
  (aj (dN (K:=K) rfl (aa 0) (bh (ad (fH (Cb T) hr (aa 0) (ad ag ae)) (ad (fH (Cb T) hr (aa 0) (ad ag ae)) ae))))))),?_⟩
 refine cz f ns 0 Z hf S (λd0 H1 s1 V ap=>?_);refine cz g ms 1 Z (s1.seq hg) a1 (λd1 H2 s2 W al=>?_);refine⟨sz Z,λpp H3 R=>?_⟩;have s3:=s1.trans (s2.trans R.sm);refine dB a _ dx _ rfl (s3 _ _ ha) T.d8 T.sS (Ts VU (by decide)) ?_;obtain⟨H4,e4⟩:∃H4,H4=upd H3 a (HO.ins t.cf dx (cG "places" (.ref pp) [])):=⟨_,rfl⟩;have a4:H4 a=some (.ins t.cf dx [("places",.ref pp)]):=by rw[e4,aV];rfl
 have k4:Kp a H3 H4:=by rw[e4];exact Kp.upd
 rw[<- e4];clear e4;have b:Kp a H H4:=(Kp.of s3).trans k4;refine bc (.inl (b.seq nf hf)) (λl0 H5 i=>?_);refine bc (.inl ((b.trans (Kp.of i.sm)).seq ng hg)) (λl1 H6 I=>?_);refine⟨sz Z,λpl H7 O=>?_⟩;have a3:=i.sm.trans (I.sm.trans O.sm);refine dB a _ dx _ rfl (a3 _ _ a4) T.d8 T.pF (Ts (TR 1) (by decide)) ?_;obtain⟨s,e8⟩:∃s,s=upd H7 a (HO.ins t.cf dx (cG "lists" (.ref pl) [("places",.ref pp)])):=⟨_,rfl⟩;have G:s a=some (.ins t.cf dx [("places",.ref pp),("lists",.ref pl)]):=by rw[e8,aV];rfl
 have k8:Kp a H7 s:=by rw[e8];exact Kp.upd
 rw[<- e8];clear e8;have z:d0≠a:=(ba ha V).symm;have C:d1≠a:=(ba (s1 _ _ ha) W).symm;have B:pp≠a:=(ba (s2 _ _ (s1 _ _ ha)) R.nw).symm;have o:l0≠a:=(ba a4 i.nw).symm;have m:l1≠a:=(ba (i.sm _ _ a4) I.nw).symm;have r:pl≠a:=(ba (I.sm _ _ (i.sm _ _ a4)) O.nw).symm;have q:Kp a H3 s:=k4.trans ((Kp.of a3).trans k8);have j:Kp a H s:=(Kp.of s3).trans q;obtain⟨ak,q0,e0⟩:=ap;obtain⟨af,q1,e1⟩:=al;have d:oq t s a dx pp pl d0 d1 l0 l1 ns ms:=⟨G,q _ _ B R.at_,k8 _ _ r O.at_,⟨ak,q _ _ z (R.sm _ _ (s2 _ _ q0)),e0⟩,⟨af,q _ _ C (R.sm _ _ q1),e1⟩,k8 _ _ o (O.sm _ _ (I.sm _ _ i.at_)),k8 _ _ m (O.sm _ _ I.at_)⟩;refine cz a dx _ Z G Z ?_;refine⟨a,dx,pp,pl,d0,d1,l0,l1,ns,ms,0,Z,.inl Z,d,λz0 H9 D U ai=>?_⟩;refine cz a dx _ Z (D _ _ G) Z ?_;refine⟨a,dx,pp,pl,d0,d1,l0,l1,ns,ms,1,Z,.inr Z,d.mono D,λz1 HA sA Y aq=>?_⟩;refine⟨sz Z,λps HB gB=>?_⟩;have J:=D.trans (sA.trans gB.sm);refine dB a _ dx _ rfl (J _ _ G) T.d8 T.pE (Ts (TR 2) (by decide)) ?_;obtain⟨M,eC⟩:∃M,M=upd HB a (HO.ins t.cf dx (cG "shifted" (.ref ps) [("places",.ref pp),("lists",.ref pl)])):=⟨_,rfl⟩;have aC:M a=some (.ins t.cf dx [("places",.ref pp),("lists",.ref pl),("shifted",.ref ps)]):=by rw[eC,aV];rfl
 have kC:Kp a HB M:=by rw[eC];exact Kp.upd
 rw[<- eC];clear eC;have v:z0≠a:=(ba G U).symm;have F:z1≠a:=(ba (D _ _ G) Y).symm;have L:ps≠a:=(ba (sA _ _ (D _ _ G)) gB.nw).symm;have ao:Kp a s M:=(Kp.of J).trans kC;have hB:=d.mono J;have N:∀ {c:Addr} {H':Hp},Kp a H H'->c≠a->H' c=none->H c=none:=λ{c H'} k n e=>by
  cases h:H c with
  | none=>rfl
  | some u=>rw[k c u n h]at e;cases e
 refine kq ⟨dx,pp,pl,ps,d0,d1,l0,l1,z0,z1⟩ M (j.trans ao) ⟨aC,kC _ _ B hB.p,kC _ _ r hB.l,kC _ _ L gB.at_,?_,?_,kC _ _ o hB.l0,kC _ _ m hB.l1,kC _ _ v (gB.sm _ _ (sA _ _ ai)),kC _ _ F (gB.sm _ _ aq),S,a1⟩ ?_
 ·obtain⟨kv,x,y⟩:=hB.d0;exact⟨kv,kC _ _ z x,y⟩
 ·obtain⟨kv,x,y⟩:=hB.d1;exact⟨kv,kC _ _ C x,y⟩
 ·intro c hc;simp only [TF,Va,or_false]at hc;rcases hc with rfl|rfl|rfl|rfl|rfl|rfl|rfl|rfl|rfl
  ·exact⟨B,s1.free (s2.free R.nw)⟩
  ·exact⟨r,N (b.trans (Kp.of (i.sm.trans I.sm))) r O.nw⟩
  ·exact⟨L,N (j.trans (Kp.of (D.trans sA))) L gB.nw⟩
  ·exact⟨z,V⟩
  ·exact⟨C,s1.free W⟩
  ·exact⟨o,N b o i.nw⟩
  ·exact⟨m,N (b.trans (Kp.of i.sm)) m I.nw⟩
  ·exact⟨v,N j v U⟩
  ·exact⟨F,N (j.trans (Kp.of D)) F Y⟩
def MA (T:Txt w K mg t):oo P w K mg base "ShiftTongue" t.cf 5 t.rk t.qo ["self", "first", "second"] [] (zH K t):=⟨T.NI,T.Lq,⟨[],T.Rw,.nil⟩,Ku T⟩
def C8(O P:e7)(g:Int):cw O P g=[]\/∃b:Nat,(fw O P).head? = some b/\cw O P g=[254+(1-g),(b:Int)]:=by
 unfold cw;cases e:(fw O P).head? with
 | none=>exact .inl rfl
 | some b=>exact .inr ⟨b,rfl,rfl⟩
def Qi(O P:e7)(g:Int):cw O P g=[] ↔ fw O P=[]:=by
 unfold cw;cases e:fw O P with
 | nil=>simp
 | cons b r=>simp
def eE(P O:e7)(g:Int)(x:V):Option (e7 × Int):=match x with
 | .int n=>match cW P n with
  | some i=>some ([(i:Int)],g)
  | none=>match cW O n with
   | some i=>some ([254+(1-g),(i:Int)],1-g)
   | none=>none
 | _=>none
def J7:Option Int->V
 | some n=>.int n
 | none=>.non
def Dh{L:e7}{b n:Int}(a:0<=b)(h:L[b.toNat]? = some n):cY (L.map V.int) b=some (.int n):=by
 obtain⟨k,rfl⟩:∃k:Nat,b=(k:Int):=⟨b.toNat,by lia⟩;exact aH (by rw[Tv];simp at h;rw[h];rfl)
def Ga(t:Adr):Sp:=λvs H Q _=>∃(a:Addr) (f:Fp) (ns ms:e7) (b g:Int),vs=[.ref a,.int b,.int g]/\cJ g/\Tg t H a f ns ms/\0<=b/\Q (J7 (ai g ns ms)[b.toNat]?) H
def Ca (T:Txt w K mg t):dz P w K mg base t.cf "sign_of" 1 t.x6 t.vj ["self", "byte", "page"] (Ga t):=by
 refine⟨T.d8,T.K3,T.Ru,T.Sd.okQ Hx (λvs H Q E h=>by obtain⟨a,f,ns,ms,b,g,rfl,_⟩:=h;rfl) λ_ _ _ _ H vs Q E m h=>?_⟩;obtain⟨a,f,ns,ms,b,g,rfl,two,c,j,k⟩:=h;refine⟨_,(aj (ap (ie (av c7 (aa 1) (bq (Th K) T.n_len Tw (ad (aB (Ti K) (aT (K:=K) Z (aa 0)) (aa 2) (λ_ _=>rfl)) ae)) (aq _)) (aB (Ti K) (aB (Ti K) (aT (K:=K) Z (aa 0)) (aa 2) (λ_ _=>rfl)) (aa 1) (λ_ _=>rfl)) bD))),?_⟩;have d:cY [V.ref f.l0,V.ref f.l1] g=some (.ref (ai g f.l0 f.l1)):=by rw[nW two];exact congrArg some (mD V.ref _ _ _)
 have i:=c.ll two;refine bZ a _ f.dx _ _ Z c.o T.d8 T.pF Z ?_;refine aY (.inl (.of c.l)) d ?_;refine bc (.inl (.of i)) ?_;refine ak (λz=>?_) (λz=>?_)
 ·have z:b<(((ai g ns ms).map V.int).length:Int):=Wz z;rw[To]at z;refine bZ a _ f.dx _ _ Z c.o T.d8 T.pF Z ?_;refine aY (.inl (.of c.l)) d ?_;obtain⟨n,e⟩:∃n,(ai g ns ms)[b.toNat]? = some n:=⟨_,T4 (by lia)⟩;rw[e]at k;exact⟨_,.int n,.inl (.of i),Dh j e,k⟩
 ·have z:¬b<(((ai g ns ms).map V.int).length:Int):=λy=>z (WA y);rw[To]at z;rw[Uz (by lia)]at k;exact k
def rF(g:Int)(row:e7):Prop:=(∃b,row=[b]/\0<=b)\/∃c,row=[254+(1-g),c]/\0<=c
def cQ(P O:e7)(g:Int)(row:e7):Option (Int × Int):=match row with
 | [b]=>P[b.toNat]?.map λn=>(n,g)
 | [_,c]=>match O[c.toNat]? with
  | some n=>if n∈P then none else some (n,1-g)
  | none=>none
 | _=>none
def zC(t:Adr):Sp:=λvs H Q _=>∃(a:Addr) (f:Fp) (ns ms:e7) (q:Addr) (row:e7) (g:Int),vs=[.ref a,.ref q,.int g]/\cJ g/\Tg t H a f ns ms/\H q=some (.lst (row.map V.int))/\rF g row /\
 (cQ (ai g ns ms) (ai g ms ns) g row=none->Q .non H)/\(∀n g',cQ (ai g ns ms) (ai g ms ns) g row=some (n,g')->∀p H',bA H p (.tup [.int n,.int g']) H'->Q (.ref p) H')
def Ko (T:Txt w K mg t):bL P w K mg base bY 2 t.rj t.nB ["self", "row", "page"] (zC t):=by
 refine T.Sc.okQ sC (λvs H Q E h=>by obtain⟨o,f,ns,ms,q,row,g,rfl,_⟩:=h;rfl) λ_ _ _ _ H vs Q E x h=>?_;obtain⟨a,f,ns,ms,q,row,g,rfl,two,l,r,ok,d,ks⟩:=h;have u:=x.units;refine⟨_,(ah (aA (av (bi (K:=K) Z u) (bq (Th K) T.n_len Tw (ad (aa 1) ae)) ag (aq _)) (ah (aM (i:=3) sC.nd Z (.inl Z) (fH (Ca T) x (aa 0) (ad (aB (Ti K) (aa 1) ag (λ_ _=>rfl)) (ad (aa 2) ae))))
  (aj (ap (ie (av gN (aa 3) bD (aq _)) bD (bS (ad (aa 3) (ad (aa 2) ae))))))) aF)
  (ah (aA (bG (eG (av (bi (K:=K) rfl u) (bq (Th K) T.n_len Tw (ad (aa 1) ae)) ag (aq _)) (fD (av (bi (K:=K) rfl u) (aB (Ti K) (aa 1) ag (λ_ _=>rfl)) (aB (Ti K) (jl (v:=.ref t.nZ) rfl T.C4 rfl) (aG dw ag (aa 2)) (λ_ _=>rfl)) (aq _))))) (ah (aM (i:=3) sC.nd rfl (.inl rfl) (fH (Ca T) x (aa 0) (ad (aB (Ti K) (aa 1) ag (λ_ _=>rfl)) (ad (aG dw ag (aa 2)) ae))))
  (aj (ap (ie (bG (ck (av gN (aa 3) bD (aq _)) (cE (av (Cq u) (aa 3) (aB (Ti K) (aT (K:=K) rfl (aa 0)) (aa 2) (λ_ _=>rfl)) (by with_unfolding_all rfl))))) bD (bS (ad (aa 3) (ad (aG dw ag (aa 2)) ae))))))) aF)
  (aj (ap bD)))),?_⟩
 refine bc (.inl (.of r)) ?_;rcases ok with ⟨b,rfl,b0⟩|⟨c,rfl,c0⟩
 ·refine cz a f.dx _ Z l.o Z ?_;refine aY (.inl (.of r)) (aH (j:=0) Z) ?_;refine⟨a,f,ns,ms,b,g,Z,two,l,b0,?_⟩;unfold cQ at d ks;dsimp only at d ks;cases e:(ai g ns ms)[b.toNat]? with
  | none=>exact d (by rw[e];rfl)
  | some n=>exact⟨sz rfl,λp y g'=>ks n g (by rw[e];rfl) p y g'⟩
 ·have sh:cY (([254,255]:e7).map V.int) (1-g)=some (.int (254+(1-g))):=by
   rcases two with rfl|rfl<;>rfl
  refine bc (.inl (.of r)) ?_;refine aY (.inl (.of r)) (aH (j:=0) Z) ?_;refine aY (.inr (T.AF _)) sh ?_;refine ak (λ_=>?_) (λz=>Wx (show decide (254+(1-g)=254+(1-g))=true by simp) z);refine cz a f.dx _ Z l.o Z ?_;refine aY (.inl (.of r)) (aH (j:=1) Z) ?_;refine⟨a,f,ns,ms,c,1-g,Z,two.flip,l,c0,?_⟩;rw[G4 two];unfold cQ at d ks;dsimp only at d ks;cases e:(ai g ms ns)[c.toNat]? with
  | none =>
   rw[e]at d;exact d Z
  | some n =>
   rw[e]at d ks;dsimp only at d ks;obtain⟨s,B,m⟩:=l.dk two;refine bZ a _ f.dx _ _ Z l.o T.d8 T.sS Z ?_;refine bo _ (.ref (ai g f.d0 f.d1)) (.inl (.of l.p)) (by rw[nW two];exact congrArg some (mD V.ref _ _ _)) ?_;refine aY Z (fz.k (k:=.inl n) B) ?_;by_cases hn:n∈ai g ns ms
   ·rw[Ww hn]at d;obtain⟨i,D,_⟩:=jr hn;have C:bF s (.inl n)=some (.int (i:Int)):=by rw[m,D];rfl
    refine ak (λ_=>?_) (λz=>Wx (show (bF s (.inl n)).isSome=true by rw[C];rfl) z);exact d Z
   ·rw[Wv hn]at ks;have C:bF s (.inl n)=none:=by rw[m,gM.mpr hn];rfl
    refine ak (λz=>Wx (show (bF s (.inl n)).isSome=true from z) (by rw[C];decide)) (λ_=>?_);exact⟨sz Z,λp y g'=>ks n (1-g) Z p y g'⟩
def B8 (T:Txt w K mg t):eY P w K mg base t.cf "whole" 2 t.rj t.nB ["self", "row", "page"] [] (zC t) :=
 ⟨T.d8,T.K1,⟨_,T.Rr,.nil⟩,Ko T⟩
def cN(one a:e7):Bool:=decide (a.take one.length=one)
def GQ(K:PySem.W.Frag):Sp:=λvs H Q _=>∃(a b:Addr) (x y:e7),vs=[.ref a,.ref b]/\aE K H a (x.map V.int)/\aE K H b (y.map V.int)/\∀H',am H H'->Q (.bl (cN x y)) H'
def l8(ns:e7)(k:Nat):d7 (ns.map V.int) none (some (k:Int))=(ns.take k).map V.int:=by rw[gP,CW]
def tO (T:Txt w K mg t):bz P w K mg base "begins" 1 t.xX t.vh ["one", "other"] (GQ K):=by
 refine⟨T.OK,T.En.kp,T.Rj,T.En.okQ Ht (λvs H Q E h=>by obtain⟨a,b,x,y,rfl,_⟩:=h;rfl) λ_ _ _ _ H vs Q E e h=>?_⟩;obtain⟨a,b,x,y,rfl,d,hb,k⟩:=h;have f:=e.units;refine⟨_,(aj (ap (dG (bi (K:=K) Z f) (dO (Tj K) (aa 1) fE (da (bq (Th K) T.n_len Tw (ad (aa 0) ae)))) (aa 0) (aq _)))),?_⟩;refine⟨_,.inl d,_,Z,_,hb,λi g c=>?_⟩;rw[To,l8]at c;exact jw c.lst (c.sm.seq d) (k g c.sm)
def eU(P O:e7)(g:Int)(row:e7):Bool:=(cQ P O g row).isSome || (!(cw O P g).isEmpty && cN row (cw O P g))
def zJ(t:Adr):Sp:=λvs H Q _=>∃(a:Addr) (f:Fp) (ns ms:e7) (q:Addr) (row:e7) (g:Int),vs=[.ref a,.ref q,.int g]/\cJ g/\Tg t H a f ns ms/\H q=some (.lst (row.map V.int))/\rF g row /\
 (eU (ai g ns ms) (ai g ms ns) g row=false->∀H',am H H'->Q .non H')/\(eU (ai g ns ms) (ai g ms ns) g row=true->∀p (b:e7) H',am H H'->H' p=some (.lst (b.map V.int))->(cQ (ai g ns ms) (ai g ms ns) g row=none->b=(cw (ai g ms ns) (ai g ns ms) g).drop row.length)->Q (.ref p) H')
def KA (T:Txt w K mg t):bL P w K mg base bY 3 t.rl t.nC ["self", "row", "page"] (zJ t):=by
 refine T.Sh.okQ Hz (λvs H Q E h=>by obtain⟨o,f,ns,ms,q,row,g,rfl,_⟩:=h;rfl) λ_ _ _ _ H vs Q E r h=>?_;obtain⟨a,f,ns,ms,q,row,g,rfl,two,d,l,ok,i,ks⟩:=h;have C:=r.units;refine⟨_,(ah (aA (av js (db (B8 T) r (aa 0) (ad (aa 1) (ad (aa 2) ae))) bD (aq _)) (aj (ap (bh ae))) aF)
  (ah (aA (bG (eG (dM (gu (K:=K) rfl (aa 1))) (fD (gu (K:=K) rfl (aB (Ti K) (aT (K:=K) rfl (aa 0)) (aa 2) (λ_ _=>rfl)))))) (aj (ap (bh (ad ag ae)))) aF)
  (ah (aA (bG (eG (gu (K:=K) rfl (aB (Ti K) (aT (K:=K) rfl (aa 0)) (aa 2) (λ_ _=>rfl))) (fD (dH (aP (tO T) r (ad (aa 1) (ad (aB (Ti K) (aT (K:=K) rfl (aa 0)) (aa 2) (λ_ _=>rfl)) ae))))))) (aj (ap (dO (Tj K) (aB (Ti K) (aT (K:=K) rfl (aa 0)) (aa 2) (λ_ _=>rfl)) (da (bq (Th K) T.n_len Tw (ad (aa 1) ae))) fE))) aF)
  (aj (ap bD))))),?_⟩
 refine cz a f.dx _ Z d.o Z ?_;refine⟨a,f,ns,ms,q,row,g,Z,two,d,l,ok,λhw=>?_,λn g' hw p x B=>?_⟩
 ·have u:row≠[]:=by
   rcases ok with ⟨b,rfl,_⟩|⟨c,rfl,_⟩<;>simp
  have rt:(!(row.map V.int).isEmpty)=true:=by
   cases row with
   | nil=>exact Wx rfl u
   | cons _ _=>rfl
  refine bc (.inl (.of l)) ?_;refine ak (λz=>Wx (show (!(!(row.map V.int).isEmpty))=true from z) (by rw[rt];decide)) (λ_=>?_);have es:cY [V.ref f.s0,V.ref f.s1] g=some (.ref (ai g f.s0 f.s1)):=by rw[nW two];exact congrArg some (mD V.ref _ _ _)
  have hs:=d.ss two;refine bZ a _ f.dx _ _ Z d.o T.d8 T.pE Z ?_;refine aY (.inl (.of d.s)) es ?_;refine bc (.inl (.of hs)) ?_;unfold eU at i ks;rw[hw]at i ks;refine ak (λz=>?_) (λz=>?_)
  ·have z:(!((cw (ai g ms ns) (ai g ns ms) g).map V.int).isEmpty)=true:=z;rw[List.isEmpty_map]at z;rw[z]at i ks;refine bZ a _ f.dx _ _ Z d.o T.d8 T.pE Z ?_;refine aY (.inl (.of d.s)) es ?_;refine⟨q,ai g f.s0 f.s1,row,_,Z,.of l,.of hs,λx s1=>?_⟩;refine ak (λy=>?_) (λy=>?_)
   ·have y:cN row (cw (ai g ms ns) (ai g ns ms) g)=true:=y;rw[y]at ks;have k:=d.mono s1;refine bZ a _ f.dx _ _ Z k.o T.d8 T.pE Z ?_;refine aY (.inl (.of k.s)) es ?_;refine⟨_,.inl (.of (s1 _ _ l)),_,Z,_,.of (s1 _ _ hs),λm v j=>?_⟩;rw[To,gP,nS]at j;exact ks Z m _ v (s1.trans j.sm) j.at_ (λ_=>rfl)
   ·have y:cN row (cw (ai g ms ns) (ai g ns ms) g)=false:=by
     cases e:cN row (cw (ai g ms ns) (ai g ns ms) g) with
     | false=>rfl
     | true=>exact Wx e y
    rw[y]at i;exact i Z x s1
  ·have z:(!((cw (ai g ms ns) (ai g ns ms) g).map V.int).isEmpty)=false:=by
    cases e:(!((cw (ai g ms ns) (ai g ns ms) g).map V.int).isEmpty) with
    | false=>rfl
    | true=>exact Wx e z
   rw[List.isEmpty_map]at z;rw[z]at i;exact i Z H (am.refl _)
 ·refine⟨sz Z,λm v j=>?_⟩;exact ks (by unfold eU;rw[hw];rfl) m [] v (B.sm.trans j.sm) j.at_ (λh=>by rw[hw]at h;cases h)
def Cc (T:Txt w K mg t):eY P w K mg base t.cf "fill" 3 t.rl t.nC ["self", "row", "page"] [] (zJ t) :=
 ⟨T.d8,T.K5,⟨_,T.Rx,.nil⟩,KA T⟩
def ik(P O:e7)(g:Int)(row:e7):List V:=match cQ P O g row with
 | some (n,g')=>[.str "sign",.int n,.int g']
 | none=>if eU P O g row=true then [.str "more",.non,.int g] else [.str "none",.non,.int g]
def fu(P O:e7):e7:=(fw P O).map λb:Nat=>(b:Int)
def lR{O P:e7}{c:Int}(a:0<=c):c∈fu O P ↔ ∃n,O[c.toNat]? = some n/\n∉P:=by
 unfold fu;rw[T0]
 constructor
 ·rintro⟨b,hb,rfl⟩;simpa using pI.mp hb
 ·rintro h;exact⟨c.toNat,pI.mpr h,by lia⟩
def Dn{O P:e7}:fu O P=[] ↔ fw O P=[]:=by unfold fu;simp
theorem Br{P O:e7}{g b:Int}(f:0<=b):ik P O g [b]=match P[b.toNat]? with
 | some n=>[.str "sign",.int n,.int g]
 | none=>if b=254+(1-g)/\fu O P≠[] then [.str "more",.non,.int g] else [.str "none",.non,.int g]:=by
 have hw:cQ P O g [b]=P[b.toNat]?.map λn=>(n,g):=rfl;unfold ik;rw[hw];cases e:P[b.toNat]? with
 | some n=>rfl
 | none =>
  have d:cQ P O g [b]=none:=by rw[hw,e];rfl
  dsimp only [Option.map];unfold eU;rw[d];rcases C8 O P g with hb|⟨i,hi,hb⟩
  ·have a:=Dn.mpr ((Qi O P g).mp hb);rw[hb,a];simp
  ·have a:fu O P≠[]:=λz=>by
    rw[Dn.mp z]at hi;cases hi
   rw[hb];unfold cN;by_cases c:b=254+(1-g)
   ·simp[c,a]
   ·have c':¬254+(1-g)=b:=λz=>c z.symm;simp[c,c']
def Bq {P O:e7} {g c:Int} (a:0<=c):ik P O g [254+(1-g),c]=if c∈fu O P then [.str "sign",.int (O.getD c.toNat 0),.int (1-g)] else [.str "none",.non,.int g]:=by
 by_cases h:c∈fu O P
 ·rw[Ww h];obtain⟨n,b,d⟩:=(lR a).mp h;unfold ik cQ;simp[b,d,U7]
 ·rw[Wv h];have hw:cQ P O g [254+(1-g),c]=none:=by
   unfold cQ;dsimp only;cases e:O[c.toNat]? with
   | none=>rfl
   | some n =>
    dsimp only;rw[Ww];exact Decidable.byContradiction λz=>h ((lR a).mpr ⟨n,e,z⟩)
  have hf:eU P O g [254+(1-g),c]=false:=by
   unfold eU;rw[hw];rcases C8 O P g with hb|⟨i,hi,hb⟩
   ·rw[hb];rfl
   ·rw[hb];unfold cN;have:¬(i:Int)=c:=λz=>h (by
     unfold fu;exact T0.mpr ⟨i,List.mem_of_mem_head? hi,z⟩)
    simp[this]
  unfold ik;rw[hw,hf]
  rfl
structure jE (H:Hp) (p:Addr) (s:Int) (r:e7):Prop where
 h:∃q,H p=some (.tup [.int s,.ref q])/\H q=some (.lst (r.map V.int))
 l:1<=r.length/\r.length<=6
def jE.mono{H c:Hp}{p:Addr}{s:Int}{r:e7}(h:jE H p s r)(k:am H c):jE c p s r:=by
 obtain⟨⟨q,a,b⟩,l⟩:=h
 exact⟨⟨q,k _ _ a,k _ _ b⟩,l⟩
def eV(e f:Int × e7):Bool:=decide (e.1=f.1) || cN e.2 f.2 || cN f.2 e.2
def GL:Sp:=λvs H Q _=>∃(a b:Addr) (e f:Int × e7),vs=[.ref a,.ref b]/\jE H a e.1 e.2/\jE H b f.1 f.2/\∀H',am H H'->Q (.bl (eV e f)) H'
def Nd (T:Txt w K mg t):bz P w K mg base "collide" 2 t.xR t.va ["one", "other"] GL:=by
 refine⟨T.OF,T.Ei.kp,T.Re,T.Ei.okQ Hn (λvs H Q E h=>by obtain⟨a,b,x,y,rfl,_⟩:=h;rfl) λ_ _ _ _ H vs Q E l h=>?_⟩;obtain⟨a,b,⟨s1,c⟩,⟨g,d⟩,rfl,⟨⟨m,i,e⟩,_⟩,⟨⟨n,hb,f⟩,_⟩,k⟩:=h;dsimp only at i e hb f;have p:=l.units;refine⟨_,(aj (ap (oY (dG (bi (K:=K) Z p) (aB (Ti K) (aa 0) ag (λ_ _=>rfl)) (aB (Ti K) (aa 1) ag (λ_ _=>rfl)) (aq _)) (oY (aP (tO T) l (ad (aB (Ti K) (aa 0) ag (λ_ _=>rfl)) (ad (aB (Ti K) (aa 1) ag (λ_ _=>rfl)) ae))) (fX (aP (tO T) l (ad (aB (Ti K) (aa 1) ag (λ_ _=>rfl)) (ad (aB (Ti K) (aa 0) ag (λ_ _=>rfl)) ae)))))))),?_⟩;refine aY (.inr (.of i)) (aH (j:=0) Z) ?_;refine aY (.inr (.of hb)) (aH (j:=0) Z) ?_;refine ak (λz=>?_) (λz=>?_)
 ·refine cX (k H (am.refl _)) ?_;have z:decide (s1=g)=true:=z;show (decide (s1=g) || cN c d || cN d c)=true;rw[z];rfl
 have z:¬decide (s1=g)=true:=z;refine aY (.inr (.of i)) (aH (j:=1) Z) ?_;refine aY (.inr (.of hb)) (aH (j:=1) Z) ?_;refine⟨m,n,c,d,Z,.of e,.of f,λo k1=>?_⟩;refine ak (λy=>?_) (λy=>?_)
 ·refine cX (k o k1) ?_;have y:cN c d=true:=y;show (decide (s1=g) || cN c d || cN d c)=true;rw[y];simp
 have y:¬cN c d=true:=y;refine aY (.inr (.of (k1 _ _ hb))) (aH (j:=1) Z) ?_;refine aY (.inr (.of (k1 _ _ i))) (aH (j:=1) Z) ?_;refine⟨n,m,d,c,Z,.of (k1 _ _ f),.of (k1 _ _ e),λq k2=>?_⟩;refine cX (k q (k1.trans k2)) ?_;show (decide (s1=g) || cN c d || cN d c)=cN d c;simp at z y;simp[z,y]
structure Es (es:List (Int × e7)):Prop where
 sg:∀e∈es,Sg e.1/\1<=e.2.length/\e.2.length<=6/\∀b∈e.2,0<=b/\b<=255
 pw:es.Pairwise λe f=>eV e f=false
 l:es.length<=64
def PF(e f:Int × e7):eV e f=eV f e:=by
 unfold eV;rw[show decide (e.1=f.1)=decide (f.1=e.1) by simp[eq_comm],Bool.or_assoc,Bool.or_assoc,Bool.or_comm (cN e.2 f.2)]
def Es.two{es:List (Int × e7)}(h:Es es){e f:Int × e7}(d:e∈es)(hf:f∈es):e=f\/eV e f=false:=by
 obtain⟨i,a,rfl⟩:=Vt.mp d;obtain⟨j,b,rfl⟩:=Vt.mp hf;rcases Nat.lt_trichotomy i j with c|c|c
 ·exact .inr (UP.mp h.pw i j a b c)
 ·subst c;exact .inl Z
 ·rw[PF];exact .inr (UP.mp h.pw j i b a c)
def ml(H:Hp)(ps:List Addr)(es:List (Int × e7)):Prop:=cK (λa e=>jE H a e.1 e.2) ps es
def ml.mono{H b:Hp}{ps:List Addr}{es:List (Int × e7)}(h:ml H ps es)(s:am H b):ml b ps es:=h.imp λa e z=>z.mono s
def FP(K:PySem.W.Frag):Sp:=λvs H Q _=>∃(q:Addr) (r:e7),vs=[.ref q]/\H q=some (.lst (r.map V.int))/\(∀b∈r,0<=b/\b<=255)/\r.length<=1000/\∀H',am H H'->Q (.bl true) H'
def M8 (T:Txt w K mg t):bz P w K mg base "is_row" 3 t.xL t.uU ["thing"] (FP K):=by
 refine⟨T.Ow,T.Ec.kp,T.Q7,T.Ec.okQ Hi (λvs H Q E h=>by obtain⟨q,r,rfl,_⟩:=h;rfl) λ_ _ _ _ H vs Q E d h=>?_⟩;obtain⟨q,r,rfl,a,hb,j,k⟩:=h;refine⟨_,(aj (ap (gv (bq (Tf K) T.n_isinstance Uq (ad (aa 0) (ad (ig rfl T.n_list T5) ae))) (fX (bq (wS (K:=K) rfl rfl) T.n_all VV (ad (gp rfl (dn.of (fns:=(ao jg).names) (N:=["thing"]) (Nc:=["each"]) (nv:=1) (caps:=[]) rfl rfl (by decide +kernel)) (fF (K:=K) rfl (aa 0)) (λ_ _ _ _=>(bn (i:=0) (show List.Nodup (["each"]:List Str) by decide +kernel) rfl (Or.inl rfl) (Or.inr rfl))) (λ_ _ _ _=>fW) (λ_ _ _ _=>(aP (Na T) d (ad (aa 0) ae)))) ae)))))),?_⟩;refine aY (.lst a) (by with_unfolding_all rfl) ?_;refine iN ?_;refine dL q rfl ⟨_,.of a⟩ (nU ((r.map λ_=>true).map V.bl) (by simp) (.of a) (cD (by rw[To];lia)) (λi x y f N hx b g hN=>?_) λl e c=>?_)
 ·obtain⟨o,ho,rfl⟩:=dY hx;rw[Tv,Tv,ho]at b;cases b;have:=hb o (TY ho);exact⟨_,rfl,.int _,cX (hN _ (am.refl _)) (by simp[dF];lia)⟩
 refine bc c.lst ?_;exact cX (k e c.sm) (by simp)
def GG(K:PySem.W.Frag):Sp:=λvs H Q _=>∃(p:Addr) (e:Int × e7),vs=[.ref p]/\jE H p e.1 e.2/\Sg e.1/\(∀b∈e.2,0<=b/\b<=255)/\∀H',am H H'->Q (.bl true) H'
def M9 (T:Txt w K mg t):bz P w K mg base "is_entry" 4 t.xO t.uX ["thing"] (GG K):=by
 refine⟨T.Oz,T.Ef.kp,T.Ra,T.Ef.okQ Hl (λvs H Q E h=>by obtain⟨p,e,rfl,_⟩:=h;rfl) λ_ _ _ _ H vs Q E b h=>?_⟩;obtain⟨p,⟨sg,r⟩,rfl,⟨⟨q,a,c⟩,l1,f⟩,hs,hb,k⟩:=h;dsimp only at a c l1 f hs hb;have d:=b.units;refine⟨_,(ah (aA (bG (ck (dM (dH (bq (Tf K) T.n_isinstance Uq (ad (aa 0) (ad (ig Z T.n_tuple Vu) ae))))) (cE (av (iP (K:=K) Z d) (bq (Th K) T.n_len Tw (ad (aa 0) ae)) ag (aq _))))) (aj (ap fG)) aF)
  (aj (ap (gv (aP (tL T) b (ad (aB (Ti K) (aa 0) ag (λ_ _=>rfl)) ae)) (gv (aP (M8 T) b (ad (aB (Ti K) (aa 0) ag (λ_ _=>rfl)) ae)) (fX (jm dE dE ag (bq (Th K) T.n_len Tw (ad (aB (Ti K) (aa 0) ag (λ_ _=>rfl)) ae)) (de T.P6)))))))),?_⟩
 refine aY (.tup a) (by with_unfolding_all rfl) ?_;refine ak (λz=>Wx z (by decide)) (λ_=>?_);refine bc (.inr (.of a)) ?_;refine aY (.inr (.of a)) (aH (j:=0) Z) ?_;refine dS Z (.int _) ?_;refine ak (λ_=>?_) (λz=>Wx ((h8 sg).mpr hs) z);refine aY (.inr (.of a)) (aH (j:=1) Z) ?_;refine⟨q,r,rfl,c,hb,by lia,λg s1=>?_⟩;refine iN ?_;refine aY (.inr (.of (s1 _ _ a))) (aH (j:=1) Z) ?_;refine bc (.inl (.of (s1 _ _ c))) ?_;refine ak (λz=>?_) (λz=>?_)
 ·exact cX (k g s1) (by rw[To];simp;lia)
 ·exact Wx (show decide ((1:Int)<=((r.map V.int).length:Int))=true by rw[To];simp;lia) z
def GM:Sp:=λvs H Q _=>∃(a:Addr) (ps:List Addr) (es:List (Int × e7)),vs=[.ref a]/\H a=some (.lst (ps.map V.ref))/\ml H ps es/\Es es/\∀H',am H H'->Q .non H'
def Pr(xs:List V)(k:Nat):d7 xs none (some (k:Int))=xs.take k:=CW xs k
def oX{qs:List Addr}{i:Nat}{x:V}(h:(qs.map V.ref)[i]? = some x):∃q,qs[i]? = some q/\x=.ref q:=by
 rw[Tv]at h;obtain⟨q,a,rfl⟩:=UO.mp h;exact⟨q,a,Z⟩
def Nf (T:Txt w K mg t):bz P w K mg base "check_table" 5 t.xT t.vd ["rows"] GM:=by
 refine⟨T.OG,T.Ej.kp,T.Rf,T.Ej.okQ mI (λvs H Q E h=>by obtain⟨a,ps,es,rfl,_⟩:=h;rfl) λ_ _ _ _ H vs Q E G h=>?_⟩;obtain⟨a,ps,es,rfl,v,C,ok,k⟩:=h;have hu:=G.units;refine⟨_,(ah (aA (av eT (bq (Th K) T.n_len Tw (ad (aa 0) ae)) (de T.P4) (aq _)) (aj jk) aF)
  (aj (eI PassesOwn.never rfl (mM (K:=K) rfl rfl T.n_enumerate (ad (aa 0) ae)) (ff (K:=K) rfl rfl (bR (bn (i:=1) mI.nd rfl (.inl rfl)) (bR (bn (i:=2) mI.nd rfl (.inl rfl)) fe))) (ah (aA (dM (dH (aP (M9 T) G (ad (aa 2) ae)))) (aj jk) aF)
  (aj (eI PassesOwn.never rfl (mM (K:=K) rfl rfl T.n_enumerate (ad (dO (Tj K) (aa 0) fE (da (aa 1))) ae)) (ff (K:=K) rfl rfl (bR (bn (i:=3) mI.nd rfl (.inl rfl)) (bR (bn (i:=4) mI.nd rfl (.inl rfl)) fe))) (aj (aA (dH (aP (Nd T) G (ad (aa 4) (ad (aa 2) ae)))) (aj jk) aF)))))))),?_⟩
 have lp:ps.length=es.length:=C.1;have a3:=ok.l;refine bc (.inl (.of v)) ?_;refine ak (λz=>?_) (λ_=>?_)
 ·have z:((ps.map V.ref).length:Int) > 64:=Wz z;rw[To]at z;lia
 refine bo a _ Z (.of v) (nh (K:=K) (a:=a) (xs:=ps.map V.ref) (λi σ g=>am H g/\∃O N c d,σ=[some (.ref a),O,N,c,d]) ⟨am.refl _,_,_,_,_,Z⟩ (λi σ g _ z=>z.1.seq (.of v)) ?_ ?_)
 ·rintro i x p σ R H3 hx ⟨I,O,N,c,d,rfl⟩ U;obtain⟨B,D,rfl⟩:=oX hx;obtain⟨e,M,J⟩:=C.right D;refine⟨p,_,Z,U.tup,Z,_,_,Z,_,_,Z,Z,?_⟩;have S:=I.trans U.sm;obtain⟨k1,k2,k3,k4⟩:=ok.sg e (TY M);refine⟨B,e,Z,J.mono S,k1,k4,λH4 s4=>?_⟩;refine ak (λz=>Wx (show (!true)=true from z) (by decide)) (λ_=>?_);have o:=S.trans s4;refine⟨_,Z,_,o.seq (.of v),λL Y s=>?_⟩;rw[Pr]at s;have n:=o.trans s.sm;refine bo L _ Z s.lst (nh (K:=K) (a:=L) (xs:=(ps.map V.ref).take i) (λj σ g=>am Y g/\∃c d,σ=[some (.ref a),some (.int (i:Int)),some (.ref B),c,d]) ⟨am.refl _,_,_,Z⟩ (λi σ g _ z=>z.1.seq s.lst) ?_ ?_)
  ·rintro j u pj σ H6 H7 b ⟨r,c,d,rfl⟩ F;have m:j<i:=by have:=(Tz.mp b).1;rw[TyZ]at this;lia
   rw[Vf m]at b;obtain⟨pu,y,rfl⟩:=oX b;obtain⟨f,hf,ef⟩:=C.right y;refine⟨pj,_,Z,F.tup,Z,_,_,Z,_,_,Z,Z,?_⟩;have q:=n.trans (r.trans F.sm);refine⟨pu,B,f,e,Z,ef.mono q,J.mono q,λH8 s8=>?_⟩;have nc:eV f e=false:=by
    obtain⟨a1,W⟩:=Tz.mp hf;obtain⟨a2,e2⟩:=Tz.mp M;rw[<- W,<- e2];exact UP.mp ok.pw j i a1 a2 m
   refine ak (λz=>Wx (show eV f e=true from z) (by rw[nc];decide)) (λ_=>?_);exact⟨r.trans (F.sm.trans s8),_,_,Z⟩
  ·rintro σ H6 ⟨r,c,d,rfl⟩;exact⟨n.trans r,_,_,_,_,Z⟩
 ·rintro σ R ⟨I,_⟩;exact k R I
structure Ft where
 dx:Addr
 d1:Addr
 d2:Addr
 d3:Addr
def dg(r:e7):List aQ:=r.map Sum.inl
def pR(r:e7):r.map V.int=(dg r).map kV:=by
 unfold dg;rw[U1];rfl
def pS{r s:e7}(h:dg r=dg s):r=s:=by
 unfold dg at h
 induction r generalizing s with
 | nil=>cases s with
  | nil=>rfl
  | cons _ _=>cases h
 | cons x r ih=>cases s with
  | nil=>cases h
  | cons y s=>simp at h;rw[h.1,ih (by simpa using h.2)]
def me(es:List (Int × e7))(row:e7):Prop:=∃e∈es,∃m,m<=e.2.length/\row=e.2.take m
def oh(H:Hp)(k3:List (List aQ × V))(es:List (Int × e7))(a:e7):Prop:=∃(q:Addr) (b:e7),bF k3 (dg a)=some (.ref q)/\H q=some (.tup (b.map V.int))/\∃e'∈es,e'.2=a++b
structure Kv (H:Hp) (k1:List (aQ × V)) (k2 k3:List (List aQ × V)) (es:List (Int × e7)):Prop where
 a:∀e∈es,∃q,bF k1 (.inl e.1)=some (.ref q)/\H q=some (.tup (e.2.map V.int))
 b:∀e∈es,bF k2 (dg e.2)=some (.int e.1)
 b':∀r:e7,(∀e∈es,e.2≠r)->bF k2 (dg r)=none
 c:∀e∈es,∀m,m<=e.2.length->oh H k3 es (e.2.take m)
 c':∀r:e7,¬me es r->bF k3 (dg r)=none
structure Tt (t:Adr) (H:Hp) (a:Addr) (f:Ft) (es:List (Int × e7)) (n:Nat):Prop where
 o:H a=some (.ins t.cv f.dx [("row_by_sign",.ref f.d1),("sign_by_row",.ref f.d2),("rest_by_row",.ref f.d3)])
 k:∃k1 k2 k3,H f.d1=some (.dK k1)/\H f.d2=some (.dT k2)/\H f.d3=some (.dT k3)/\k1.length<=n/\k2.length<=n/\k3.length<=n/\Kv H k1 k2 k3 es
 ne:f.d2≠f.d3
variable {H H':Hp}{a:Addr}{f:Ft}{es:List (Int × e7)}{n:Nat}
def Kv.mono{k1:List (aQ × V)}{k2 k3:List (List aQ × V)}(h:Kv H k1 k2 k3 es)(s:∀q xs,H q=some (.tup xs)->H' q=some (.tup xs)):Kv H' k1 k2 k3 es:=by
 refine⟨λe d=>?_,h.b,h.b',λe d m f=>?_,h.c'⟩
 ·obtain⟨q,x,y⟩:=h.a e d;exact⟨q,x,s _ _ y⟩
 ·obtain⟨q,g,x,y,z⟩:=h.c e d m f;exact⟨q,g,x,s _ _ y,z⟩
def Tt.mono(h:Tt t H a f es n)(s:am H H'):Tt t H' a f es n:=by
 obtain⟨o,⟨k1,k2,k3,g,j,c,l1,i,d,b⟩,ne⟩:=h;exact⟨s _ _ o,⟨k1,k2,k3,s _ _ g,s _ _ j,s _ _ c,l1,i,d,b.mono λq xs e=>s _ _ e⟩,ne⟩
def cU{c d:Addr}{u v:HO}(h:H c=some u)(k:H d=some v)(n:u≠v):c≠d:=λz=>by rw[z,k]at h;exact n (T9 h).symm
def eg(f:Ft)(H a:Hp):Prop:=∀c u,c≠f.d1->c≠f.d2->c≠f.d3->H c=some u->a c=some u
def eg.trans{H i g:Hp}(h:eg f H i)(h':eg f i g):eg f H g:=λc u d a b e=>h' c u d a b (h c u d a b e)
def eg.of{H a:Hp}(h:am H a):eg f H a:=λc u _ _ _ e=>h c u e
def Tt.tup{q:Addr}{xs:List V}(h:Tt t H a f es n)(b:H q=some (.tup xs))(k:eg f H H'):H' q=some (.tup xs):=by
 obtain⟨o,⟨k1,k2,k3,d,e,c,_⟩,ne⟩:=h;exact k _ _ (cU b d (by intro z;cases z)) (cU b e (by intro z;cases z)) (cU b c (by intro z;cases z)) b
def GF(t:Adr):Sp:=λvs H Q _=>∃(a:Addr) (f:Ft) (q:Addr) (n:Nat) (s:Int) (r:e7) (es:List (Int × e7)),vs=[.ref a,.int s,.ref q]/\Tt t H a f es n/\H q=some (.tup (r.map V.int))/\r.length<=6/\n<=1000/\(∀e∈es,e.1≠s/\e.2≠r) /\
 ∀H',Tt t H' a f (es++[(s,r)]) (n+9)->eg f H H'->Q .non H'
def Nm (T:Txt w K mg t):dz P w K mg base t.cv "enter" 1 t.x5 t.vi ["self", "sign", "row"] (GF t):=by
 refine⟨T.f9,T.K0,T.Rq,T.Sa.okQ Ab (λvs H Q E h=>by obtain⟨a,f,q,n,s,r,es,rfl,_⟩:=h;rfl) λ_ _ _ _ H vs Q E hr h=>?_⟩;obtain⟨a,f,q,n,sg,r,es,rfl,tb,hq,lr,ln,new,k⟩:=h;have hu:=hr.units;obtain⟨o,⟨k1,k2,k3,a1,a2,a3,l1,l2,l3,kv⟩,ne⟩:=id tb;refine⟨_,(ah (oZ hu (aT (K:=K) Z (aa 0)) (aa 1) (aa 2))
  (ah (oZ hu (aT (K:=K) rfl (aa 0)) (aa 2) (aa 1))
  (aj (eI PassesOwn.never rfl (mL rfl T.n_range (ad (aG (Te K) (bq (Th K) T.n_len Tw (ad (aa 2) ae)) ag) ae)) (bn (i:=3) Ab.nd rfl (.inl rfl)) (aj (oZ hu (aT (K:=K) rfl (aa 0)) (dO (tS (K:=K) rfl) (aa 2) fE (da (aa 3))) (dO (tS (K:=K) rfl) (aa 2) (da (aa 3)) fE))))))),?_⟩
 have a6:f.d1≠f.d2:=cU a1 a2 (by intro z;cases z);have a9:f.d1≠f.d3:=cU a1 a3 (by intro z;cases z);have L:a≠f.d1:=cU o a1 (by intro z;cases z);have J:a≠f.d2:=cU o a2 (by intro z;cases z);have N:a≠f.d3:=cU o a3 (by intro z;cases z);refine bZ a _ f.dx _ _ Z o T.f9 T.Bf Z ?_;refine bo f.d1 _ rfl (hW.k (k:=.inl sg) a1 (fV (by lia))) ?_;obtain⟨F,U⟩:∃F,F=upd H f.d1 (.dK (cF k1 (.inl sg) (.ref q))):=⟨_,rfl⟩;rw[<- U];have o1:eg f H F:=λc u m1 m2 m3 e=>by rw[U,au m1];exact e
 have b1:F f.d1=some (.dK (cF k1 (.inl sg) (.ref q))):=by rw[U,aV]
 have b2:F f.d2=some (.dT k2):=by rw[U,au a6.symm];exact a2
 have b3:F f.d3=some (.dT k3):=by rw[U,au a9.symm];exact a3
 clear U;refine bZ a _ f.dx _ _ Z (o1 _ _ L J N o) T.f9 T.sQ Z ?_;have ay:=tb.tup hq o1;refine bo f.d2 _ rfl (hW.t (k:=dg r) b2 (by rw[<- pR];exact ay) (fV (by lia))) ?_;obtain⟨H2,Y⟩:∃H2,H2=upd F f.d2 (.dT (cF k2 (dg r) (.int sg))):=⟨_,rfl⟩;rw[<- Y];have o2:eg f F H2:=λc u m1 m2 m3 e=>by rw[Y,au m2];exact e
 have c1:H2 f.d1=some (.dK (cF k1 (.inl sg) (.ref q))):=by rw[Y,au a6];exact b1
 have c2:H2 f.d2=some (.dT (cF k2 (dg r) (.int sg))):=by rw[Y,aV]
 have c3:H2 f.d3=some (.dT k3):=by rw[Y,au ne.symm];exact b3
 clear Y;have M:=o1.trans o2;have az:=tb.tup hq M;refine bc (.inr (.of az)) ?_;refine gk rfl (by rw[To];lia) (by rw[To];lia) ?_;rw[To];refine uc (lo:=0) (n:=((r.length:Int)+1).toNat) (λi σ W=>eg f H W/\W f.d1=some (.dK (cF k1 (.inl sg) (.ref q)))/\W f.d2=some (.dT (cF k2 (dg r) (.int sg)))/\(∃g,W f.d3=some (.dT g)/\g.length<=n+i/\(∀m,m<i->oh W g (es++[(sg,r)]) (r.take m))/\(∀e∈es,∀m,m<=e.2.length->oh W g (es++[(sg,r)]) (e.2.take m))/\(∀l,¬me (es++[(sg,r)]) l->bF g (dg l)=none))/\∃v3,σ=[some (.ref a),some (.int sg),some (.ref q),v3]) ⟨M,c1,c2,⟨k3,c3,by lia,(λm h=>Wx h (by lia)),(λe d m I=>?_),λl v=>kv.c' l λ⟨e,d,z⟩=>v ⟨e,Ub _ d,z⟩⟩,_,rfl⟩ ?_ ?_
 ·obtain⟨q',r2,x,y,e',av,z⟩:=kv.c e d m I;exact⟨q',r2,x,tb.tup y M,e',Ub _ av,z⟩
 ·rintro i σ H3 hi ⟨G,d1,d2,⟨g,d3,ao,j,p,S⟩,v3,rfl⟩;have B:=tb.tup hq G;refine⟨_,Z,_,.of B,B,λC H4 s4 h4=>?_⟩;refine bZ a _ f.dx _ _ Z (s4 _ _ (G _ _ L J N o)) T.f9 T.sR Z ?_;refine⟨_,Z,_,.of (s4 _ _ B),s4 _ _ B,λp5 H5 s5 h5=>?_⟩;rw[Int.zero_add,l8,pR]at h5;have O:=s4.trans s5;refine bo f.d3 _ rfl (hW.t (k:=dg (r.take i)) (O _ _ d3) h5 (fV (by lia))) ?_;obtain⟨R,e6⟩:∃R,R=upd H5 f.d3 (.dT (cF g (dg (r.take i)) (.ref C))):=⟨_,rfl⟩;rw[<- e6];have t6:∀c u,c≠f.d3->H3 c=some u->R c=some u:=λc u m e=>by rw[e6,au m];exact O _ _ e
  have ap:C≠f.d3:=cU (s5 _ _ h4) (O _ _ d3) (by intro z;cases z);have aB:R C=some (.tup (d7 (r.map V.int) (some (0+(i:Int))) none)):=by rw[e6,au ap];exact s5 _ _ h4
  have b6:R f.d3=some (.dT (cF g (dg (r.take i)) (.ref C))):=by rw[e6,aV]
  clear e6;have D:R C=some (.tup ((r.drop i).map V.int)):=by
   rw[aB,Int.zero_add,gP];exact congrArg _ (congrArg _ (congrArg _ (nS r i)))
  have keep:∀l,oh H3 g (es++[(sg,r)]) l->oh R (cF g (dg (r.take i)) (.ref C)) (es++[(sg,r)]) l:=by
   rintro l ⟨q',r2,x,y,z⟩;by_cases c:dg l=dg (r.take i)
   ·have c':=pS c;exact⟨C,r.drop i,by rw[gT,Ww c],D,(sg,r),by simp,by rw[c',UQ]⟩
   ·exact⟨q',r2,by rw[gT,Wv c];exact x,t6 _ _ (cU y d3 (by intro z;cases z)) y,z⟩
  refine⟨λc u m1 m2 m3 e=>t6 _ _ m3 (G c u m1 m2 m3 e),t6 _ _ a9 d1,t6 _ _ ne d2,⟨_,b6,?_,λm I=>?_,(λe d m I=>keep _ (p e d m I)),λl v=>?_⟩,_,Z⟩
  ·have:=mW g (dg (r.take i)) (.ref C);lia
  ·by_cases c:m<i
   ·exact keep _ (j m c)
   ·obtain rfl:m=i:=by lia
    exact⟨C,r.drop m,by rw[gT,Ww rfl],D,(sg,r),by simp,by rw[UQ]⟩
  ·rw[gT,Wv (λz=>v ⟨(sg,r),by simp,i,by dsimp only;lia,pS z⟩)];exact S l v
 ·rintro σ H3 ⟨G,d1,d2,⟨g,d3,ao,j,p,S⟩,_⟩;refine k _ ⟨G _ _ L J N o,⟨_,_,g,d1,d2,d3,?_,?_,by lia,?_⟩,ne⟩ G
  ·have:=mW k1 (.inl sg) (.ref q);lia
  ·have:=mW k2 (dg r) (.int sg);lia
  ·refine⟨λe d=>?_,λe d=>?_,λr' a4=>?_,(λe d m I=>?_),S⟩
   ·rcases TL.mp d with d|d
    ·rw[gT,Wv (λz=>(new e d).1 (Sum.inl.inj z))];obtain⟨q',x,y⟩:=kv.a e d;exact⟨q',x,tb.tup y G⟩
    ·rw[TU.mp d,gT,Ww rfl];exact⟨q,Z,tb.tup hq G⟩
   ·rcases TL.mp d with d|d
    ·rw[gT,Wv (λz=>(new e d).2 (pS z))];exact kv.b e d
    ·rw[TU.mp d,gT,Ww rfl]
   ·rw[gT,Wv (λz=>a4 (sg,r) (by simp) (pS z).symm)];exact kv.b' r' λe d=>a4 e (by simp[d])
   ·rcases TL.mp d with d|d
    ·exact p e d m I
    ·rw[TU.mp d]at I ⊢;exact j m (by dsimp only at I;lia)
def zE(t:Adr):Sp:=λvs H Q _=>∃(a dx p:Addr) (ps:List Addr) (es:List (Int × e7)),vs=[.ref a,.ref p]/\H a=some (.ins t.cv dx [])/\H p=some (.lst (ps.map V.ref))/\ml H ps es/\Es es /\
 ∀f H',Kp a H H'->Tt t H' a f es 1000->Q .non H'
def Tt.up{H:Hp}{a:Addr}{f:Ft}{es:List (Int × e7)}{n m:Nat}(h:Tt t H a f es n)(g:n<=m):Tt t H a f es m:=by
 obtain⟨o,⟨k1,k2,k3,d,e,c,l1,j,i,b⟩,ne⟩:=h;exact⟨o,⟨k1,k2,k3,d,e,c,by lia,by lia,by lia,b⟩,ne⟩
def Kq (T:Txt w K mg t):bL P w K mg base bY 6 t.rh t.qm ["self", "rows"] (zE t):=by
 refine T.R8.okQ zZ (λvs H Q E h=>by obtain⟨a,dx,p,ps,es,rfl,_⟩:=h;rfl) λ_ _ _ _ H vs Q E hr h=>?_;obtain⟨a,dx,p,ps,es,rfl,D,U,Y,ok,kq⟩:=h;have hu:=hr.units;refine⟨_,(ah (eJ (aP (Nf T) hr (ad (aa 1) ae)))
  (ah (dN (K:=K) rfl (aa 0) AD)
  (ah (dN (K:=K) rfl (aa 0) AC)
  (ah (dN (K:=K) rfl (aa 0) AC)
  (aj (eI PassesOwn.never rfl (fF (K:=K) rfl (aa 1)) (bn (i:=2) zZ.nd rfl (.inl rfl)) (aj (eJ (fH (Nm T) hr (aa 0) (ad (aB (Ti K) (aa 2) ag (λ_ _=>rfl)) (ad (cr (wR (K:=K) rfl) T.n_tuple Vu (ad (aB (Ti K) (aa 2) ag (λ_ _=>rfl)) ae)) ae))))))))))),?_⟩
 refine⟨p,ps,es,Z,U,Y,ok,λH1 s1=>?_⟩;refine λd1 H2 k=>?_;refine dB a _ dx _ rfl (k.sm _ _ (s1 _ _ D)) T.f9 T.Bf (Ts VU (by decide)) ?_;obtain⟨s,R⟩:∃s,s=upd H2 a (HO.ins t.cv dx (cG "row_by_sign" (.ref d1) [])):=⟨_,rfl⟩;have a3:s a=some (.ins t.cv dx [("row_by_sign",.ref d1)]):=by rw[R,aV];rfl
 have k3:Kp a H2 s:=by rw[R];exact Kp.upd
 rw[<- R];clear R;refine λd2 H4 I=>?_;refine dB a _ dx _ rfl (I.sm _ _ a3) T.f9 T.sQ (Ts (TR 1) (by decide)) ?_;obtain⟨g,O⟩:∃g,g=upd H4 a (HO.ins t.cv dx (cG "sign_by_row" (.ref d2) [("row_by_sign",.ref d1)])):=⟨_,rfl⟩;have a5:g a=some (.ins t.cv dx [("row_by_sign",.ref d1),("sign_by_row",.ref d2)]):=by rw[O,aV];rfl
 have k5:Kp a H4 g:=by rw[O];exact Kp.upd
 rw[<- O];clear O;refine λd3 H6 v=>?_;refine dB a _ dx _ rfl (v.sm _ _ a5) T.f9 T.sR (Ts (TR 2) (by decide)) ?_;obtain⟨d,S⟩:∃d,d=upd H6 a (HO.ins t.cv dx (cG "rest_by_row" (.ref d3) [("row_by_sign",.ref d1),("sign_by_row",.ref d2)])):=⟨_,rfl⟩;have a7:d a=some (.ins t.cv dx [("row_by_sign",.ref d1),("sign_by_row",.ref d2),("rest_by_row",.ref d3)]):=by rw[S,aV];rfl
 have k7:Kp a H6 d:=by rw[S];exact Kp.upd
 rw[<- S];clear S;have n1:d1≠a:=(ba (s1 _ _ D) k.nw).symm;have n2:d2≠a:=(ba a3 I.nw).symm;have n3:d3≠a:=(ba a5 v.nw).symm;have M:Kp a s g:=(Kp.of I.sm).trans k5;have C:Kp a g d:=(Kp.of v.sm).trans k7;have B:Kp a s d:=M.trans C;have W:Kp a H1 d:=(Kp.of k.sm).trans (k3.trans B);have a9:Kp a H d:=(Kp.of s1).trans W;have b2:g d2=some (.dT []):=k5 _ _ n2 I.at_;have a4:d2≠d3:=ba b2 v.nw;have tb:Tt t d a ⟨dx,d1,d2,d3⟩ [] 0:=⟨a7,⟨[],[],[],B _ _ n1 (k3 _ _ n1 k.at_),C _ _ n2 b2,k7 _ _ n3 v.at_,Tp _,Tp _,Tp _,⟨(λe h=>nomatch h),(λe h=>nomatch h),(λr _=>rfl),(λe h=>nomatch h),(λr _=>rfl)⟩⟩,a4⟩;have f1:H d1=none:=s1.free k.nw;have f2:∀c u,H c=some u->c≠a->c≠d2:=λc u e n=>ba (k3 _ _ n (k.sm _ _ (s1 _ _ e))) I.nw;have f3:∀c u,H c=some u->c≠a->c≠d3:=λc u e n=>ba (M _ _ n (k3 _ _ n (k.sm _ _ (s1 _ _ e)))) v.nw;have lx:=Y.1;have aA:=ok.l;have f:∀b,eg ⟨dx,d1,d2,d3⟩ d b->Kp a H b:=λb o c u n e=>o c u (ba e f1) (f2 c u e n) (f3 c u e n) (a9 c u n e);have px:∀b,eg ⟨dx,d1,d2,d3⟩ d b->b p=some (.lst (ps.map V.ref)):=λb o=>f b o _ _ (cU U D (by intro z;cases z)) U;refine dL p rfl ⟨_,.of (px d (eg.of (am.refl _)))⟩ (l7 (K:=K) (a:=p) (xs:=ps.map V.ref) (λi σ b=>Tt t b a ⟨dx,d1,d2,d3⟩ (es.take i) (i*9)/\eg ⟨dx,d1,d2,d3⟩ d b/\∃v2,σ=[some (.ref a),some (.ref p),v2]) ⟨tb.up (by lia),eg.of (am.refl _),_,rfl⟩ (λi σ b _ z=>.of (px b z.2.1)) ?_ ?_)
 ·rintro i x σ H8 hx ⟨N,F,v2,rfl⟩;obtain⟨pe,y,rfl⟩:=oX hx;obtain⟨e,he,⟨q,J,L⟩,l1,l6⟩:=Y.right y;have G:=f _ F _ _ (cU J D (by intro z;cases z)) J;have a0:=f _ F _ _ (cU L D (by intro z;cases z)) L;have hi:i<ps.length:=(Tz.mp y).1;refine cz a dx _ Z N.o Z ?_;refine aY (.inr (.of G)) (aH (j:=0) Z) ?_;refine aY (.inr (.of G)) (aH (j:=1) Z) ?_;refine bc (.of a0) (λpt H9 g9=>?_);refine⟨a,⟨dx,d1,d2,d3⟩,pt,i*9,e.1,e.2,es.take i,rfl,N.mono g9.sm,g9.at_,l6,by lia,λe' a1=>?_,λHA tA oA=>?_⟩
  ·obtain⟨j,hj,rfl⟩:=Vt.mp a1;obtain⟨a2,e2⟩:=Tz.mp he;rw[TyZ]at hj;have m:=UP.mp ok.pw j i (by lia) a2 (by lia);rw[e2]at m;rw[List.getElem_take];unfold eV cN at m;refine⟨λz=>?_,λz=>?_⟩
   ·rw[WA z]at m;cases m
   ·rw[z]at m;simp at m
  ·have et:es.take (i+1)=es.take i++[(e.1,e.2)]:=fA he;rw[et];exact⟨tA.up (by lia),F.trans ((eg.of g9.sm).trans oA),_,rfl⟩
 ·rintro σ H8 ⟨t8,F,_⟩;rw[To,lx,TK]at t8;exact kq _ _ (f _ F) (t8.up (by lia))
def Mz (T:Txt w K mg t):oo P w K mg base "TableTongue" t.cv 6 t.rh t.qm ["self", "rows"] [] (zE t):=⟨T.NH,T.Lp,⟨[],T.Rn,.nil⟩,Kq T⟩
def zz(t:Adr):Sp:=λvs H Q _=>∃(a:Addr) (f:Ft) (es:List (Int × e7)) (q:Addr) (row:e7) (g:Int),vs=[.ref a,.ref q,.int g]/\Tt t H a f es 1000/\Es es/\H q=some (.lst (row.map V.int)) /\
 ((∀e∈es,e.2≠row)->∀H',am H H'->Q .non H')/\(∀e∈es,e.2=row->∀p H',am H H'->H' p=some (.tup [.int e.1,.int g])->Q (.ref p) H')
def Kl (T:Txt w K mg t):bL P w K mg base bY 2 t.rg t.ny ["self", "row", "page"] (zz t):=by
 refine T.R7.okQ zY (λvs H Q E h=>by obtain⟨o,f,es,q,row,g,rfl,_⟩:=h;rfl) λ_ _ _ _ H vs Q E B h=>?_;obtain⟨a,f,es,q,row,g,rfl,s,ok,y,u,ks⟩:=h;have C:=B.units;refine⟨_,(ah (aM (i:=3) zY.nd Z (.inl Z) (AE C (aT (K:=K) Z (aa 0)) (cr (wR (K:=K) Z) T.n_tuple Vu (ad (aa 1) ae))))
  (aj (ap (ie (av gN (aa 3) bD (aq _)) bD (bS (ad (aa 3) (ad (aa 2) ae))))))),?_⟩
 obtain⟨o,⟨k1,k2,k3,I,r,G,_,_,_,n⟩,ne⟩:=id s;refine bZ a _ f.dx _ _ Z o T.f9 T.sQ Z ?_;refine dL f.d2 Z (.inr ⟨_,.inl r⟩) ?_;refine bc (.of y) (λF x j=>?_);have l:=j.at_;rw[pR]at l;refine bc (fz.t (j.sm _ _ r) l) ?_;by_cases c:∀e∈es,e.2≠row
 ·rw[n.b' row c];exact u c x j.sm
 ·obtain⟨e,v⟩:=Classical.not_forall.mp c;obtain⟨m,d⟩:=Classical.not_imp.mp v;have d:e.2=row:=Classical.not_not.mp d;have p:=n.b e m;rw[d]at p;rw[p];exact⟨sz Z,λz D k=>ks e m d z D (j.sm.trans k.sm) k.at_⟩
def Nk (T:Txt w K mg t):eY P w K mg base t.cv "whole" 2 t.rg t.ny ["self", "row", "page"] [] (zz t) :=
 ⟨T.f9,T.KY,⟨_,T.Rm,.nil⟩,Kl T⟩
def zI(t:Adr):Sp:=λvs H Q _=>∃(a:Addr) (f:Ft) (es:List (Int × e7)) (q:Addr) (row:e7) (g:Int),vs=[.ref a,.ref q,.int g]/\Tt t H a f es 1000/\H q=some (.lst (row.map V.int)) /\
 (me es row->∀p (b:e7) H',am H H'->H' p=some (.lst (b.map V.int))->(∃e'∈es,e'.2=row++b)->Q (.ref p) H')/\(¬me es row->∀H',am H H'->Q .non H')
def Kw (T:Txt w K mg t):bL P w K mg base bY 3 t.ri t.nA ["self", "row", "page"] (zI t):=by
 refine T.R9.okQ Aa (λvs H Q E h=>by obtain⟨o,f,es,q,row,g,rfl,_⟩:=h;rfl) λ_ _ _ _ H vs Q E D h=>?_;obtain⟨a,f,es,q,row,g,rfl,u,y,k,s⟩:=h;have F:=D.units;refine⟨_,(ah (aM (i:=3) Aa.nd Z (.inl Z) (AE F (aT (K:=K) Z (aa 0)) (cr (wR (K:=K) Z) T.n_tuple Vu (ad (aa 1) ae))))
  (aj (ap (ie (av gN (aa 3) bD (aq _)) bD (cr (Tk K) T.n_list T5 (ad (aa 3) ae)))))),?_⟩
 obtain⟨o,⟨k1,k2,k3,M,N,l,_,_,_,p⟩,ne⟩:=id u;refine bZ a _ f.dx _ _ Z o T.f9 T.sR Z ?_;refine dL f.d3 Z (.inr ⟨_,.inl l⟩) ?_;refine bc (.of y) (λJ x b=>?_);have n:=b.at_;rw[pR]at n;refine bc (fz.t (b.sm _ _ l) n) ?_;by_cases c:me es row
 ·obtain⟨e,v,m,C,rfl⟩:=id c;obtain⟨L,B,G,d,r⟩:=p.c e v m C;rw[G];exact⟨_,.inr (.of (b.sm _ _ d)),λz I j=>k c z B I (b.sm.trans j.sm) j.at_ r⟩
 ·rw[p.c' row c];exact s c x b.sm
def B7 (T:Txt w K mg t):eY P w K mg base t.cv "fill" 3 t.ri t.nA ["self", "row", "page"] [] (zI t) :=
 ⟨T.f9,T.KZ,⟨_,T.Ro,.nil⟩,Kw T⟩
inductive Kt where
 | ld
 | pr (h:Bool)
 | sh (f:Fp) (ns ms:e7)
 | tb (f:Ft) (es:List (Int × e7))
 | br
def TN(t:Adr)(H:Hp)(o:Addr):Kt->Prop
 | .ld=>∃dx,H o=some (.ins t.fO dx [])
 | .pr h=>Po t H o h
 | .sh f ns ms=>Tg t H o f ns ms
 | .tb f es=>Tt t H o f es 1000/\Es es
 | .br=>∃dx,H o=some (.ins t.fN dx [])
def TN.mono{H a:Hp}{o:Addr}{D:Kt}(h:TN t H o D)(s:am H a):TN t a o D:=by
 cases D with
 | ld=>obtain⟨dx,h⟩:=h;exact⟨dx,s _ _ h⟩
 | pr b=>exact Po.mono h s
 | sh f ns ms=>exact Tg.mono h s
 | tb f es=>exact⟨Tt.mono h.1 s,h.2⟩
 | br=>obtain⟨dx,h⟩:=h;exact⟨dx,s _ _ h⟩
def sr:Kt->Int->Int->Option (e7 × Int)
 | .ld,g,n=>some (row n,g)
 | .pr h,g,n=>some (cT h n,g)
 | .sh _ ns ms,g,n=>eE (ai g ns ms) (ai g ms ns) g (.int n)
 | .tb _ es,g,n=>(es.find? λe=>decide (e.1=n)).map λe=>(e.2,g)
 | .br,_,_=>none
def bM(D:Kt)(g n:Int):e7 × Int:=(sr D g n).getD ([],g)
def dJ:Kt->Int->Prop
 | .ld,n=>Sg n
 | .pr _,n=>Sg n
 | .sh _ ns ms,n=>n∈ns\/n∈ms
 | .tb _ es,n=>∃e∈es,e.1=n
 | .br,_=>False
def cu:Kt->Int->Prop
 | .sh _ _ _,g=>cJ g
 | _,g=>g=0
def FO{ns ms:e7}{g n:Int}(two:cJ g)(h:n∈ns\/n∈ms):∃r g',eE (ai g ns ms) (ai g ms ns) g (.int n)=some (r,g')/\cJ g'/\r.length<=2:=by
 have a:n∈ai g ns ms\/n∈ai g ms ns:=by
  rcases two with rfl|rfl
  ·exact h
  ·exact h.symm
 unfold eE;dsimp only;cases e:cW (ai g ns ms) n with
 | some i=>exact⟨_,_,rfl,two,by show (1:Nat)<=2;decide⟩
 | none =>
  dsimp only;have c:=gM.mp e;rcases a with a|a
  ·exact Wx a c
  ·obtain⟨i,b,_⟩:=jr a;rw[b];exact⟨_,_,rfl,two.flip,by show (2:Nat)<=2;decide⟩
def ju{es:List (Int × e7)}{n:Int}(h:∃e∈es,e.1=n):∃e∈es,e.1=n/\(es.find? λe=>decide (e.1=n))=some e:=by
 cases e:es.find? λe=>decide (e.1=n) with
 | none =>
  obtain⟨f,hf,rfl⟩:=h;have:=Ue.mp e f hf;simp at this
 | some f =>
  exact⟨f,UR e,by simpa using Ux e,rfl⟩
def rJ:Kt->Prop
 | .tb _ es=>Es es
 | _=>True
def so{D:Kt}{g n:Int}(tn:rJ D)(c:cu D g)(d:dJ D n):∃r g',sr D g n=some (r,g')/\bM D g n=(r,g')/\cu D g'/\r.length<=6:=by
 have key:∃r g',sr D g n=some (r,g')/\cu D g'/\r.length<=6:=by
  cases D with
  | ld=>exact⟨_,_,rfl,c,TH (Am n).2 (by decide)⟩
  | pr b=>exact⟨_,_,rfl,c,TH (Jp b n) (by decide)⟩
  | sh f ns ms =>
   obtain⟨r,g',e,two,l⟩:=FO c d;exact⟨r,g',e,two,by lia⟩
  | tb f es =>
   obtain⟨e,i,_,h⟩:=ju d;exact⟨e.2,g,by show Option.map _ _=_;rw[h];rfl,c,(Es.sg tn e i).2.2.1⟩
  | br=>exact d.elim
 obtain⟨r,g',e,a,b⟩:=key;exact⟨r,g',e,by unfold bM;rw[e];rfl,a,b⟩
def aw(D:Kt)(g:Int)(b:e7):e7 × Int:=b.foldl (λa n=>(a.1++(bM D a.2 n).1,(bM D a.2 n).2)) ([],g)
def mm(D:Kt)(g:Int)(a:e7)(n:Int):aw D g (a++[n])=((aw D g a).1++(bM D (aw D g a).2 n).1,(bM D (aw D g a).2 n).2):=by
 unfold aw;rw[VP]
 rfl
theorem yB{D:Kt}{g:Int}(tn:rJ D)(d:cu D g):∀(m:Nat) (c:e7),(∀i n,i<m->c[i]? = some n->dJ D n)->cu D (aw D g (c.take m)).2/\(aw D g (c.take m)).1.length<=6*m
 | 0,c,_=>⟨d,Tp _⟩
 | m+1,c,h=>by
  obtain⟨a,b⟩:=yB tn d m c λi n j=>h i n (by lia);cases e:c[m]? with
  | none =>
   rw[Uj (by have:=Wo.mp e;lia)];rw[Uj (Wo.mp e)]at a b;exact⟨a,by lia⟩
  | some n =>
   rw[fA e,mm];obtain⟨r,g',_,f,pg,l⟩:=so tn a (h m n (by lia) e);rw[f];exact⟨pg,by rw[Tq];dsimp only;lia⟩
def RQ{D:Kt}{a:e7}(h:∀n∈a,dJ D n)(m:Nat):∀i n,i<m->a[i]? = some n->dJ D n:=λi n _ e=>h n (TY e)
def yN{g:e7}(h:dQ g)(b:∀x∈g,0<=x):Sg (eW g)/\row (eW g)=g:=by
 cases g with
 | nil=>exact h.elim
 | cons f r =>
  have l:=b f (TV ..);obtain⟨⟨_,ft⟩,a⟩:=h;obtain⟨d,i⟩:=(ni f r).mp ft
  match r,a,d,i with
  | [],a,_,_ =>
   have hf:f<128:=by
    have a:((0:Nat):Int)+1=lb f:=a;unfold lb at a;by_cases c:f<128
    ·exact c
    ·rw[Wv c]at a;(repeat' split at a)<;>omega
   show Sg f/\row f=[f];refine⟨by unfold Sg;omega,?_⟩;unfold row;rw[Ww hf]
  | [x],a,d,i =>
   have a:((1:Nat):Int)+1=lb f:=a;have hx:=d x (by simp);have e:eW [f,x]=(f-192)*64+(x-128):=by simp[eW,gK,cb]
   have hf:194<=f/\f<224:=by
    unfold lb at a
    (repeat' split at a)<;>omega
   rw[e];refine⟨by unfold Sg;omega,?_⟩;unfold row;rw[Wv (by omega),Ww (by omega)]
   congr 1
   ·omega
   ·congr 1;omega
  | [x,y],a,d,i =>
   have a:((2:Nat):Int)+1=lb f:=a;have hx:=d x (by simp);have k:=d y (by simp);have j:=i x rfl;have e:eW [f,x,y]=(f-224)*4096+(x-128)*64+(y-128):=by simp[eW,gK,cb];omega
   have hf:224<=f/\f<240:=by
    unfold lb at a
    (repeat' split at a)<;>omega
   have z:(f=224->160<=x)/\(f=237->x<=159)/\(f=238->x<=187):=by
    unfold eQ eR at j;refine⟨λc=>?_,λc=>?_,λc=>?_⟩<;>subst c<;>simp at j<;>omega
   rw[e];refine⟨by unfold Sg;omega,?_⟩;unfold row;rw[Wv (by omega),Wv (by omega),Ww (by omega)]
   congr 1
   ·omega
   ·congr 1
    ·omega
    ·congr 1;omega
  | [x,y,v],a,d,i =>
   have a:((3:Nat):Int)+1=lb f:=a;have hx:=d x (by simp);have k:=d y (by simp);have m:=d v (by simp);have j:=i x rfl;have e:eW [f,x,y,v]=(f-240)*262144+(x-128)*4096+(y-128)*64+(v-128):=by simp[eW,gK,cb];omega
   have hf:240<=f/\f<=244:=by
    unfold lb at a
    (repeat' split at a)<;>omega
   have z:(f=240->144<=x)/\(f=244->x<=143):=by
    unfold eQ eR at j;refine⟨λc=>?_,λc=>?_⟩<;>subst c<;>simp at j<;>omega
   rw[e];refine⟨by unfold Sg;omega,?_⟩;unfold row;rw[Wv (by omega),Wv (by omega),Wv (by omega)]
   congr 1
   ·omega
   ·congr 1
    ·omega
    ·congr 1
     ·omega
     ·congr 1;omega
  | _::_::_::_::r,a,_,_ =>
   exfalso
   have:=(mY f).2;simp at a;omega
def yO(h:Bool){r:e7}{n:Int}(hb:bj r)(e:ca h r=some n):Sg n/\cT h n=r:=by
 unfold ca at e;by_cases c:r.length=2\/r.length=4
 ·rw[Ww c]at e;rcases c with c|c
  ·match r,c with
   | [x,y],_ =>
    have hx:=hb x (by simp);have a:=hb y (by simp);have e:gF [u2 h x y]=some n:=e;have e:(if dP (.int (u2 h x y))=true then some (u2 h x y) else none)=some n:=e;by_cases d:dP (.int (u2 h x y))=true
    ·rw[Ww d]at e;cases e;refine⟨(h8 _).mp d,?_⟩;unfold cT cR u2;cases h
     ·simp[ub];rw[Ww (by omega)];simp[ub];omega
     ·simp[ub];rw[Ww (by omega)];simp[ub];omega
    ·rw[Wv d]at e;cases e
  ·match r,c with
   | [x,y,z,v],_ =>
    have hx:=hb x (by simp);have a:=hb y (by simp);have hz:=hb z (by simp);have b:=hb v (by simp);have e:gF [u2 h x y,u2 h z v]=some n:=e;unfold gF at e;simp only at e
    split at e
    ·cases e;rename_i d;cases h
     ·simp[u2]at d ⊢;refine⟨by unfold Sg;omega,?_⟩;unfold cT cR;rw[Wv (by omega)];simp[ub];omega
     ·simp[u2]at d ⊢;refine⟨by unfold Sg;omega,?_⟩;unfold cT cR;rw[Wv (by omega)];simp[ub];omega
    ·cases e
 ·rw[Wv c]at e;cases e
def su{ns ms:e7}{g n:Int}(two:cJ g)(h:n∈ns\/n∈ms):∃r g',eE (ai g ns ms) (ai g ms ns) g (.int n)=some (r,g')/\cJ g'/\((∃b:Int,r=[b]/\0<=b/\(ai g ns ms)[b.toNat]? = some n/\g'=g)\/(∃c:Int,r=[254+(1-g),c]/\0<=c/\(ai g ms ns)[c.toNat]? = some n/\n∉ai g ns ms/\g'=1-g)):=by
 have a:n∈ai g ns ms\/n∈ai g ms ns:=by
  rcases two with rfl|rfl
  ·exact h
  ·exact h.symm
 unfold eE;dsimp only;cases e:cW (ai g ns ms) n with
 | some i=>exact⟨_,_,rfl,two,.inl ⟨(i:Int),rfl,by lia,by simpa using (iO e).1,rfl⟩⟩
 | none =>
  dsimp only;have f:=gM.mp e;rcases a with a|a
  ·exact Wx a f
  ·obtain⟨i,d,_⟩:=jr a;rw[d];exact⟨_,_,rfl,two.flip,.inr ⟨(i:Int),rfl,by lia,by simpa using (iO d).1,f,rfl⟩⟩
def oJ{f:Fp}{ns ms:e7}{g n:Int}{r:e7}{g':Int}(e:eE (ai g ns ms) (ai g ms ns) g (.int n)=some (r,g')):bM (.sh f ns ms) g n=(r,g'):=by
 show (eE (ai g ns ms) (ai g ms ns) g (.int n)).getD ([],g)=_;rw[e];rfl
def aN{x:Str}(h:PyData.strOk x=true):SeqAt.shaped (.str x)=true:=by
 simpa [SeqAt.shaped,PyData.canLay0,PyData.depth] using h
def y4{es:List (Int × e7)}(ok:Es es){e a:Int × e7}(d:e∈es)(b:a∈es){m:Nat}(f:m<=a.2.length)(h:e.2=a.2.take m):e=a/\m=a.2.length:=by
 have le:e.2.length=m:=by rw[h,TyZ];lia
 have c:eV e a=true:=by
  unfold eV cN;have:a.2.take e.2.length=e.2:=by rw[le,h]
  simp[this]
 rcases ok.two d b with rfl|z
 ·exact⟨rfl,le.symm⟩
 ·rw[z]at c;cases c
def zD:Sp:=λvs H Q _=>∃a b c:V,vs=[a,b,c]/\Q .non H
def Ni (T:Txt w K mg t):eY P w K mg base t.fN "whole" 1 t.xY t.qj ["self", "row", "page"] [] zD :=
 ⟨T.qV,T.KR,⟨_,T.Rk,.nil⟩,T.R3.okQ Hu (λvs H Q E h=>by obtain⟨a,b,c,rfl,_⟩:=h;rfl) λd A outer s H vs Q E e h=>by
  obtain⟨a,b,c,rfl,k⟩:=h;exact⟨_,(aj (ap bD)),k⟩⟩
def B5 (T:Txt w K mg t):eY P w K mg base t.fN "fill" 1 t.xZ t.qk ["self", "row", "page"] [] zD :=
 ⟨T.qV,T.KW,⟨_,T.Rl,.nil⟩,T.R6.okQ Hw (λvs H Q E h=>by obtain⟨a,b,c,rfl,_⟩:=h;rfl) λd A outer s H vs Q E e h=>by
  obtain⟨a,b,c,rfl,k⟩:=h;exact⟨_,(aj (ap bD)),k⟩⟩
inductive Lk where
 | sg (n g:Int)
 | mo
 | no
def Bu(g:Int):Lk->List V
 | .sg n g'=>[.str "sign",.int n,.int g']
 | .mo=>[.str "more",.non,.int g]
 | .no=>[.str "none",.non,.int g]
open Classical in
noncomputable def aZ:Kt->Int->e7->Lk
 | .ld,g,r=>if dQ r then .sg (eW r) g else if i6 r then .mo else .no
 | .pr h,g,r=>match ca h r with
  | some n=>.sg n g
  | none=>if cB h r=none then .no else .mo
 | .sh _ ns ms,g,r=>match cQ (ai g ns ms) (ai g ms ns) g r with
  | some (n,g')=>.sg n g'
  | none=>if eU (ai g ns ms) (ai g ms ns) g r=true then .mo else .no
 | .tb _ es,g,r=>match es.find? λe=>decide (e.2=r) with
  | some e=>.sg e.1 g
  | none=>if me es r then .mo else .no
 | .br,_,_=>.no
def Dm:Kt->Int->e7->Prop
 | .ld,_,r=>bj r/\r.length<=9
 | .pr _,_,r=>bj r/\r.length<=9
 | .sh _ _ _,g,r=>rF g r
 | .tb _ _,_,r=>bj r
 | .br,_,_=>True
def jM(t:Adr):Sp:=λvs H Q _=>∃(o q:Addr) (D:Kt) (g:Int) (r:e7),vs=[.ref o,.ref q,.int g]/\TN t H o D/\cu D g/\H q=some (.lst (r.map V.int))/\Dm D g r/\∀p H',am H H'->H' p=some (.tup (Bu g (aZ D g r)))->Q (.ref p) H'
def mR (T:Txt w K mg t):bL P w K mg base bY 7 t.gw t.iu ["self", "begun", "page"] (jM t):=by
 refine T.R5.okQ zX (λvs H Q E h=>by obtain⟨o,q,D,g,r,rfl,_⟩:=h;rfl) λ_ _ _ _ H vs Q E u h=>?_;obtain⟨o,q,D,g,r,rfl,tn,pg,y,F,k⟩:=h;have hu:=u.units;refine⟨_,(ah (aM (i:=3) zX.nd Z (.inl Z) (cS (db (Ni T) u (aa 0) (ad (aa 1) (ad (aa 2) ae))) (cS (db (Nz T) u (aa 0) (ad (aa 1) (ad (aa 2) ae))) (cS (db (Cf T) u (aa 0) (ad (aa 1) (ad (aa 2) ae))) (cS (db (B8 T) u (aa 0) (ad (aa 1) (ad (aa 2) ae))) (db (Nk T) u (aa 0) (ad (aa 1) (ad (aa 2) ae))))))))
  (ah (aA (av js (aa 3) bD (aq _)) (aj (ap (bS (ad aW (ad (aB (Ti K) (aa 3) ag (λ_ _=>rfl)) (ad (aB (Ti K) (aa 3) ag (λ_ _=>rfl)) ae)))))) aF)
  (ah (aA (av gN (cS (db (B5 T) u (aa 0) (ad (aa 1) (ad (aa 2) ae))) (cS (db (Cj T) u (aa 0) (ad (aa 1) (ad (aa 2) ae))) (cS (db (Ch T) u (aa 0) (ad (aa 1) (ad (aa 2) ae))) (cS (db (Cc T) u (aa 0) (ad (aa 1) (ad (aa 2) ae))) (db (B7 T) u (aa 0) (ad (aa 1) (ad (aa 2) ae))))))) bD (aq _)) (aj (ap (bS (ad aW (ad bD (ad (aa 2) ae)))))) aF)
  (aj (ap (bS (ad aW (ad bD (ad (aa 2) ae))))))))),?_⟩
 cases D with
 | br =>
  obtain⟨dx,ho⟩:=id tn;refine .inl ⟨o,dx,_,Z,ho,Z,_,_,_,Z,?_⟩;refine .inl ⟨o,dx,_,Z,ho,Z,_,_,_,Z,?_⟩;exact⟨sz Z,λd c a=>k d c a.sm a.at_⟩
 | ld =>
  obtain rfl:g=0:=pg;obtain⟨dx,ho⟩:=id tn;have R:r.length<=1000:=by have:=F.2;lia
  dsimp only [aZ]at k;refine .inr (.inl ⟨o,dx,_,Z,ho,Z,?_⟩);refine⟨o,q,_,Z,.of y,R,λU p x s=>?_,λnw x s1=>?_⟩
  ·rw[Ww U]at k;refine aY (.inr s.tup) (aH (j:=0) Z) ?_;refine aY (.inr s.tup) (aH (j:=1) Z) ?_;exact⟨sz Z,λd c a=>k d c (s.sm.trans a.sm) a.at_⟩
  ·rw[Wv nw]at k;refine .inr (.inl ⟨o,dx,_,Z,s1 _ _ ho,Z,?_⟩);refine⟨o,q,_,Z,.of (s1 _ _ y),R,λbg d c a=>?_,λS c C=>?_⟩
   ·rw[Ww bg]at k;exact⟨sz Z,λm l b=>k m l (s1.trans (a.sm.trans b.sm)) b.at_⟩
   ·rw[Wv S]at k;exact⟨sz Z,λm l b=>k m l (s1.trans (C.trans b.sm)) b.at_⟩
 | pr h =>
  obtain rfl:g=0:=pg;have po:Po t H o h:=tn;obtain⟨dx,ho⟩:=id po;have l9:=F.2;dsimp only [aZ]at k;refine .inr (.inr (.inl ⟨o,dx,_,Z,ho,Z,?_⟩));refine⟨o,q,h,_,rfl,po,.of y,F.1,by lia,λW N p x s=>?_,λN x s1=>?_⟩
  ·rw[N]at k;refine aY (.inr s.tup) (aH (j:=0) Z) ?_;refine aY (.inr s.tup) (aH (j:=1) Z) ?_;exact⟨sz Z,λd c a=>k d c (s.sm.trans a.sm) a.at_⟩
  ·rw[N]at k;dsimp only at k;refine .inr (.inr (.inl ⟨o,dx,_,Z,s1 _ _ ho,Z,?_⟩));refine⟨o,q,h,_,rfl,po.mono s1,.of (s1 _ _ y),F.1,by lia,λf v d c a=>?_,λv c C=>?_⟩
   ·rw[Wv (by rw[v];intro z;cases z)]at k;exact⟨sz Z,λm l b=>k m l (s1.trans (a.sm.trans b.sm)) b.at_⟩
   ·rw[Ww v]at k;exact⟨sz Z,λm l b=>k m l (s1.trans (C.trans b.sm)) b.at_⟩
 | sh f ns ms =>
  have two:cJ g:=pg;have G:Tg t H o f ns ms:=tn;dsimp only [aZ]at k;refine .inr (.inr (.inr (.inl ⟨o,f.dx,_,Z,G.o,Z,?_⟩)));refine⟨o,f,ns,ms,q,_,g,Z,two,G,y,F,λhw=>?_,λn g' hw p x s=>?_⟩
  ·rw[hw]at k;dsimp only at k;refine .inr (.inr (.inr (.inl ⟨o,f.dx,_,Z,G.o,Z,?_⟩)));refine⟨o,f,ns,ms,q,_,g,Z,two,G,y,F,λhf x s1=>?_,λhf V Y x s1 _ _=>?_⟩
   ·rw[Wv (by rw[hf];decide)]at k;exact⟨sz Z,λd c a=>k d c (s1.trans a.sm) a.at_⟩
   ·rw[Ww hf]at k;exact⟨sz Z,λd c a=>k d c (s1.trans a.sm) a.at_⟩
  ·rw[hw]at k;refine aY (.inr s.tup) (aH (j:=0) Z) ?_;refine aY (.inr s.tup) (aH (j:=1) Z) ?_;exact⟨sz Z,λd c a=>k d c (s.sm.trans a.sm) a.at_⟩
 | tb f es =>
  obtain rfl:g=0:=pg;obtain⟨I,ok⟩:=id tn;dsimp only [aZ]at k;refine .inr (.inr (.inr (.inr ⟨o,f.dx,_,Z,I.o,Z,?_⟩)));refine⟨o,f,es,q,_,0,Z,I,ok,y,λL x s1=>?_,λe J B p x s1 O=>?_⟩
  ·rw[show (es.find? λe=>decide (e.2=r))=none from Ue.mpr λe J=>by simpa using L e J]at k;dsimp only at k;refine .inr (.inr (.inr (.inr ⟨o,f.dx,_,Z,(I.mono s1).o,Z,?_⟩)));refine⟨o,f,es,q,_,0,Z,I.mono s1,s1 _ _ y,λrt d _ c C _ _=>?_,λM c C=>?_⟩
   ·rw[Ww rt]at k;exact⟨sz Z,λm l b=>k m l (s1.trans (C.trans b.sm)) b.at_⟩
   ·rw[Wv M]at k;exact⟨sz Z,λm l b=>k m l (s1.trans (C.trans b.sm)) b.at_⟩
  ·have v:(es.find? λe=>decide (e.2=r))=some e:=by
    cases v:es.find? λe=>decide (e.2=r) with
    | none=>exact Wx (WA B) (Ue.mp v e J)
    | some e' =>
     have h':e'.2=r:=by simpa using Ux v
     rcases ok.two (UR v) J with z|z
     ·rw[z]
     ·unfold eV cN at z;rw[h',B]at z;simp at z
   rw[v]at k;refine aY (.inr (.of O)) (aH (j:=0) Z) ?_;refine aY (.inr (.of O)) (aH (j:=1) Z) ?_;exact⟨sz Z,λm l b=>k m l (s1.trans b.sm) b.at_⟩
def Nj (T:Txt w K mg t):eY P w K mg base t.fN "look" 7 t.gw t.iu ["self", "begun", "page"] [] (jM t):=⟨T.qV,T.KU,⟨_,T.nV,.nil⟩,mR T⟩
def NA (T:Txt w K mg t):eY P w K mg base t.fO "look" 7 t.gw t.iu ["self", "begun", "page"] [] (jM t):=⟨T.qW,T.mt_LeadTongue_look,⟨_,T.nV,.nil⟩,mR T⟩
def Ny (T:Txt w K mg t):eY P w K mg base t.dj "look" 7 t.gw t.iu ["self", "begun", "page"] [] (jM t):=⟨T.iw,T.mt_PairTongue_look,⟨_,T.nV,.nil⟩,mR T⟩
def Nn (T:Txt w K mg t):eY P w K mg base t.cf "look" 7 t.gw t.iu ["self", "begun", "page"] [] (jM t):=⟨T.d8,T.mt_ShiftTongue_look,⟨_,T.nV,.nil⟩,mR T⟩
def Nl (T:Txt w K mg t):eY P w K mg base t.cv "look" 7 t.gw t.iu ["self", "begun", "page"] [] (jM t):=⟨T.f9,T.mt_TableTongue_look,⟨_,T.nV,.nil⟩,mR T⟩
def jL(u:Int):Sp:=λvs H Q _=>∃o:V,vs=[o]/\Q (.int u) H
def pC (T:Txt w K mg t):bL P w K mg base bY 1 t.hJ t.jv ["self"] (jL 1):=by
 refine T.R4.okQ Hv (λvs H Q E h=>by obtain⟨o,rfl,_⟩:=h;rfl) λ_ _ _ _ H vs Q E a h=>?_;obtain⟨o,rfl,k⟩:=h;exact⟨_,(aj (ap ag)),k⟩
def B4 (T:Txt w K mg t):dz P w K mg base t.fN "unit" 1 t.hJ t.jv ["self"] (jL 1):=⟨T.qV,T.KS,T.re,pC T⟩
def Ci (T:Txt w K mg t):dz P w K mg base t.fO "unit" 1 t.hJ t.jv ["self"] (jL 1):=⟨T.qW,T.mt_LeadTongue_unit,T.re,pC T⟩
def B9 (T:Txt w K mg t):dz P w K mg base t.cf "unit" 1 t.hJ t.jv ["self"] (jL 1):=⟨T.d8,T.mt_ShiftTongue_unit,T.re,pC T⟩
def B6 (T:Txt w K mg t):dz P w K mg base t.cv "unit" 1 t.hJ t.jv ["self"] (jL 1):=⟨T.f9,T.mt_TableTongue_unit,T.re,pC T⟩
def Cg (T:Txt w K mg t):dz P w K mg base t.dj "unit" 1 t.yj t.vB ["self"] (jL 2):=by
 refine⟨T.iw,T.Lh,T.RJ,T.Sw.okQ HK (λvs H Q E h=>by obtain⟨o,rfl,_⟩:=h;rfl) λ_ _ _ _ H vs Q E a h=>?_⟩;obtain⟨o,rfl,k⟩:=h;exact⟨_,(aj (ap ag)),k⟩
def cP:Kt->Prop
 | .sh _ ns ms=>dy ns/\dy ms
 | .tb _ es=>Es es
 | _=>True
def TN.koS{H:Hp}{o:Addr}{D:Kt}(h:TN t H o D):cP D:=by
 cases D with
 | sh f ns ms=>exact⟨Tg.k0 h,Tg.k1 h⟩
 | tb f es=>exact h.2
 | _=>exact trivial
def cP.kok{D:Kt}(h:cP D):rJ D:=by
 cases D with
 | tb f es=>exact h
 | _=>exact trivial
def Mr{D:Kt}{n:Int}(ok:cP D)(h:dJ D n):Sg n:=by
 cases D with
 | ld=>exact h
 | pr b=>exact h
 | sh f ns ms=>exact h.elim (ok.1.1 n) (ok.2.1 n)
 | tb f es =>
  obtain⟨e,a,rfl⟩:=h;exact (Es.sg ok e a).1
 | br=>exact h.elim
def tG{P:e7}{n:Int}{i:Nat}(nd:P.Nodup)(h:P[i]? = some n):cW P n=some i:=by
 obtain⟨j,a,_⟩:=jr (TY h);obtain⟨b,f⟩:=iO a;rcases Nat.lt_trichotomy i j with c|c|c
 ·exact Wx h (f i c)
 ·rw[c];exact a
 ·obtain⟨g,k⟩:=Tz.mp b;obtain⟨d,e⟩:=Tz.mp h;exact Wx (k.trans e.symm) (UP.mp nd j i g d c)
def tp{D:Kt}{g n g':Int}{r:e7}(ok:cP D)(pg:cu D g)(k:Dm D g r)(h:aZ D g r=.sg n g'):dJ D n/\bM D g n=(r,g')/\cu D g':=by
 cases D with
 | br=>cases h
 | ld =>
  dsimp only [aZ]at h;by_cases c:dQ r
  ·rw[Ww c]at h;cases h;obtain⟨a,b⟩:=yN c λx hx=>(k.1 x hx).1;refine⟨a,?_,pg⟩;show (row (eW r),g)=_;rw[b]
  ·rw[Wv c]at h
   split at h<;>cases h
 | pr b =>
  dsimp only [aZ]at h;cases e:ca b r with
  | some m =>
   rw[e]at h;cases h;obtain⟨a,j⟩:=yO b k.1 e;refine⟨a,?_,pg⟩;show (cT b n,g)=_;rw[j]
  | none =>
   rw[e]at h;dsimp only at h
   split at h<;>cases h
 | sh f ns ms =>
  dsimp only [aZ]at h;have two:cJ g:=pg;obtain⟨okP,okO⟩:=ok;have oP:=jN (g:=g) okP okO;have oO:=jN (g:=g) okO okP;cases e:cQ (ai g ns ms) (ai g ms ns) g r with
  | none =>
   rw[e]at h;dsimp only at h
   split at h<;>cases h
  | some z =>
   rw[e]at h;obtain⟨m,u⟩:=z;cases h;have i:∀ {x:Int},x∈ai g ns ms\/x∈ai g ms ns->x∈ns\/x∈ms:=λ{x} hx=>by
    rcases two with rfl|rfl
    ·exact hx
    ·exact hx.symm
   rcases k with ⟨b,rfl,b0⟩|⟨c,rfl,c0⟩
   ·have e:((ai g ns ms)[b.toNat]?.map λn=>(n,g))=some (n,g'):=e;obtain⟨m,d,j⟩:=UO.mp e;cases j;refine⟨i (.inl (TY d)),?_,pg⟩;show (eE (ai g ns ms) (ai g ms ns) g (.int n)).getD _=_;unfold eE;dsimp only;rw[tG oP.2.1 d];show (([(b.toNat:Int)],g):e7 × Int)=_;rw[VM b0]
   ·have e:(match (ai g ms ns)[c.toNat]? with|some n=>if n∈ai g ns ms then none else some (n,1-g)|none=>none)=some (n,g'):=e;cases d:(ai g ms ns)[c.toNat]? with
    | none=>rw[d]at e;cases e
    | some m =>
     rw[d]at e;dsimp only at e;by_cases hp:m∈ai g ns ms
     ·rw[Ww hp]at e;cases e
     ·rw[Wv hp]at e;cases e;refine⟨i (.inr (TY d)),?_,two.flip⟩;show (eE (ai g ns ms) (ai g ms ns) g (.int n)).getD _=_;unfold eE;dsimp only;rw[gM.mpr hp];dsimp only;rw[tG oO.2.1 d];show (([254+(1-g),(c.toNat:Int)],1-g):e7 × Int)=_;rw[VM c0]
 | tb f es =>
  dsimp only [aZ]at h;cases e:es.find? λe=>decide (e.2=r) with
  | none =>
   rw[e]at h;dsimp only at h
   split at h<;>cases h
  | some x =>
   rw[e]at h;cases h;have hx:=UR e;have p:x.2=r:=by simpa using Ux e
   refine⟨⟨x,hx,Z⟩,?_,pg⟩;obtain⟨y,l,o,q⟩:=ju (es:=es) (n:=x.1) ⟨x,hx,rfl⟩;have s:y=x:=by
    rcases Es.two ok l hx with z|z
    ·exact z
    ·unfold eV at z;rw[WA o]at z;cases z
   show (Option.map _ _).getD _=_;rw[q,s,<- p]
   rfl
def cn:Kt->Int->e7->Prop
 | .ld,_,r=>bj r/\r.length<=4
 | .pr _,_,r=>bj r/\r.length<=3
 | .sh _ _ _,g,r=>r=[]\/r=[254+(1-g)]
 | .tb _ _,_,r=>bj r/\r.length<=6
 | .br,_,r=>r=[]
def ay:Kt->Nat
 | .pr _=>2
 | _=>1
def cn.nil(D:Kt)(g:Int):cn D g []:=by
 cases D with
 | ld=>exact⟨(λ_ h=>nomatch h),TJ _⟩
 | pr b=>exact⟨(λ_ h=>nomatch h),TJ _⟩
 | sh f ns ms=>exact .inl rfl
 | tb f es=>exact⟨(λ_ h=>nomatch h),TJ _⟩
 | br=>rfl
def cn.byts{D:Kt}{g:Int}{r:e7}(pg:cu D g)(h:cn D g r):bj r/\r.length<=6:=by
 cases D with
 | ld=>exact⟨h.1,by have:=h.2;lia⟩
 | pr b=>exact⟨h.1,by have:=h.2;lia⟩
 | sh f ns ms =>
  have two:cJ g:=pg;rcases h with rfl|rfl
  ·exact⟨(λ_ h=>nomatch h),TJ _⟩
  ·refine⟨λx hx=>?_,by show 1<=6;decide⟩;rw[TU.mp hx];rcases two with rfl|rfl<;>decide
 | tb f es=>exact h
 | br =>
  obtain rfl:r=[]:=h;exact⟨(λ_ h=>nomatch h),TJ _⟩
def iA{r:e7}{b:Int}(h:bj r)(c:0<=b)(a:b<=255):bj (r++[b]):=λx hx=>by
 rcases TL.mp hx with z|z
 ·exact h x z
 ·rw[TU.mp z];exact⟨c,a⟩
def qw{D:Kt}{g:Int}{r:e7}{b:Int}(h:cn D g r)(a:0<=b)(d:b<=255):Dm D g (r++[b]):=by
 cases D with
 | ld=>exact⟨iA h.1 a d,by have:=h.2;rw[Tq];show _+1<=_;lia⟩
 | pr c=>exact⟨iA h.1 a d,by have:=h.2;rw[Tq];show _+1<=_;lia⟩
 | sh f ns ms =>
  rcases h with rfl|rfl
  ·exact .inl ⟨b,Z,a⟩
  ·exact .inr ⟨b,Z,a⟩
 | tb f es=>exact iA h.1 a d
 | br=>exact trivial
def Pf{D:Kt}{g:Int}{r:e7}{b:Int}(h:cn D g r)(a:0<=b)(d:b<=255):Dm D g ((r++[b]).drop ((r++[b]).length-ay D)):=by
 have one:(r++[b]).drop ((r++[b]).length-1)=[b]:=by rw[Tq];simp
 have e:bj [b]:=λx hx=>by rw[TU.mp hx];exact⟨a,d⟩
 cases D with
 | ld=>show bj _/\_;rw[show ay .ld=1 from rfl,one];exact⟨e,by show 1<=9;decide⟩
 | pr c=>exact⟨λx hx=>iA h.1 a d x (UZ hx),by have:=h.2;rw[Uv,Tq];show _+1-_<=_;lia⟩
 | sh f ns ms=>show rF _ _;rw[show ay (.sh f ns ms)=1 from rfl,one];exact .inl ⟨b,Z,a⟩
 | tb f es=>show bj _;rw[show ay (.tb f es)=1 from rfl,one];exact e
 | br=>exact trivial
def CK(h:Bool){r:e7}(l:r.length=4)(e:ca h r=none):cB h r=none:=by
 unfold cB;refine Ue.mpr λf hf=>?_;rw[Vr,Wp,Wq];by_cases c:f=[]
 ·rw[c,TD];exact e
 ·unfold ca;have:1<=f.length:=Vv.mpr c;rw[Wv (by rw[Tq,l];lia)]
def sX{D:Kt}{g:Int}{r:e7}(ok:cP D)(i:Dm D g r)(k:r.length%ay D=0)(j:r.length<=4\/∀h,D ≠ .pr h)(h:aZ D g r=.mo):cn D g r:=by
 cases D with
 | br=>cases h
 | ld =>
  dsimp only [aZ]at h;refine⟨i.1,?_⟩
  split at h
  ·cases h
  split at h
  ·rename_i bg;cases r with
   | nil=>exact TJ _
   | cons f r =>
    have bg:iD f r:=bg;have:=bg.1;have:=(mY f).2;rw[TX];lia
  ·cases h
 | pr b =>
  dsimp only [aZ]at h;refine⟨i.1,?_⟩;have k:r.length%2=0:=k;cases e:ca b r with
  | some m=>rw[e]at h;cases h
  | none =>
   rw[e]at h;dsimp only at h;rcases j with j|j
   ·by_cases c:r.length=4
    ·rw[Ww (CK b c e)]at h;cases h
    ·lia
   ·exact Wx Z (j b)
 | sh f ns ms =>
  dsimp only [aZ]at h;rcases i with ⟨b,rfl,b0⟩|⟨c,rfl,c0⟩
  ·have a:=Br (P:=ai g ns ms) (O:=ai g ms ns) (g:=g) b0;unfold ik at a;cases e:cQ (ai g ns ms) (ai g ms ns) g [b] with
   | some z=>rw[e]at h;cases h
   | none =>
    rw[e]at h a;dsimp only at h a;by_cases c:eU (ai g ns ms) (ai g ms ns) g [b]=true
    ·rw[Ww c]at a;cases e2:(ai g ns ms)[b.toNat]? with
     | some n=>rw[e2]at a;cases a
     | none =>
      rw[e2]at a;dsimp only at a;by_cases c2:b=254+(1-g)/\fu (ai g ms ns) (ai g ns ms)≠[]
      ·exact .inr (by rw[c2.1])
      ·rw[Wv c2]at a;cases a
    ·rw[Wv c]at h;cases h
  ·have a:=Bq (P:=ai g ns ms) (O:=ai g ms ns) (g:=g) c0;unfold ik at a;cases e:cQ (ai g ns ms) (ai g ms ns) g [254+(1-g),c] with
   | some z=>rw[e]at h;cases h
   | none =>
    rw[e]at h a;dsimp only at h a;by_cases d:eU (ai g ns ms) (ai g ms ns) g [254+(1-g),c]=true
    ·rw[Ww d]at a
     split at a<;>cases a
    ·rw[Wv d]at h;cases h
 | tb f es =>
  dsimp only [aZ]at h;refine⟨i,?_⟩
  split at h
  ·cases h
  split at h
  ·rename_i rt;obtain⟨e,l,m,o,rfl⟩:=rt;have:=(Es.sg ok e l).2.2.1;rw[TyZ];lia
  ·cases h
inductive Ev where
 | sg (n:Int)
 | ft (p l:Nat) (k:Str) (bs:e7)
inductive Wy where
 | lv
 | pt (n:Int)
 | se
def FC:Wy->e7->e7
 | .lv,_=>[]
 | .pt n,_=>[n]
 | .se,bs=>bs.map λb=>61184+b
def FD(W:Wy):Ev->e7
 | .sg n=>[n]
 | .ft _ _ _ bs=>FC W bs
def iE(W:Wy)(es:List Ev):e7:=es.flatMap (FD W)
noncomputable def iL(D:Kt)(g:Int)(c:Nat)(r:e7):Int × e7 × List Ev:=match aZ D g r with
 | .sg n g'=>(g',[],[.sg n])
 | .mo=>(g,r,[])
 | .no=>(g,[],[.ft (c-r.length) r.length "strange" r])
noncomputable def tu(D:Kt)(g:Int)(c:Nat)(r:e7):Int × e7 × List Ev:=match aZ D g r with
 | .sg n g'=>(g',[],[.sg n])
 | .mo=>(g,r,[])
 | .no=>((iL D g c (r.drop (r.length-ay D))).1,(iL D g c (r.drop (r.length-ay D))).2.1,.ft (c-r.length) (r.length-ay D) "broken" (r.take (r.length-ay D))::(iL D g c (r.drop (r.length-ay D))).2.2)
noncomputable def gC(D:Kt)(g:Int)(r:e7)(c:Nat)(b:Int):Int × e7 × List Ev :=
 if (r++[b]).length%ay D=0 then (if (r++[b]).length=ay D then iL D g c (r++[b]) else tu D g c (r++[b])) else (g,r++[b],[])
noncomputable def run(D:Kt):Int->e7->Nat->e7->Int × e7 × List Ev
 | g,r,_,[]=>(g,r,[])
 | g,r,c,b::bs=>((run D (gC D g r (c+1) b).1 (gC D g r (c+1) b).2.1 (c+1) bs).1,(run D (gC D g r (c+1) b).1 (gC D g r (c+1) b).2.1 (c+1) bs).2.1,(gC D g r (c+1) b).2.2++(run D (gC D g r (c+1) b).1 (gC D g r (c+1) b).2.1 (c+1) bs).2.2)
def RY(D:Kt):Ev->Prop
 | .sg n=>dJ D n
 | .ft _ l _ bs=>bj bs/\bs.length=l
def gE(D:Kt)(g x:Int):e7 × Int:=if 61184<=x/\x<=61439 then ([x-61184],g) else bM D g x
def cL(D:Kt)(g:Int)(xs:e7):e7 × Int:=xs.foldl (λa n=>(a.1++(gE D a.2 n).1,(gE D a.2 n).2)) ([],g)
theorem rR(D:Kt):∀(b:e7) (row:e7) (g:Int),b.foldl (λa n=>(a.1++(gE D a.2 n).1,(gE D a.2 n).2)) (row,g)=(row++(cL D g b).1,(cL D g b).2)
 | [],row,g=>by simp[cL]
 | n::b,row,g=>by
  rw[UM,rR D b];have e:cL D g (n::b)=((gE D g n).1++(cL D (gE D g n).2 b).1,(cL D (gE D g n).2 b).2):=by
   show List.foldl _ _ (n::b)=_;rw[UM,rR D b];simp
  rw[e,T8]
def yE(D:Kt)(g:Int)(xs a:e7):cL D g (xs++a)=((cL D g xs).1++(cL D (cL D g xs).2 a).1,(cL D (cL D g xs).2 a).2):=by
 show List.foldl _ _ (xs++a)=_;rw[VP];exact rR D a _ _
def yD(D:Kt)(g n:Int):cL D g [n]=gE D g n:=by simp[cL]
theorem rQ(D:Kt)(g:Int):∀bs:e7,bj bs->cL D g (bs.map λb=>61184+b)=(bs,g)
 | [],_=>rfl
 | b::bs,h=>by
  have hb:=h b (TV ..);have e:(b::bs).map (λb=>61184+b)=[61184+b]++bs.map λb=>61184+b:=rfl;rw[e,yE,yD];unfold gE;rw[Ww (by lia),rQ D g bs λx hx=>h x (TW _ hx)];simp;lia
def Gd{D:Kt}{g n:Int}(h:Sg n):gE D g n=bM D g n:=by
 unfold gE;rw[Wv (λz=>h.2.2.2 z)]
def yt(D:Kt)(g:Int)(r:e7)(z:Int × e7 × List Ev):Prop:=cu D z.1/\cn D z.1 z.2.1/\(cL D g (iE .se z.2.2)).1++z.2.1=r/\(cL D g (iE .se z.2.2)).2=z.1/\(∀e∈z.2.2,RY D e)/\z.2.2.length<=2
def Cl{D:Kt}{g n g':Int}{r:e7}(ok:cP D)(pg:cu D g)(d:Dm D g r)(h:aZ D g r=.sg n g'):yt D g r (g',[],[.sg n]):=by
 obtain⟨a,b,c⟩:=tp ok pg d h;have e:cL D g (iE .se [.sg n])=(r,g'):=by
  show cL D g [n]=_;rw[yD,Gd (Mr ok a),b]
 refine⟨c,cn.nil _ _,by rw[e,TD],by rw[e],λx hx=>?_,by show 1<=2;decide⟩;rw[TU.mp hx];exact a
def Cm{D:Kt}{g:Int}{r:e7}(c:Nat)(ok:cP D)(pg:cu D g)(f:Dm D g r)(a:bj r)(i:r.length%ay D=0)(j:r.length<=4\/∀h,D ≠ .pr h):yt D g r (iL D g c r)/\(iL D g c r).2.2.length<=1:=by
 unfold iL;cases e:aZ D g r with
 | sg n g'=>exact⟨Cl ok pg f e,by show 1<=1;decide⟩
 | mo=>exact⟨⟨pg,sX ok f i j e,rfl,rfl,(λ_ h=>nomatch h),by show 0<=2;decide⟩,by show 0<=1;decide⟩
 | no =>
  have d:cL D g (iE .se [.ft (c-r.length) r.length "strange" r])=(r,g):=by
   show cL D g ((r.map λb=>61184+b)++[])=_;rw[TD,rQ D g r a]
  refine⟨⟨pg,cn.nil _ _,by rw[d,TD],by rw[d],λx hx=>?_,by show 1<=2;decide⟩,by show 1<=1;decide⟩;rw[TU.mp hx];exact⟨a,Z⟩
def NB{D:Kt}{g:Int}{r:e7}(c:Nat){b:Int}(ok:cP D)(pg:cu D g)(bg:cn D g r)(m:0<=b)(i:b<=255):yt D g (r++[b]) (gC D g r c b):=by
 obtain⟨j,J⟩:=bg.byts pg;have a:=iA j m i;have o:=qw bg m i;have q:(r++[b]).length<=4\/∀h,D ≠ .pr h:=by
  cases D with
  | pr h=>exact .inl (by rw[Tq];have:=bg.2;show _+1<=4;lia)
  | _=>exact .inr (λh z=>by cases z)
 unfold gC;by_cases d:(r++[b]).length%ay D=0
 ·rw[Ww d];by_cases one:(r++[b]).length=ay D
  ·rw[Ww one];exact (Cm c ok pg o a d q).1
  ·rw[Wv one];unfold tu;cases e:aZ D g (r++[b]) with
   | sg n g'=>exact Cl ok pg o e
   | mo=>exact⟨pg,sX ok o d q e,rfl,rfl,(λ_ h=>nomatch h),by show 0<=2;decide⟩
   | no =>
    have L:1<=ay D/\ay D<=2:=by cases D<;>simp[ay]
    have v:(r++[b]).length=r.length+1:=by rw[Tq];rfl
    have M:ay D<=(r++[b]).length:=by
     rcases UA (r++[b]).length (ay D) with z|z
     ·rw[VW z]at d;lia
     ·exact z
    have ld:((r++[b]).drop ((r++[b]).length-ay D)).length=ay D:=by rw[Uv];lia
    obtain⟨⟨B,C,F,y,u,I⟩,G⟩:=Cm (r:=(r++[b]).drop ((r++[b]).length-ay D)) c ok pg (Pf bg m i) (λx hx=>a x (UZ hx)) (by rw[ld,VX]) (.inl (by rw[ld];lia));have f:bj ((r++[b]).take ((r++[b]).length-ay D)):=λx hx=>a x (Um hx);have s:∀(p l:Nat) (k:Str) (bs:e7) (es:List Ev),bj bs->cL D g (iE .se (.ft p l k bs::es))=(bs++(cL D g (iE .se es)).1,(cL D g (iE .se es)).2):=λp l k bs es hb=>by
     show cL D g ((bs.map λb=>61184+b)++iE .se es)=_;rw[yE,rQ D g bs hb]
    refine⟨B,C,?_,?_,λx hx=>?_,?_⟩
    ·dsimp only;rw[s _ _ _ _ _ f,T8,F,UQ]
    ·dsimp only;rw[s _ _ _ _ _ f,y]
    ·rcases TF.mp hx with rfl|hx
     ·exact⟨f,by rw[TyZ];lia⟩
     ·exact u x hx
    ·dsimp only;rw[TX];lia
 ·rw[Wv d];refine⟨pg,?_,rfl,rfl,(λ_ h=>nomatch h),by show 0<=2;decide⟩;have v:(r++[b]).length=r.length+1:=by rw[Tq];rfl
  cases D with
  | pr h =>
   have d:¬(r++[b]).length%2=0:=d;refine⟨a,?_⟩;have:=bg.2;dsimp only;lia
  | _=>exact Wx (Ur _) d
def oB(_:Wy)(_:e7):List (Option Int):=[none]
def o1(W:Wy):Ev->List (Option Int)
 | .sg n=>[some n]
 | .ft _ _ _ bs=>oB W bs
def sk{D:Kt}{g n:Int}(tn:rJ D)(pg:cu D g)(a:dJ D n):1<=(bM D g n).1.length:=by
 cases D with
 | ld=>exact (Am n).1
 | pr h=>show 1<=(cT h n).length;rw[o0];split<;>lia
 | sh f ns ms =>
  obtain⟨r,g',e,_,d⟩:=su pg a;rw[oJ e];rcases d with ⟨b,rfl,_⟩|⟨c,rfl,_⟩
  ·show 1<=1;decide
  ·show 1<=2;decide
 | tb f es =>
  obtain⟨e,i,_,j⟩:=ju a;have es':bM (.tb f es) g n=(e.2,g):=by
   show (Option.map _ _).getD _=_;rw[j];rfl
  rw[es'];exact (Es.sg tn e i).2.1
 | br=>exact a.elim
def KJ{σ:St}{i:Nat}{v:V}{H:Hp}{Q:VK}(h:σ[i]? = some (some v))(q:Q v H):mV i σ H Q:=by
 unfold mV;rw[h];exact q
def h9{t u:TS}{D:fR}{σ:St}{H:Hp}(a:St)(h:∀nx:St->Hp->Prop,nx a H->t { D with nx:=nx } σ H)(k:u D a H):mw t u D σ H:=h (u D) k
def Kp.free{x b:Addr}{H a:Hp}{o:HO}(k:Kp x H a)(hx:a x=some o)(n:a b=none):H b=none:=by
 cases e:H b with
 | none=>rfl
 | some u =>
  have:=k b u (λz=>by rw[z,hx]at n;cases n) e;rw[n]at this;cases this
def wo(H:Hp)(X:List Addr):Hp:=λa=>if a∈X then none else H a
def rV{H:Hp}{X:List Addr}{a:Addr}(h:a∈X):wo H X a=none:=Ww h
def yL{H:Hp}{X:List Addr}{a:Addr}{u:HO}(h:a∉X)(e:H a=some u):wo H X a=some u:=(Wv h).trans e
def EJ{H:Hp}{X:List Addr}:am (wo H X) H:=λa u e=>by
 unfold wo at e
 split at e
 ·cases e
 ·exact e
def am.wo{b H:Hp}{X:List Addr}(s:am b H)(h:∀a∈X,b a=none):am b (wo H X):=λa u e=>yL (λz=>by rw[h a z]at e;cases e) (s a u e)
def rW{H:Hp}{x y z a:Addr}{u:HO}(b:a≠x)(c:a≠y)(d:a≠z)(e:H a=some u):wo H [x,y,z] a=some u:=yL (by simp only [TF,Va,or_false,not_or];exact⟨b,c,d⟩) e
def rT{b H:Hp}{x y z:Addr}(s:am b H)(e:b x=none)(d:b y=none)(f:b z=none):am b (wo H [x,y,z]):=am.wo s λa c=>by
 simp only [TF,Va,or_false]at c;rcases c with rfl|rfl|rfl<;>assumption
def iH{H:Hp}{x dx C:Addr}(hx:H x=none)(a:H dx=none):am H (upd (upd H dx (.own x)) x (.ins C dx [])):=λb c q=>by rw[au (ba q hx),au (ba q a)];exact q
def o7(D:Kt):cu D 0:=by
 cases D with
 | sh f ns ms=>exact .inl rfl
 | _=>exact rfl
def GK(K:PySem.W.Frag):Sp:=λvs H Q _=>∃(a:Addr) (ns:e7) (k:Nat),vs=[.ref a,.int (k:Int)]/\aE K H a (ns.map V.int)/\∀c H',am H H'->Q (.int c) H'
def MZ (T:Txt w K mg t):bz P w K mg base "_law_drawn" 1 t.xx t.uH ["_law_script", "_law_at"] (GK K):=by
 refine⟨T.N9,T.DX.kp,T.QN,T.DX.okQ Ha (λvs H Q E h=>by obtain⟨a,ns,i,rfl,_⟩:=h;rfl) λ_ _ _ _ H vs Q E d h=>?_⟩;obtain⟨a,ns,i,rfl,c,k⟩:=h;refine⟨_,(aj (ap (bq (PU (K:=K) Z Z) T.n_sum PyProof.Rows.boot_sum (ad (dO (Tj K) (aa 0) (da (aa 1)) (da (aG (Te K) (aa 1) ag))) ae)))),?_⟩;refine⟨_,Z,_,Z,_,c,λf e b=>?_⟩;rw[gP]at b;exact⟨_,b.lst,k _ _ b.sm⟩
def pV (T:Txt w K mg t):bz P w K mg base "_law_is_number" 1 t.xt t.uD ["_law_found"] (λvs H Q _=>∃i,vs=[.int i]/\Q (.bl true) H):=by
 refine⟨T.N5,T.DT.kp,T.QJ,T.DT.okQ G9 (λvs H Q E h=>by obtain⟨i,rfl,_⟩:=h;rfl) λ_ _ _ _ H vs Q E c h=>?_⟩;obtain⟨i,rfl,k⟩:=h;refine⟨_,(aj (ap (gv (sM (bq (Tf K) T.n_isinstance Uq (ad (aa 0) (ad (ig Z T.n_bool Wm) ae)))) (fX (bq (Tf K) T.n_isinstance Uq (ad (aa 0) (ad (ig Z T.n_int Ul) ae))))))),?_⟩;obtain⟨ty,a,b⟩:=(fQ.int (K:=K) (H:=H) i).isBl;refine bo ty _ a b ?_;refine iN ?_;obtain⟨ty,a,b⟩:=(fQ.int (K:=K) (H:=H) i).isInt;exact⟨ty,_,a,b,k⟩
def Gr:Sp:=λvs H Q _=>∃(n k:Int),vs=[.int n,.int k]/\0<=k/\k<=1000000/\∀m,0<=m->m<2147483629->Q (.int m) H
def BX (T:Txt w K mg t):bz P w K mg base "_law_mixed" 1 t.xn t.uw ["_law_number", "_law_k"] Gr:=by
 refine⟨T.NZ,T.DO.kp,T.QB,T.DO.okQ zS (λvs H Q E h=>by obtain⟨n,k,rfl,_⟩:=h;rfl) λ_ _ _ _ H vs Q E c h=>?_⟩;obtain⟨n,k,rfl,k0,k1,b⟩:=h;have a:(2:Int) ^ 64=18446744073709551616:=by decide
 refine⟨_,(ah (aM (i:=0) zS.nd Z (.inl Z) (bC (aG (Te K) (aG (Te K) (aa 0) (aG fi (aG fi ag (aa 1)) (aa 1))) ag)))
  (aj (ap (bC (aG (Te K) (aG (Te K) (aG fi (aa 0) (aa 0)) (aG fi ag (aa 0))) (aa 1)))))),?_⟩
 refine⟨Or.inl ⟨by decide,by decide⟩,?_⟩;refine⟨Or.inr ⟨by lia,by lia⟩,?_⟩;refine⟨Or.inl ⟨by lia,by lia⟩,?_⟩;refine⟨Or.inl ⟨by decide,by decide⟩,?_⟩;exact b _ (by lia) (by lia)
def fY(n:Int):Int:=if (if n%1111808>=55296 then n%1111808+2048 else n%1111808)>=61184 then (if n%1111808>=55296 then n%1111808+2048 else n%1111808)+256 else (if n%1111808>=55296 then n%1111808+2048 else n%1111808)
def pY(n:Int):Sg (fY n):=by
 unfold fY Sg
 (repeat' split)<;>lia
def tR{a b:Int}(h:fY a=fY b):a%1111808=b%1111808:=by
 unfold fY at h;revert h
 (repeat' split)<;>lia
def O4{k d:Int}(c : -251<d)(b:d<251)(a:14997*d=1111808*k):d=0:=by
 lia
def O3{k d:Int}(c : -251<d)(b:d<251)(a:24995*d=1111808*k):d=0:=by
 lia
def LU(B x y:Int):4999*(B+3*(0+x))-4999*(B+3*(0+y))=14997*(x-y):=by
 lia
def LS(B x y:Int):4999*(B+5*(0+x))-4999*(B+5*(0+y))=24995*(x-y):=by
 lia
def sW{x y:Int}(h:x%1111808=y%1111808):∃k:Int,x-y=1111808*k:=⟨x/1111808-y/1111808,by lia⟩
def Mo{B:Int}{i j n:Nat}(b:i<n)(c:j<n)(d:n<=250)(h:4999*(B+3*(0+(i:Int)))%1111808=4999*(B+3*(0+(j:Int)))%1111808):i=j:=by
 obtain⟨k,a⟩:=sW h;rw[LU]at a;have:=O4 (by clear h a;lia) (by clear h a;lia) a;clear h a;lia
def Mn{B:Int}{i j n:Nat}(b:i<n)(c:j<n)(d:n<=250)(h:4999*(B+5*(0+(i:Int)))%1111808=4999*(B+5*(0+(j:Int)))%1111808):i=j:=by
 obtain⟨k,a⟩:=sW h;rw[LS]at a;have:=O3 (by clear h a;lia) (by clear h a;lia) a;clear h a;lia
def O5{k d:Int}(c : -251<d)(b:d<251)(a:4999*d=1111808*k):d=0:=by
 lia
def LV(B x y:Int):4999*(B+(0+x))-4999*(B+(0+y))=4999*(x-y):=by
 lia
def Mp{B:Int}{i j n:Nat}(b:i<n)(c:j<n)(d:n<=250)(h:4999*(B+(0+(i:Int)))%1111808=4999*(B+(0+(j:Int)))%1111808):i=j:=by
 obtain⟨k,a⟩:=sW h;rw[LV]at a;have:=O5 (by clear h a;lia) (by clear h a;lia) a;clear h a;lia
def pW (T:Txt w K mg t):bz P w K mg base "_law_gapped" 1 t.xv t.uF ["_law_number"] (λvs H Q _=>∃n,vs=[.int n]/\Q (.int (fY n)) H):=by
 refine⟨T.N7,T.DV.kp,T.QL,T.DV.okQ oQ (λvs H Q E h=>by obtain⟨n,rfl,_⟩:=h;rfl) λ_ _ _ _ H vs Q E a h=>?_⟩;obtain⟨n,rfl,k⟩:=h;refine⟨_,(ah (aM (i:=1) oQ.nd Z (.inl Z) (bC (aa 0)))
  (ah (aA (av Cr (aa 1) ag (aq _)) (aj (aM (i:=1) oQ.nd rfl (.inl rfl) (aG (Te K) (aa 1) ag))) aF)
  (ah (aA (av Cr (aa 1) ag (aq _)) (aj (aM (i:=1) oQ.nd rfl (.inl rfl) (aG (Te K) (aa 1) ag))) aF)
  (aj (ap (aa 1)))))),?_⟩
 unfold fY at k;refine ak (λz=>?_) (λz=>?_)
 ·have z:n%1111808>=55296:=Wz z;rw[Ww z]at k;refine ak (λy=>?_) (λy=>?_)
  ·rw[Ww (Wz y)]at k;exact k
  ·rw[Wv (λx=>y (WA x))]at k;exact k
 ·have z:¬n%1111808>=55296:=λy=>z (WA y);rw[Wv z]at k;refine ak (λy=>?_) (λy=>?_)
  ·rw[Ww (Wz y)]at k;exact k
  ·rw[Wv (λx=>y (WA x))]at k;exact k
def Gb:Sp:=λvs H Q _=>∃c,vs=[.int c]/\∀n H',am H H'->Sg n->Q (.int n) H'
def GZ:∀n∈([0,10,127,128,2047,2048,55295,57344,61183,61440,65279,65535,65536,1048575,1114111]:e7),Sg n:=by unfold Sg;decide
def M3 (T:Txt w K mg t):bz P w K mg base "_law_as_sign" 2 t.xz t.uJ ["_law_number"] Gb:=by
 refine⟨T.Ob,T.DZ.kp,T.QQ,T.DZ.okQ zU (λvs H Q E h=>by obtain⟨c,rfl,_⟩:=h;rfl) λ_ _ _ _ H vs Q E b h=>?_⟩;obtain⟨c,rfl,k⟩:=h;have d:=b.units;refine⟨_,(ah (aM (i:=1) zU.nd Z (.inl Z) (bh (iJ Z)))
  (ah (aA (av (bi (K:=K) rfl d) (bC (aa 0)) ag (aq _)) (aj (ap (aB (Ti K) (aa 1) (bC (cm (aa 0))) (λ_ _=>rfl)))) aF)
  (ah (aA (av (bi (K:=K) rfl d) (bC (aa 0)) ag (aq _)) (aj (ap (bC (cm (aa 0))))) aF)
  (aj (ap (aP (pW T) b (ad (cm (aa 0)) ae))))))),?_⟩
 refine⟨sz Z,λl j a=>?_⟩;refine ak (λ_=>?_) (λ_=>?_)
 ·obtain⟨v,f,e,_⟩:=rf (xs:=(([0,10,127,128,2047,2048,55295,57344,61183,61440,65279,65535,65536,1048575,1114111]:e7).map V.int)) (i:=c/4%15) (by lia) (by simp;lia);obtain⟨n,g,rfl⟩:=T0.mp f;exact⟨_,_,.inl a.lst,e,k _ _ a.sm (GZ n g)⟩
 refine ak (λ_=>?_) (λ_=>?_)
 ·exact k _ _ a.sm (by unfold Sg;lia)
 ·exact⟨_,Z,k _ _ a.sm (pY _)⟩
def An{f:Nat->Int}{n:Nat}(g:n<=250)(hs:∀k,k<n->Sg (f k))(inj:∀i j,i<n->j<n->f i=f j->i=j):dy ((List.range n).map f):=by
 refine⟨λm a=>?_,?_,by rw[To,Uk];exact g⟩
 ·obtain⟨k,c,rfl⟩:=T0.mp a;exact hs k (Us.mp c)
 ·refine List.pairwise_map.mpr ?_;exact List.nodup_range.imp_of_mem λ{i j} d b ne e=>ne (inj i j (Us.mp d) (Us.mp b) e)
def dy.rev{ns:e7}(h:dy ns):dy ns.reverse:=⟨λn a=>h.1 n (List.mem_reverse.mp a),List.pairwise_reverse.mpr (h.2.1.imp λh=>Ne.symm h),by rw[V6];exact h.2.2⟩
def Gv:Sp:=λvs H Q _=>∃(c:Int),vs=[.int c]/\∀(p q r:Addr) (ns ms:e7) H',am H H'->H' p=some (.tup [.ref q,.ref r])->H' q=some (.lst (ns.map V.int))->H' r=some (.lst (ms.map V.int))->dy ns->dy ms->Q (.ref p) H'
def MV (T:Txt w K mg t):bz P w K mg base "_law_lists" 2 t.xo t.uz ["_law_number"] Gv:=by
 refine⟨T.N0,T.DP.kp,T.QC,T.DP.okQ jR (λvs H Q E h=>by obtain⟨c,rfl,_⟩:=h;rfl) λ_ _ _ _ H vs Q E L h=>?_⟩;obtain⟨c,rfl,k⟩:=h;have hu:=L.units;have J:(2:Int) ^ 64=18446744073709551616:=by decide
 refine⟨_,(ah (aM (i:=1) jR.nd Z (.inl Z) (bh (ad (bC (cm (aa 0))) (ad (bC (cm (aa 0))) ae))))
  (ah (aA (av (bi (K:=K) rfl hu) (bC (aa 0)) ag (aq _)) (aj (aM (i:=1) jR.nd rfl (.inl rfl) (bh (ad (aG (Te K) ag (bC (cm (aa 0)))) (ad (bC (cm (aa 0))) ae))))) aF)
  (ah (aM (i:=2) jR.nd rfl (.inr rfl) (bC (cm (aa 0))))
  (ah (Aw (i:=3) jR.nd rfl (.inl rfl) rfl (dn.of (fns:=(ao iI).names) (N:=["_law_number", "_law_sizes", "_law_base", "_law_first", "_law_second"]) (Nc:=["_law_k", "_law_base"]) (nv:=1) (caps:=[2]) rfl rfl (by decide +kernel)) (mL rfl T.n_range (ad (aB (Ti K) (aa 1) ag (λ_ _=>rfl)) ae)) (λ_ _ _ _=>(bn (i:=0) (show List.Nodup (["_law_k", "_law_base"]:List Str) by decide +kernel) rfl (Or.inl rfl) (Or.inr rfl))) (λ_ _ _ _=>fW) (λ_ _ _ _=>(aP (pW T) L (ad (aG fi ag (aG (Te K) (aa 1) (aG fi ag (aa 0)))) ae))))
  (ah (Aw (i:=4) jR.nd rfl (.inl rfl) rfl (dn.of (fns:=(ao iI).names) (N:=["_law_number", "_law_sizes", "_law_base", "_law_first", "_law_second"]) (Nc:=["_law_k", "_law_base"]) (nv:=1) (caps:=[2]) rfl rfl (by decide +kernel)) (mL rfl T.n_range (ad (aB (Ti K) (aa 1) ag (λ_ _=>rfl)) ae)) (λ_ _ _ _=>(bn (i:=0) (show List.Nodup (["_law_k", "_law_base"]:List Str) by decide +kernel) rfl (Or.inl rfl) (Or.inr rfl))) (λ_ _ _ _=>fW) (λ_ _ _ _=>(aP (pW T) L (ad (aG fi ag (aG (Te K) (aa 1) (aG fi ag (aa 0)))) ae))))
  (ah (aA (av eT (bC (aa 0)) ag (aq _)) (aj (eJ (AA (K:=K) rfl Uf PySem.F.slot_list_reverse PySem.F.type_list_reverse KM (aa 4)))) aF)
  (aj (ap (bS (ad (aa 3) (ad (aa 4) ae))))))))))),?_⟩
 refine⟨sz Z,λU H1 B=>?_⟩;dsimp only [bP];refine ce (λo f=>am H f/\∃(ps:Addr) (x y:Int),f ps=some (.lst [.int x,.int y])/\0<=x/\x<=250/\0<=y/\y<=250/\o=[some (.int c),some (.ref ps),none,none,none]) (λnx r=>?_) ?_
 ·refine ak (λ_=>?_) (λ_=>?_)
  ·refine⟨sz Z,λY H2 S=>?_⟩;exact r _ _ ⟨B.sm.trans S.sm,Y,_,_,S.at_,by lia,by lia,by lia,by lia,rfl⟩
  ·exact r _ _ ⟨B.sm,U,_,_,B.at_,by lia,by lia,by lia,by lia,rfl⟩
 rintro o H2 ⟨O,ps,x,y,s,x0,x1,y0,y1,rfl⟩;obtain⟨b,eb⟩:∃b,b=c/1000%1111:=⟨_,rfl⟩;refine bo _ (.int x) (.inl (.of s)) (aH (j:=0) Z) ?_;refine yA x rfl (by lia) (by lia) ?_;refine qN (lo:=0) (n:=x.toNat) (((List.range x.toNat).map λk:Nat=>fY (4999*(c/1000%1111+3*(0+(k:Int))))).map V.int) (by rw[To,To,Uk]) (cD (by lia)) (λj v R N d q G hN=>?_) λz H3 l=>?_
 ·rw[Tv,Tv,U8 d]at q;cases q;refine⟨Or.inl ⟨by decide,by decide⟩,?_⟩;refine⟨Or.inl ⟨by decide,by decide⟩,?_⟩;exact⟨_,Z,hN _ (am.refl _)⟩
 have C:dy ((List.range x.toNat).map λk:Nat=>fY (4999*(c/1000%1111+3*(0+(k:Int))))):=An (by lia) (λk _=>pY _) λi j I d e=>Mo I d (by lia) (tR e);refine bo _ (.int y) (.inl (.of (l.sm _ _ s))) (aH (j:=1) Z) ?_;refine yA y rfl (by lia) (by lia) ?_;refine qN (lo:=0) (n:=y.toNat) (((List.range y.toNat).map λk:Nat=>fY (4999*(c/1000%1111+5*(0+(k:Int))))).map V.int) (by rw[To,To,Uk]) (cD (by lia)) (λj v R N d q G hN=>?_) λg H4 a=>?_
 ·rw[Tv,Tv,U8 d]at q;cases q;refine⟨Or.inl ⟨by decide,by decide⟩,?_⟩;refine⟨Or.inl ⟨by decide,by decide⟩,?_⟩;exact⟨_,Z,hN _ (am.refl _)⟩
 have p:dy ((List.range y.toNat).map λk:Nat=>fY (4999*(c/1000%1111+5*(0+(k:Int))))):=An (by lia) (λk _=>pY _) λi j I d e=>Mn I d (by lia) (tR e);have m:=l.sm.trans a.sm;have D:g≠z:=(ba l.at_ a.nw).symm;have f1:H g=none:=O.free (l.sm.free a.nw);dsimp only [bP];refine ce (λo f=>am H f/\f z=some (.lst (((List.range x.toNat).map λk:Nat=>fY (4999*(c/1000%1111+3*(0+(k:Int))))).map V.int))/\(∃ms,f g=some (.lst (ms.map V.int))/\dy ms)/\o=[some (.int c),some (.ref ps),some (.int (c/1000%1111)),some (.ref z),some (.ref g)]) (λnx r=>?_) ?_
 ·refine ak (λ_=>?_) (λ_=>?_)
  ·refine⟨.inl ⟨rfl,_,.of a.at_⟩,?_⟩;refine yz g _ Z Z a.at_ ?_;exact r _ _ ⟨(O.trans m).put f1,by rw[au D.symm];exact a.sm _ _ l.at_,⟨_,by rw[aV,List.map_reverse],p.rev⟩,rfl⟩
  ·exact r _ _ ⟨O.trans m,a.sm _ _ l.at_,⟨_,a.at_,p⟩,Z⟩
 ·rintro o R ⟨G,h0,⟨ms,hm,M⟩,rfl⟩;exact⟨sz Z,λW H6 u=>k W z g _ _ H6 (G.trans u.sm) u.at_ (u.sm _ _ h0) (u.sm _ _ hm) C M⟩
def Df{h h' a b:e7}(l:h.length=h'.length)(n:h≠h'):cN (h++a) (h'++b)=false:=by
 unfold cN;rw[WB];intro z
 apply n
 have:=congrArg (List.take h.length) z;rw[Vl,Ui (by rw[Tq];lia),US (by lia),US (by lia),TK,l,TK]at this;exact this.symm
def eS(n:Int)(k:Nat):e7:=if n/11%3 > 0 then [(n/13+7*((0+(k:Int))/3))%256,(n/4000+5*((0+(k:Int))%3))%256] else [(n/13+7*(0+(k:Int)))%256]
def BS(n:Int)(i j:Nat):(eS n i).length=(eS n j).length:=by
 unfold eS;split<;>rfl
def BT(n:Int)(i:Nat):1<=(eS n i).length/\(eS n i).length<=2:=by
 unfold eS;split<;>simp
def BR{n:Int}{i j:Nat}(a:i<13)(b:j<13)(h:i≠j):eS n i≠eS n j:=by
 unfold eS
 split
 ·intro z;simp at z;lia
 ·intro z;simp at z;lia
def MH(n:Int)(i:Nat):∀b∈eS n i,0<=b/\b<=255:=by
 intro b hb;unfold eS at hb
 split at hb
 ·simp at hb;lia
 ·simp at hb;lia
def mC(n:Int)(k:Nat):Int:=fY (4999*(n/13%999+(0+(k:Int))))
def G0{n:Int}{i j:Nat}(a:i<13)(b:j<13)(h:i≠j):mC n i≠mC n j:=λz=>by
 exact h (Mp a b (by decide) (tR z))
def Eo(n:Int)(es:List (Int × e7)):Prop:=∀(j:Nat) e,es[j]? = some e->e.1=mC n j/\∃tl,e.2=eS n j++tl/\tl.length<=4/\∀b∈tl,0<=b/\b<=255
def Pc{n:Int}{es:List (Int × e7)}(h:Eo n es)(l:es.length<=13):Es es:=by
 refine⟨λe m=>?_,UP.mpr λi j p c o=>?_,by lia⟩
 ·obtain⟨j,c,rfl⟩:=Vt.mp m;obtain⟨f,v,d,u,hb⟩:=h j _ (T4 c);have:=BT n j;refine⟨by rw[f];exact pY _,by rw[d,Tq];lia,by rw[d,Tq];lia,λb a=>?_⟩;rw[d]at a;rcases TL.mp a with z|z
  ·exact MH n j b z
  ·exact hb b z
 ·obtain⟨q,s,r,_⟩:=h i _ (T4 p);obtain⟨g,x,k,_⟩:=h j _ (T4 c);unfold eV;rw[q,r,g,k,Df (BS n i j) (BR (by lia) (by lia) (by lia)),Df (BS n j i) (BR (by lia) (by lia) (by lia)),WB (G0 (by lia) (by lia) (by lia))]
  rfl
def jz(H:Hp)(qs:List Addr)(es:List (Int × e7)):Prop:=cK (λq e=>H q=some (.lst (e.2.map V.int))) qs es
def jz.mono{H a:Hp}{qs:List Addr}{es:List (Int × e7)}(h:jz H qs es)(s:am H a):jz a qs es:=h.imp λq e z=>s _ _ z
def FX:Sp:=λvs H Q _=>∃(c:Int),vs=[.int c]/\0<=c/\∀(p a b:Addr) (qs:List Addr) (es:List (Int × e7)) H',am H H'->H' p=some (.tup [.ref a,.ref b])->H' a=some (.lst ((es.map λe=>e.1).map V.int))->H' b=some (.lst (qs.map V.ref))->jz H' qs es->Es es->Q (.ref p) H'
def MN (T:Txt w K mg t):bz P w K mg base "_law_table" 2 t.xb t.uj ["_law_number"] FX:=by
 refine⟨T.NQ,T.DF.kp,T.Qr,T.DF.okQ iF (λvs H Q E h=>by obtain⟨c,rfl,_⟩:=h;rfl) λ_ _ _ _ H vs Q E hr h=>?_⟩;obtain⟨c,rfl,c0,k⟩:=h;have hu:=hr.units;have a1:(2:Int) ^ 64=18446744073709551616:=by decide
 refine⟨_,(ah (aM (i:=1) iF.nd Z (.inl Z) (bh ae))
  (ah (aM (i:=2) iF.nd rfl (.inl rfl) (bh ae))
  (ah (eI PassesOwn.never rfl (mL rfl T.n_range (ad (bC (aa 0)) ae)) (bn (i:=3) iF.nd rfl (.inl rfl)) (ah (aM (i:=4) iF.nd rfl (.inr rfl) (aP (BX T) hr (ad (aa 0) (ad (aG (Te K) (aa 3) ag) ae))))
  (ah (aM (i:=5) iF.nd rfl (.inl rfl) (bh (ad (bC (aG (Te K) (cm (aa 0)) (aG fi ag (aa 3)))) ae)))
  (ah (aA (av eT (bC (cm (aa 0))) ag (aq _)) (aj (aM (i:=5) iF.nd rfl (.inl rfl) (bh (ad (bC (aG (Te K) (cm (aa 0)) (aG fi ag (cm (aa 3))))) (ad (bC (aG (Te K) (cm (aa 0)) (aG fi ag (bC (aa 3))))) ae))))) aF)
  (ah (aM (i:=5) iF.nd rfl (.inl rfl) (aG (Te K) (aa 5) (gp rfl (dn.of (fns:=(ao jc).names) (N:=["_law_number", "_law_signs", "_law_rows", "_law_k", "_law_far", "_law_row_here"]) (Nc:=["_law_j", "_law_far"]) (nv:=1) (caps:=[4]) rfl rfl (by decide +kernel)) (mL rfl T.n_range (ad (bC (aa 4)) ae)) (λ_ _ _ _=>(bn (i:=0) (show List.Nodup (["_law_j", "_law_far"]:List Str) by decide +kernel) rfl (Or.inl rfl) (Or.inr rfl))) (λ_ _ _ _=>fW) (λ_ _ _ _=>(bC (aG (Te K) (cm (aa 1)) (aG fi ag (aa 0))))))))
  (ah (eJ (gq (K:=K) rfl Uf UB UC jo (aa 1) (ad (aP (pW T) hr (ad (aG fi ag (aG (Te K) (bC (cm (aa 0))) (aa 3))) ae)) ae)))
  (aj (eJ (gq (K:=K) rfl Uf UB UC jo (aa 2) (ad (aa 5) ae))))))))))
  (aj (ap (bS (ad (aa 1) (ad (aa 2) ae)))))))),?_⟩
 refine⟨sz Z,λl H1 u=>?_⟩;refine⟨sz Z,λf H2 C=>?_⟩;have I:f≠l:=(ba u.at_ C.nw).symm;have fa:H l=none:=u.nw;have fb:H f=none:=u.sm.free C.nw;refine⟨c%13,rfl,by lia,by lia,?_⟩;refine uc (lo:=0) (n:=(c%13).toNat) (λi σ s=>am H s/\(∃qs es,es.length=i/\Eo c es/\s l=some (.lst ((es.map λe=>e.1).map V.int))/\s f=some (.lst (qs.map V.ref))/\jz s qs es/\∀q∈qs,q≠l/\q≠f)/\∃O v4 R,σ=[some (.int c),some (.ref l),some (.ref f),O,v4,R])
  ⟨u.sm.trans C.sm,⟨[],[],rfl,(λj e h=>by simp at h),C.sm _ _ u.at_,C.at_,cK.nil,(λq h=>nomatch h)⟩,_,_,_,rfl⟩ ?_ ?_
 ·rintro i σ H3 hi ⟨s3,⟨qs,es,le,W,L,hb,d,Y⟩,O,v4,R,rfl⟩;have ab:i<13:=by lia
  refine fU rfl (by lia) (by lia) (λa f0 f1=>?_);refine⟨Or.inl ⟨by decide,by decide⟩,?_⟩;refine⟨sz Z,λp4 H4 m=>?_⟩;dsimp only [bP];refine ce (λσ' s=>am H3 s/\∃D,s D=some (.lst ((eS c i).map V.int))/\σ'=[some (.int c),some (.ref l),some (.ref f),some (.int (0+(i:Int))),some (.int a),some (.ref D)]) (λnx hn=>?_) ?_
  ·refine ak (λz=>?_) (λz=>?_)
   ·have z:c/11%3 > 0:=Wz z;refine⟨Or.inl ⟨by decide,by decide⟩,?_⟩;refine⟨Or.inl ⟨by decide,by decide⟩,?_⟩;refine⟨sz Z,λD H5 g5=>?_⟩;exact hn _ _ ⟨m.sm.trans g5.sm,D,by unfold eS;rw[Ww z];exact g5.at_,Z⟩
   ·have z:¬c/11%3 > 0:=λy=>z (WA y);exact hn _ _ ⟨m.sm,p4,by unfold eS;rw[Wv z];exact m.at_,Z⟩
  rintro σ' H5 ⟨U,D,h5,rfl⟩;refine⟨a%5,rfl,by lia,by lia,?_⟩;refine qN (lo:=0) (n:=(a%5).toNat) (((List.range (a%5).toNat).map λj:Nat=>(a/16+3*(0+(j:Int)))%256).map V.int) (by rw[To,To,Uk]) (cD (by lia)) (λj v H6 N hj hv s6 hN=>?_) λp6 H6 F=>?_
  ·rw[Tv,Tv,U8 hj]at hv;cases hv;refine⟨Or.inl ⟨by decide,by decide⟩,?_⟩;exact hN _ (am.refl _)
  have hl:=BT c i;refine fU (.of (F.sm _ _ h5)) F.lst (cD (by rw[To,To,To,Uk];lia)) (λp7 H7 G=>?_);rw[<- TZ]at G;have g:=U.trans (F.sm.trans G.sm);have B:=g _ _ L;have a5:=g _ _ hb;have o:p7≠l:=(ba (F.sm _ _ (U _ _ L)) G.nw).symm;have p:p7≠f:=(ba (F.sm _ _ (U _ _ hb)) G.nw).symm;refine⟨.inl ⟨rfl,_,.of B⟩,?_⟩;refine⟨Or.inl ⟨by decide,by decide⟩,?_⟩;refine bc Z ?_;refine dS B (fV (by rw[To,To];lia)) ?_;have J:upd H7 l (.lst ((es.map λe=>e.1).map V.int++[.int (mC c i)])) f=some (.lst (qs.map V.ref)):=by rw[au I];exact a5
  refine⟨.inl ⟨rfl,_,.of J⟩,?_⟩;have lq:qs.length=i:=by rw[<- le];exact d.1
  refine dS J (fV (by rw[To];lia)) ?_;refine⟨((s3.trans g).put fa).put fb,⟨qs++[p7],es++[(mC c i,eS c i++(List.range (a%5).toNat).map λj:Nat=>(a/16+3*(0+(j:Int)))%256)],by rw[Tq,le];rfl,λj e r=>?_,?_,?_,cK.app ⟨d.1,λj q e M r=>?_⟩ (cK.cons ?_ cK.nil),λq M=>?_⟩,_,_,_,rfl⟩
  ·by_cases cj:j<es.length
   ·rw[UH cj]at r;exact W j e r
   ·have S:j=es.length:=by
     have:=(Tz.mp r).1;rw[Tq]at this;simp at this;lia
    rw[S,UG (Tp _),Nat.sub_self]at r;cases r;refine⟨by rw[S,le],_,by rw[S,le],by rw[To,Uk];lia,λb hb=>?_⟩;obtain⟨x,_,rfl⟩:=T0.mp hb;lia
  ·rw[au I.symm,aV,TZ,TZ];rfl
  ·rw[aV,TZ];rfl
  ·obtain⟨n1,n2⟩:=Y q (TY M);rw[au n2,au n1];exact g _ _ (d.2 j q e M r)
  ·rw[au p,au o];exact G.at_
  ·rcases TL.mp M with z|z
   ·exact Y q z
   ·rw[TU.mp z];exact⟨o,p⟩
 ·rintro σ H3 ⟨s3,⟨qs,es,le,W,L,hb,d,Y⟩,O,v4,R,rfl⟩;exact⟨sz rfl,λp4 H4 m=>k p4 l f qs es H4 (s3.trans m.sm) m.at_ (m.sm _ _ L) (m.sm _ _ hb) (d.mono m.sm) (Pc W (by lia))⟩
def fK:PyData.strOk "lead" = true:=by decide +kernel
def dX:PyData.strOk "high" = true:=by decide +kernel
def fg:PyData.strOk "low" = true:=by decide +kernel
def dW:PyData.strOk "shift" = true:=by decide +kernel
def fJ:PyData.strOk "table" = true:=by decide +kernel
def lO:PyData.strOk "bare" = true:=by decide +kernel
def AY{p q:Prop}[Decidable p][Decidable q]{A B:Prop}(a:p\/q->A)(b:¬p->¬q->B):if decide p=true then (if true=true then A else B) else (if decide q=true then A else B):=by
 by_cases c:p
 ·rw[Ww (WA c),Ww rfl];exact a (.inl c)
 ·rw[Wv (λz=>c (Wz z))];by_cases c':q
  ·rw[Ww (WA c')];exact a (.inr c')
  ·rw[Wv (λz=>c' (Wz z))];exact b c c'
inductive Md where
 | ld
 | pr (h:Bool)
 | sh (ns ms:e7)
 | tb (es:List (Int × e7))
 | br
def cC:Md->Str
 | .ld => "lead"
 | .pr h=>gG h
 | .sh _ _ => "shift"
 | .tb _ => "table"
 | .br => "bare"
def rN(H:Hp)(a b:Addr):Md->Prop
 | .sh ns ms=>H a=some (.lst (ns.map V.int))/\H b=some (.lst (ms.map V.int))/\dy ns/\dy ms
 | .tb es=>H a=some (.lst ((es.map λe=>e.1).map V.int))/\(∃qs,H b=some (.lst (qs.map V.ref))/\jz H qs es)/\Es es
 | _=>H a=some (.lst [])/\H b=some (.lst [])
def rN.mono{H c:Hp}{a b:Addr}{M:Md}(h:rN H a b M)(s:am H c):rN c a b M:=by
 cases M with
 | sh ns ms=>exact⟨s _ _ h.1,s _ _ h.2.1,h.2.2⟩
 | tb es =>
  obtain⟨f,⟨qs,e,g⟩,d⟩:=h;exact⟨s _ _ f,⟨qs,s _ _ e,g.mono s⟩,d⟩
 | ld=>exact⟨s _ _ h.1,s _ _ h.2⟩
 | pr b=>exact⟨s _ _ h.1,s _ _ h.2⟩
 | br=>exact⟨s _ _ h.1,s _ _ h.2⟩
def Mod(H:Hp)(p:Addr)(M:Md):Prop:=∃a b,H p=some (.tup [.str (cC M),.ref a,.ref b])/\rN H a b M
def Mod.mono{H c:Hp}{p:Addr}{M:Md}(h:Mod H p M)(s:am H c):Mod c p M:=by
 obtain⟨a,b,e,d⟩:=h;exact⟨a,b,s _ _ e,d.mono s⟩
def Gu:Sp:=λvs H Q _=>∃c:Int,vs=[.int c]/\∀p M H',am H H'->Mod H' p M->Q (.ref p) H'
def MU (T:Txt w K mg t):bz P w K mg base "_law_model" 3 t.xm t.uv ["_law_cell"] Gu:=by
 refine⟨T.NY,T.DN.kp,T.Qz,T.DN.okQ jQ (λvs H Q E h=>by obtain⟨c,rfl,_⟩:=h;rfl) λ_ _ _ _ H vs Q E y h=>?_⟩;obtain⟨c,rfl,k⟩:=h;have v:=y.units;refine⟨_,(ah (aM (i:=1) jQ.nd Z (.inl Z) (aP (BX T) y (ad (cm (aa 0)) (ad ag ae))))
  (ah (aA (bG (ck (av (bi (K:=K) rfl v) (bC (aa 0)) ag (aq _)) (cE (av (bi (K:=K) rfl v) (bC (aa 0)) ag (aq _))))) (ah (ic (aP (MV T) y (ad (aa 1) ae)) (ff (K:=K) rfl rfl (bR (bn (i:=2) jQ.nd rfl (.inl rfl)) (bR (bn (i:=3) jQ.nd rfl (.inl rfl)) fe))))
  (aj (ap (bS (ad aW (ad (aa 2) (ad (aa 3) ae))))))) aF)
  (ah (aA (bG (ck (av (bi (K:=K) rfl v) (bC (aa 0)) ag (aq _)) (cE (av (bi (K:=K) rfl v) (bC (aa 0)) ag (aq _))))) (ah (ic (aP (MN T) y (ad (aa 1) ae)) (ff (K:=K) rfl rfl (bR (bn (i:=4) jQ.nd rfl (.inl rfl)) (bR (bn (i:=5) jQ.nd rfl (.inl rfl)) fe))))
  (aj (ap (bS (ad aW (ad (aa 4) (ad (aa 5) ae))))))) aF)
  (ah (aA (bG (eG (av (bi (K:=K) rfl v) (bC (aa 0)) ag (aq _)) (fD (av (bi (K:=K) rfl v) (bC (aa 1)) ag (aq _))))) (aj (ap (bS (ad aW (ad (bh ae) (ad (bh ae) ae)))))) aF)
  (aj (ap (bS (ad (aB (Ti K) (bh (iJ rfl)) (bC (bC (aa 0))) (λ_ _=>rfl)) (ad (bh ae) (ad (bh ae) ae)))))))))),?_⟩
 refine fU rfl (by decide) (by decide) (λn L U=>?_);refine AY (p:=c%8=3) (q:=c%8=4) (λ_=>?_) (λ_ _=>?_)
 ·refine gl n Z (λp q r ns ms d s1 B D u z G=>?_);refine⟨p,_,Z,.of B,Z,_,_,Z,_,_,Z,Z,?_⟩;exact⟨sz Z,λF b a=>k F (.sh ns ms) b (s1.trans a.sm) ⟨q,r,a.at_,a.sm _ _ D,a.sm _ _ u,z,G⟩⟩
 refine AY (p:=c%8=5) (q:=c%8=6) (λ_=>?_) (λ_ _=>?_)
 ·refine dL n Z L (λp q r qs es d s1 B D u C ok=>?_);refine⟨p,_,Z,.of B,Z,_,_,Z,_,_,Z,Z,?_⟩;exact⟨sz Z,λF b a=>k F (.tb es) b (s1.trans a.sm) ⟨q,r,a.at_,a.sm _ _ D,⟨qs,a.sm _ _ u,C.mono a.sm⟩,ok⟩⟩
 have g:∀j,am H j->∀M:Md,(M=.ld\/(∃h,M=.pr h)\/M=.br)->∀f d e b s o,bA j f (.lst []) d->bA d e (.lst []) b->bA b s (.tup [.str (cC M),.ref f,.ref e]) o->Q (.ref s) o:=by
  intro j s0 M hM f d e b s o m a l;refine k s M o (s0.trans (m.sm.trans (a.sm.trans l.sm))) ⟨f,e,l.at_,?_⟩;rcases hM with rfl|⟨h,rfl⟩|rfl<;>exact⟨l.sm _ _ (a.sm _ _ m.at_),l.sm _ _ a.at_⟩
 have bJ:∀i:Int,0<=i->i<3->∃M:Md,(M=.ld\/(∃h,M=.pr h)\/M=.br)/\cY [V.str "lead",.str "high",.str "low"] i=some (.str (cC M)):=by
  intro i S N;rcases (show i=0\/i=1\/i=2 by lia) with rfl|rfl|rfl
  ·exact⟨.ld,.inl Z,Z⟩
  ·exact⟨.pr true,.inr (.inl ⟨_,Z⟩),Z⟩
  ·exact⟨.pr false,.inr (.inl ⟨_,Z⟩),Z⟩
 have J:∀ {R:VK},(∀p x,(∃M:Md,(M=.ld\/(∃h,M=.pr h)\/M=.br)/\∃f d e b j,am H j/\bA j f (.lst []) d/\bA d e (.lst []) b/\bA b p (.tup [.str (cC M),.ref f,.ref e]) x)->Q (.ref p) x):=λ{R} p x h=>by
  obtain⟨M,hM,f,d,e,b,j,s0,m,a,l⟩:=h;exact g j s0 M hM f d e b p x m a l
 have tail:∀(hx:True),sY (jG (hZ (fk K) (mT (sd [V.str "lead",V.str "high",V.str "low"])) (pJ 3 (pJ 8 (mV 0)))) (jG (mT i8) (jG (mT i8) i8))) [some (.int c),some (.int n),none,none,none,none] H Q:=by
  intro _;refine⟨sz Z,λO j I=>?_⟩;obtain⟨M,hM,eM⟩:=bJ (c%8%3) (by lia) (by lia);refine aY (.inl I.lst) eM ?_;refine⟨sz Z,λf d m=>?_⟩;refine⟨sz Z,λe b a=>?_⟩;exact⟨sz Z,λs o l=>g j I.sm M hM f d e b s o m a l⟩
 refine ak (λ_=>?_) (λ_=>?_)
 ·refine ak (λ_=>?_) (λ_=>?_)
  ·refine⟨sz Z,λf d m=>?_⟩;refine⟨sz Z,λe b a=>?_⟩;exact⟨sz Z,λs o l=>g H (am.refl _) .br (.inr (.inr Z)) f d e b s o m a l⟩
  ·exact tail trivial
 ·exact tail trivial
def Mt:Md->Kt->Prop
 | .ld,D=>D=.ld
 | .pr h,D=>D=.pr h
 | .sh ns ms,D=>∃f,D=.sh f ns ms
 | .tb es,D=>∃f,D=.tb f es
 | .br,D=>D=.br
def FV(t:Adr):Sp:=λvs H Q _=>∃(p:Addr) (M:Md),vs=[.ref p]/\Mod H p M/\∀o D H',am H H'->Mt M D->TN t H' o D->Q (.ref o) H'
def ML (T:Txt w K mg t):bz P w K mg base "_law_tongue" 8 t.w5 t.ug ["_law_model_here"] (FV t):=by
 refine⟨T.NN,T.DC.kp,T.Qo,T.DC.okQ oM (λvs H Q E h=>by obtain⟨p,M,rfl,_⟩:=h;rfl) λ_ _ _ _ H vs Q E J h=>?_⟩;obtain⟨p,M,rfl,⟨a,b,hp,ct⟩,k⟩:=h;have y:=J.units;refine⟨_,(ah (ic (aa 0) (ff (K:=K) Z Z (bR (bn (i:=1) oM.nd Z (.inl Z)) (bR (bn (i:=2) oM.nd Z (.inl Z)) (bR (bn (i:=3) oM.nd Z (.inl Z)) fe)))))
  (ah (aA (av (bi (K:=K) rfl y) (aa 1) aW (aq _)) (aj (ap (AB T.Lv T.NL))) aF)
  (ah (aA (bG (ck (av (bi (K:=K) rfl y) (aa 1) aW (aq _)) (cE (av (bi (K:=K) rfl y) (aa 1) aW (aq _))))) (aj (ap (mO (MB T) J (ad (aa 1) ae)))) aF)
  (ah (aA (av (bi (K:=K) rfl y) (aa 1) aW (aq _)) (aj (ap (mO (MA T) J (ad (cr (Tk K) T.n_list T5 (ad (aa 2) ae)) (ad (cr (Tk K) T.n_list T5 (ad (aa 3) ae)) ae))))) aF)
  (ah (aA (av (bi (K:=K) rfl y) (aa 1) aW (aq _)) (aj (ap (mO (Mz T) J (ad (gp rfl (dn.of (fns:=(ao jb).names) (N:=["_law_model_here", "_law_word", "_law_first", "_law_second"]) (Nc:=["_law_sign", "_law_row_here"]) (nv:=2) (caps:=[]) rfl rfl (by decide +kernel)) (Iz (K:=K) rfl rfl T.n_zip (ad (aa 2) (ad (aa 3) ae))) (λ_ _ _ _=>(ff (K:=K) rfl (n:=2) rfl (bR (bn (i:=0) (show List.Nodup (["_law_sign", "_law_row_here"]:List Str) by decide +kernel) rfl (Or.inl rfl) (Or.inr rfl)) (bR (bn (i:=1) (show List.Nodup (["_law_sign", "_law_row_here"]:List Str) by decide +kernel) rfl (Or.inl rfl) (Or.inr rfl)) fe)))) (λ_ _ _ _=>fW) (λ_ _ _ _=>(bS (ad (aa 0) (ad (cr (Tk K) T.n_list T5 (ad (aa 1) ae)) ae))))) ae)))) aF)
  (aj (ap (AB T.Lu T.NG)))))))),?_⟩
 refine⟨p,_,Z,.of hp,Z,_,_,Z,_,_,Z,_,_,Z,Z,?_⟩;cases M with
 | ld =>
  refine xS (aN fK) (aN fK) ?_;refine ak (λ_=>?_) (λz=>Wx (show PyData.eqv (.str "lead") (.str "lead")=true by decide +kernel) z);refine λx dx hx d g=>?_;exact k x .ld _ (iH hx d) Z ⟨dx,aV⟩
 | pr h =>
  cases h with
  | true =>
   refine xS (aN dX) (aN fK) ?_;refine ak (λz=>Wx (show PyData.eqv (.str "high") (.str "lead")=true from z) (by decide +kernel)) (λ_=>?_);refine xS (aN dX) (aN dX) ?_;refine ak (λ_=>?_) (λz=>Wx (show PyData.eqv (.str "high") (.str "high")=true by decide +kernel) z);refine iN ?_;refine λx dx hx d g=>?_;refine cz x dx true Z aV Z ?_;refine k x (.pr true) _ (λc u e=>?_) Z ⟨dx,aV⟩;rw[au (ba e hx)];exact iH hx d c u e
  | false =>
   refine xS (aN fg) (aN fK) ?_;refine ak (λz=>Wx (show PyData.eqv (.str "low") (.str "lead")=true from z) (by decide +kernel)) (λ_=>?_);refine xS (aN fg) (aN dX) ?_;refine ak (λz=>Wx (show PyData.eqv (.str "low") (.str "high")=true from z) (by decide +kernel)) (λ_=>?_);refine xS (aN fg) (aN fg) ?_;refine ak (λ_=>?_) (λz=>Wx (show PyData.eqv (.str "low") (.str "low")=true by decide +kernel) z);refine λx dx hx d g=>?_;refine cz x dx false Z aV Z ?_;refine k x (.pr false) _ (λc u e=>?_) Z ⟨dx,aV⟩;rw[au (ba e hx)];exact iH hx d c u e
 | sh ns ms =>
  obtain⟨F,hb,S,a3⟩:=ct;refine xS (aN dW) (aN fK) ?_;refine ak (λz=>Wx (show PyData.eqv (.str "shift") (.str "lead")=true from z) (by decide +kernel)) (λ_=>?_);refine xS (aN dW) (aN dX) ?_;refine ak (λz=>Wx (show PyData.eqv (.str "shift") (.str "high")=true from z) (by decide +kernel)) (λ_=>?_);refine xS (aN dW) (aN fg) ?_;refine ak (λz=>Wx (show PyData.eqv (.str "shift") (.str "low")=true from z) (by decide +kernel)) (λ_=>?_);refine xS (aN dW) (aN dW) ?_;refine ak (λ_=>?_) (λz=>Wx (show PyData.eqv (.str "shift") (.str "shift")=true by decide +kernel) z);refine bc (.inl (.of F)) (λq H1 B=>?_);refine bc (.inl (.of (B.sm _ _ hb))) (λr H2 o=>?_);refine λx dx hx d g=>?_;have s:=iH (C:=t.cf) hx d;have O:=o.sm _ _ B.at_;refine⟨x,dx,q,r,ns,ms,rfl,aV,.of (s _ _ O),.of (s _ _ o.at_),S,a3,ba O hx,ba o.at_ hx,λfp W k8 a4 fr=>⟨rfl,?_⟩⟩;refine k x (.sh fp ns ms) W (λc u e=>k8 _ _ (ba (o.sm _ _ (B.sm _ _ e)) hx) (s _ _ (o.sm _ _ (B.sm _ _ e)))) ⟨fp,Z⟩ a4
 | tb es =>
  obtain⟨F,⟨qs,hb,m⟩,ok⟩:=ct;refine xS (aN fJ) (aN fK) ?_;refine ak (λz=>Wx (show PyData.eqv (.str "table") (.str "lead")=true from z) (by decide +kernel)) (λ_=>?_);refine xS (aN fJ) (aN dX) ?_;refine ak (λz=>Wx (show PyData.eqv (.str "table") (.str "high")=true from z) (by decide +kernel)) (λ_=>?_);refine xS (aN fJ) (aN fg) ?_;refine ak (λz=>Wx (show PyData.eqv (.str "table") (.str "low")=true from z) (by decide +kernel)) (λ_=>?_);refine xS (aN fJ) (aN dW) ?_;refine ak (λz=>Wx (show PyData.eqv (.str "table") (.str "shift")=true from z) (by decide +kernel)) (λ_=>?_);refine xS (aN fJ) (aN fJ) ?_;refine ak (λ_=>?_) (λz=>Wx (show PyData.eqv (.str "table") (.str "table")=true by decide +kernel) z);have ab:=ok.l;have lq:=m.1;refine⟨a,b,_,_,Z,.of F,.of hb,?_⟩;refine Py (K:=K) (a:=a) (b:=b) (xs:=(es.map λe=>e.1).map V.int) (zs:=qs.map V.ref) (cs:=[]) (by simp[lq]) (λi I Y=>am H Y/\∃ps:List Addr,I=ps.map V.ref/\ps.length=i/\ml Y ps (es.take i)) ⟨am.refl _,[],rfl,rfl,cK.nil⟩ (λi I Y hi z=>⟨z.1.seq (.of F),z.1.seq (.of hb),by obtain⟨_,ps,rfl,U,_⟩:=z;rw[To];lia⟩) (cD (by rw[To,To];lia)) (λi x z I H2 H3 N hx hz pv s3 hN=>?_) λI H2 pf H3 pv R=>?_
  ·obtain⟨n,hn,rfl⟩:=dY hx;obtain⟨q,hq,rfl⟩:=oX hz;obtain⟨L,ps,rfl,U,G⟩:=pv;obtain⟨e,he,v⟩:=m.right hq;rw[Tv,he]at hn;cases hn;simp only [gA,if_true];have j:=L.trans s3;refine bc (.inl (.of (j _ _ v))) (λO H4 g4=>?_);refine⟨sz Z,λp5 H5 D=>?_⟩;refine hN _ _ ⟨j.trans (g4.sm.trans D.sm),ps++[p5],by rw[TZ];rfl,by rw[Tq,U];rfl,?_⟩;rw[fA he];refine cK.app (G.mono (s3.trans (g4.sm.trans D.sm))) (cK.cons ⟨⟨O,D.at_,D.sm _ _ g4.at_⟩,?_⟩ cK.nil);have:=ok.sg e (TY he);exact⟨this.2.1,this.2.2.1⟩
  obtain⟨L,ps,rfl,U,G⟩:=pv;rw[To,To,TK]at G;refine λx dx hx d g=>?_;have s:=iH (C:=t.cv) hx d;refine bZ x dx pf ps es rfl aV (s _ _ R.at_) (G.mono (R.sm.trans s)) ok (λf W k8 a1=>⟨rfl,?_⟩);exact k x (.tb f es) W (λc u e=>k8 _ _ (ba (R.sm _ _ (L _ _ e)) hx) (s _ _ (R.sm _ _ (L _ _ e)))) ⟨f,Z⟩ ⟨a1,ok⟩
 | br =>
  refine xS (aN lO) (aN fK) ?_;refine ak (λz=>Wx (show PyData.eqv (.str "bare") (.str "lead")=true from z) (by decide +kernel)) (λ_=>?_);refine xS (aN lO) (aN dX) ?_;refine ak (λz=>Wx (show PyData.eqv (.str "bare") (.str "high")=true from z) (by decide +kernel)) (λ_=>?_);refine xS (aN lO) (aN fg) ?_;refine ak (λz=>Wx (show PyData.eqv (.str "bare") (.str "low")=true from z) (by decide +kernel)) (λ_=>?_);refine xS (aN lO) (aN dW) ?_;refine ak (λz=>Wx (show PyData.eqv (.str "bare") (.str "shift")=true from z) (by decide +kernel)) (λ_=>?_);refine xS (aN lO) (aN fJ) ?_;refine ak (λz=>Wx (show PyData.eqv (.str "bare") (.str "table")=true from z) (by decide +kernel)) (λ_=>?_);refine λx dx hx d g=>?_;exact k x .br _ (iH hx d) Z ⟨dx,aV⟩
def Gw:Sp:=λvs H Q _=>∃n,vs=[.int n]/\∀p H',bA H p (.lst ((row n).map V.int)) H'->Q (.ref p) H'
def MW (T:Txt w K mg t):bz P w K mg base "_law_lead_row" 1 t.xp t.uA ["_law_sign"] Gw:=by
 refine⟨T.N2,T.DQ.kp,T.QD,T.DQ.okQ G8 (λvs H Q E h=>by obtain⟨n,rfl,_⟩:=h;rfl) λ_ _ _ _ H vs Q E d h=>?_⟩;obtain⟨n,rfl,k⟩:=h;refine⟨_,(ah (aA (av c7 (aa 0) ag (aq _)) (aj (ap (bh (ad (aa 0) ae)))) aF)
  (ah (aA (av c7 (aa 0) ag (aq _)) (aj (ap (bh (ad (aG (Te K) ag (cm (aa 0))) (ad (aG (Te K) ag (bC (aa 0))) ae))))) aF)
  (ah (aA (av c7 (aa 0) ag (aq _)) (aj (ap (bh (ad (aG (Te K) ag (cm (aa 0))) (ad (aG (Te K) ag (bC (cm (aa 0)))) (ad (aG (Te K) ag (bC (aa 0))) ae)))))) aF)
  (aj (ap (bh (ad (aG (Te K) ag (cm (aa 0))) (ad (aG (Te K) ag (bC (cm (aa 0)))) (ad (aG (Te K) ag (bC (cm (aa 0)))) (ad (aG (Te K) ag (bC (aa 0))) ae)))))))))),?_⟩
 unfold row at k;refine ak (λa=>?_) (λa=>?_)
 ·rw[Ww (Wz a)]at k;exact⟨sz Z,k⟩
 rw[Wv (λz=>a (WA z))]at k;refine ak (λb=>?_) (λb=>?_)
 ·rw[Ww (Wz b)]at k;exact⟨sz Z,k⟩
 rw[Wv (λz=>b (WA z))]at k;refine ak (λc=>?_) (λc=>?_)
 ·rw[Ww (Wz c)]at k;exact⟨sz Z,k⟩
 rw[Wv (λz=>c (WA z))]at k;exact⟨sz Z,k⟩
def Gj:Sp:=λvs H Q _=>∃(n:Int) (h:Bool),vs=[.int n,.str (gG h)]/\∀p H',am H H'->H p=none->H' p=some (.lst ((cT h n).map V.int))->Q (.ref p) H'
def MQ (T:Txt w K mg t):bz P w K mg base "_law_pair_row" 1 t.xh t.uq ["_law_sign", "_law_word"] Gj:=by
 refine⟨T.NU,T.DJ.kp,T.Qv,T.DJ.okQ i9 (λvs H Q E h=>by obtain⟨n,h,rfl,_⟩:=h;rfl) λ_ _ _ _ H vs Q E S h=>?_⟩;obtain⟨n,h,rfl,k⟩:=h;have U:=S.units;refine⟨_,(ah (aM (i:=2) i9.nd Z (.inl Z) (bh (ad (aa 0) ae)))
  (ah (aA (av eT (aa 0) ag (aq _)) (aj (aM (i:=2) i9.nd rfl (.inl rfl) (bh (ad (aG (Te K) ag (cm (aG dw (aa 0) ag))) (ad (aG (Te K) ag (bC (aa 0))) ae))))) aF)
  (ah (aM (i:=3) i9.nd rfl (.inl rfl) (bh ae))
  (ah (eI PassesOwn.never rfl (fF (K:=K) rfl (aa 2)) (bn (i:=4) i9.nd rfl (.inl rfl)) (aj (aA (av (bi (K:=K) rfl U) (aa 1) aW (aq _)) (aj (aM (i:=3) i9.nd rfl (.inl rfl) (aG (Te K) (aa 3) (bh (ad (cm (aa 4)) (ad (bC (aa 4)) ae)))))) (aj (aM (i:=3) i9.nd rfl (.inl rfl) (aG (Te K) (aa 3) (bh (ad (bC (aa 4)) (ad (cm (aa 4)) ae)))))))))
  (aj (ap (aa 3))))))),?_⟩
 refine⟨sz Z,λI Y r=>?_⟩;dsimp only [bP];refine ce (λy f=>am H f/\∃j,f j=some (.lst ((cR n).map V.int))/\y=[some (.int n),some (.str (gG h)),some (.ref j),none,none]) (λnx D=>?_) ?_
 ·refine ak (λc=>?_) (λc=>?_)
  ·have c:n > 65535:=Wz c;refine⟨sz Z,λM W B=>?_⟩;refine D _ _ ⟨r.sm.trans B.sm,M,?_,Z⟩;have e:cR n=[55296+(n-65536)/1024,56320+n%1024]:=by
    unfold cR;rw[Wv (by lia)]
    congr 2
    lia
   rw[e];exact B.at_
  ·have c:¬n > 65535:=λz=>c (WA z);refine D _ _ ⟨r.sm,I,?_,Z⟩;have e:cR n=[n]:=by unfold cR;rw[Ww (by lia)]
   rw[e];exact r.at_
 rintro y W ⟨v,j,l,rfl⟩;have lu:=yV n;refine⟨sz Z,λO J g=>?_⟩;refine dL j Z ⟨_,.of (g.sm _ _ l)⟩ (l7 (K:=K) (a:=j) (xs:=(cR n).map V.int) (λi σ f=>am J f/\∃(pr:Addr) (u:Option V),H pr=none/\f pr=some (.lst ((((cR n).take i).flatMap (ub h)).map V.int))/\σ=[some (.int n),some (.str (gG h)),some (.ref j),some (.ref pr),u]) ⟨am.refl _,O,_,v.free g.nw,g.at_,Z⟩ (λi σ f _ z=>z.1.seq (.of (g.sm _ _ l))) ?_ ?_)
 ·rintro i x σ C hx ⟨o,pr,u,_,p,rfl⟩;obtain⟨m,F,rfl⟩:=dY hx;have q:=v.trans (g.sm.trans o);have hi:i<(cR n).length:=(Tz.mp F).1;have fl:=qe h ((cR n).take i);have lt:((cR n).take i).length<=2:=by rw[TyZ];lia
  have e:((cR n).take (i+1)).flatMap (ub h)=((cR n).take i).flatMap (ub h)++ub h m:=by rw[fA F,List.flatMap_append];simp
  cases h with
  | true =>
   refine xS (aN dX) (aN dX) ?_;refine ak (λ_=>?_) (λz=>Wx (show PyData.eqv (.str "high") (.str "high")=true by decide +kernel) z);refine⟨sz Z,λL G b=>?_⟩;refine fU (.of (b.sm _ _ p)) b.lst (cD (by rw[To];show _+2<=_;lia)) (λs R d=>?_);refine⟨o.trans (b.sm.trans d.sm),s,_,(q.trans b.sm).free d.nw,?_,Z⟩;rw[e,TZ];exact d.at_
  | false =>
   refine xS (aN fg) (aN dX) ?_;refine ak (λz=>Wx (show PyData.eqv (.str "low") (.str "high")=true from z) (by decide +kernel)) (λ_=>?_);refine⟨sz Z,λL G b=>?_⟩;refine fU (.of (b.sm _ _ p)) b.lst (cD (by rw[To];show _+2<=_;lia)) (λs R d=>?_);refine⟨o.trans (b.sm.trans d.sm),s,_,(q.trans b.sm).free d.nw,?_,Z⟩;rw[e,TZ];exact d.at_
 ·rintro σ C ⟨o,pr,u,N,p,rfl⟩;rw[To,TK]at p;exact k pr C (v.trans (g.sm.trans o)) N p
def gZ(n:Int)(ns:e7):bB (.int n) (ns.map V.int)=decide (n∈ns):=Mv n ns
def iQ(ns:e7):(ns.map V.int).all fL=true:=by
 rw[UY];intro x hx;obtain⟨n,_,rfl⟩:=T0.mp hx
 rfl
def FY(t:Adr):Sp:=λvs H Q _=>∃(p:Addr) (M:Md) (D:Kt) (n g:Int),vs=[.ref p,.int n,.int g]/\Mod H p M/\Mt M D/\dJ D n/\cu D g/\∀pr q H',am H H'->H q=none->H' q=some (.lst ((bM D g n).1.map V.int))->H' pr=some (.tup [.ref q,.int (bM D g n).2])->Q (.ref pr) H'
def BW (T:Txt w K mg t):bz P w K mg base "_law_spell" 2 t.xc t.uk ["_law_model_here", "_law_sign", "_law_page_here"] (FY t):=by
 refine⟨T.NR,T.DG.kp,T.Qs,T.DG.okQ oN (λvs H Q E h=>by obtain⟨p,M,D,n,g,rfl,_⟩:=h;rfl) λ_ _ _ _ H vs Q E hr h=>?_⟩;obtain⟨p,M,D,n,g,rfl,⟨a,b,G,ct⟩,mt,s,pg,k⟩:=h;have F:=hr.units;refine⟨_,(ah (ic (aa 0) (ff (K:=K) Z Z (bR (bn (i:=3) oN.nd Z (.inl Z)) (bR (bn (i:=4) oN.nd Z (.inl Z)) (bR (bn (i:=5) oN.nd Z (.inl Z)) fe)))))
  (ah (aA (av (bi (K:=K) rfl F) (aa 3) aW (aq _)) (aj (ap (bS (ad (aP (MW T) hr (ad (aa 1) ae)) (ad ag ae))))) aF)
  (ah (aA (bG (ck (av (bi (K:=K) rfl F) (aa 3) aW (aq _)) (cE (av (bi (K:=K) rfl F) (aa 3) aW (aq _))))) (aj (ap (bS (ad (aP (MQ T) hr (ad (aa 1) (ad (aa 3) ae))) (ad ag ae))))) aF)
  (ah (aA (bG (eG (av (bi (K:=K) rfl F) (aa 3) aW (aq _)) (fD (av (jt (K:=K) rfl) (aa 1) (aa 4) (by with_unfolding_all rfl))))) (aj (ap (bS (ad (cr (Tk K) T.n_list T5 (ad (aB (Ti K) (aa 5) (gq (K:=K) rfl Uf U3 Vw (pG (K:=K) rfl) (aa 4) (ad (aa 1) ae)) (λ_ _=>rfl)) ae)) (ad ag ae))))) aF)
  (ah (aA (bG (eG (av (bi (K:=K) rfl F) (aa 3) aW (aq _)) (fD (av (jt (K:=K) rfl) (aa 1) (aB (Ti K) (aa 0) (aG (Te K) ag (aa 2)) (λ_ _=>rfl)) (by with_unfolding_all rfl))))) (aj (ap (bS (ad (bh (ad (gq (K:=K) rfl Uf U3 Vw (pG (K:=K) rfl) (aB (Ti K) (aa 0) (aG (Te K) ag (aa 2)) (λ_ _=>rfl)) (ad (aa 1) ae)) ae)) (ad (aa 2) ae))))) aF)
  (ah (aA (bG (eG (av (bi (K:=K) rfl F) (aa 3) aW (aq _)) (fD (av (jt (K:=K) rfl) (aa 1) (aB (Ti K) (aa 0) (aG dw ag (aa 2)) (λ_ _=>rfl)) (by with_unfolding_all rfl))))) (aj (ap (bS (ad (bh (ad (aG dw ag (aa 2)) (ad (gq (K:=K) rfl Uf U3 Vw (pG (K:=K) rfl) (aB (Ti K) (aa 0) (aG dw ag (aa 2)) (λ_ _=>rfl)) (ad (aa 1) ae)) ae))) (ad (aG dw ag (aa 2)) ae))))) aF)
  (aj (ap bD)))))))),?_⟩
 refine⟨p,_,Z,.of G,Z,_,_,Z,_,_,Z,_,_,Z,Z,?_⟩;cases M with
 | ld =>
  obtain rfl:D=.ld:=mt;obtain rfl:g=0:=pg;refine xS (aN fK) (aN fK) ?_;refine ak (λ_=>?_) (λz=>Wx (show PyData.eqv (.str "lead") (.str "lead")=true by decide +kernel) z);refine gl n Z (λq L d=>?_);exact⟨sz Z,λl r c=>k l q r (d.sm.trans c.sm) d.nw (c.sm _ _ d.at_) c.at_⟩
 | pr h =>
  obtain rfl:D=.pr h:=mt;obtain rfl:g=0:=pg;cases h with
  | true =>
   refine xS (aN dX) (aN fK) ?_;refine ak (λz=>Wx (show PyData.eqv (.str "high") (.str "lead")=true from z) (by decide +kernel)) (λ_=>?_);refine xS (aN dX) (aN dX) ?_;refine ak (λ_=>?_) (λz=>Wx (show PyData.eqv (.str "high") (.str "high")=true by decide +kernel) z);refine iN ?_;refine⟨n,true,Z,λq L s1 nq N=>?_⟩;exact⟨sz Z,λl r c=>k l q r (s1.trans c.sm) nq (c.sm _ _ N) c.at_⟩
  | false =>
   refine xS (aN fg) (aN fK) ?_;refine ak (λz=>Wx (show PyData.eqv (.str "low") (.str "lead")=true from z) (by decide +kernel)) (λ_=>?_);refine xS (aN fg) (aN dX) ?_;refine ak (λz=>Wx (show PyData.eqv (.str "low") (.str "high")=true from z) (by decide +kernel)) (λ_=>?_);refine xS (aN fg) (aN fg) ?_;refine ak (λ_=>?_) (λz=>Wx (show PyData.eqv (.str "low") (.str "low")=true by decide +kernel) z);refine⟨n,false,Z,λq L s1 nq N=>?_⟩;exact⟨sz Z,λl r c=>k l q r (s1.trans c.sm) nq (c.sm _ _ N) c.at_⟩
 | br =>
  obtain rfl:D=.br:=mt;exact s.elim
 | tb es =>
  obtain⟨f,rfl⟩:=mt;obtain rfl:g=0:=pg;obtain⟨C,⟨qs,hb,Y⟩,ok⟩:=ct;refine xS (aN fJ) (aN fK) ?_;refine ak (λz=>Wx (show PyData.eqv (.str "table") (.str "lead")=true from z) (by decide +kernel)) (λ_=>?_);refine xS (aN fJ) (aN dX) ?_;refine ak (λz=>Wx (show PyData.eqv (.str "table") (.str "high")=true from z) (by decide +kernel)) (λ_=>?_);refine xS (aN fJ) (aN fg) ?_;refine ak (λz=>Wx (show PyData.eqv (.str "table") (.str "low")=true from z) (by decide +kernel)) (λ_=>?_);refine xS (aN fJ) (aN fJ) ?_;refine ak (λ_=>?_) (λz=>Wx (show PyData.eqv (.str "table") (.str "table")=true by decide +kernel) z);obtain⟨e0,O,S,a0⟩:=ju s;have u:n∈es.map λe=>e.1:=T0.mpr ⟨e0,O,S⟩;refine gk (.inl (.of C)) Z (iQ _) ?_;refine ak (λ_=>?_) (λz=>?_)
  ·obtain⟨j,v,_⟩:=jr u;obtain⟨B,J⟩:=iO v;rw[Tv]at B;obtain⟨ej,x,W⟩:=UO.mp B;obtain⟨q,N,R⟩:=Y.left x;have ee:ej=e0:=by
    rcases ok.two (TY x) O with z|z
    ·exact z
    ·unfold eV at z;rw[WA (W.trans S.symm)]at z;cases z
   refine⟨.inl ⟨rfl,_,.of C⟩,?_⟩;refine⟨_,_,_,j,rfl,rfl,C,rfl,iQ _,⟨.int n,by rw[Tv,Tv,x,<- W];rfl,by simp[di]⟩,λU z o hz=>?_,?_⟩
   ·obtain⟨m,u,rfl⟩:=dY hz;have:¬m=n:=λy=>J U o (by rw[<- y];exact u);simp[di,this]
   refine⟨_,.ref q,.inl (.of hb),aH (by rw[Tv,N];rfl),?_⟩;refine bc (.inl (.of R)) (λq2 L d=>?_);have es':bM (.tb f es) 0 n=(e0.2,0):=by
    show (Option.map _ _).getD _=_;rw[a0];rfl
   rw[ee]at d;exact⟨sz rfl,λl r c=>k l q2 r (d.sm.trans c.sm) d.nw (by rw[es'];exact c.sm _ _ d.at_) (by rw[es'];exact c.at_)⟩
  ·have z:¬bB (.int n) ((es.map λe=>e.1).map V.int)=true:=z;rw[gZ]at z;exact Wx (WA u) z
 | sh ns ms =>
  obtain⟨f,rfl⟩:=mt;obtain⟨C,hb,a5,a7⟩:=ct;have two:cJ g:=pg;refine xS (aN dW) (aN fK) ?_;refine ak (λz=>Wx (show PyData.eqv (.str "shift") (.str "lead")=true from z) (by decide +kernel)) (λ_=>?_);refine xS (aN dW) (aN dX) ?_;refine ak (λz=>Wx (show PyData.eqv (.str "shift") (.str "high")=true from z) (by decide +kernel)) (λ_=>?_);refine xS (aN dW) (aN fg) ?_;refine ak (λz=>Wx (show PyData.eqv (.str "shift") (.str "low")=true from z) (by decide +kernel)) (λ_=>?_);refine xS (aN dW) (aN fJ) ?_;refine ak (λz=>Wx (show PyData.eqv (.str "shift") (.str "table")=true from z) (by decide +kernel)) (λ_=>?_);refine xS (aN dW) (aN dW) ?_;refine ak (λ_=>?_) (λz=>Wx (show PyData.eqv (.str "shift") (.str "shift")=true by decide +kernel) z);have hP:H (ai g a b)=some (.lst ((ai g ns ms).map V.int)):=by
   rcases two with rfl|rfl
   ·exact C
   ·exact hb
  have hO:H (ai g b a)=some (.lst ((ai g ms ns).map V.int)):=by
   rcases two with rfl|rfl
   ·exact hb
   ·exact C
  have eP:cY [V.str (cC (.sh ns ms)),.ref a,.ref b] (1+g)=some (.ref (ai g a b)):=by rcases two with rfl|rfl<;>rfl
  have eO:cY [V.str (cC (.sh ns ms)),.ref a,.ref b] (2-g)=some (.ref (ai g b a)):=by rcases two with rfl|rfl<;>rfl
  have mem:n∈ai g ns ms\/n∈ai g ms ns:=by
   rcases two with rfl|rfl
   ·exact s
   ·exact s.symm
  refine aY (.inr (.of G)) eP ?_;refine gk (.inl (.of hP)) Z (iQ _) ?_;refine ak (λz=>?_) (λz=>?_)
  ·have z:bB (.int n) ((ai g ns ms).map V.int)=true:=z;rw[gZ]at z;obtain⟨j,v,_⟩:=jr (Wz z);obtain⟨B,J⟩:=iO v;refine aY (.inr (.of G)) eP ?_;refine⟨.inl ⟨rfl,_,.of hP⟩,?_⟩;refine⟨_,_,_,j,rfl,rfl,hP,rfl,iQ _,⟨.int n,by rw[Tv,B];rfl,by simp[di]⟩,λU z o hz=>?_,?_⟩
   ·obtain⟨m,u,rfl⟩:=dY hz;have:¬m=n:=λy=>J U o (by rw[<- y];exact u);simp[di,this]
   have es':bM (.sh f ns ms) g n=([(j:Int)],g):=by
    show (eE (ai g ns ms) (ai g ms ns) g (.int n)).getD _=_;unfold eE;dsimp only;rw[v];rfl
   refine⟨sz Z,λq L d=>?_⟩;exact⟨sz rfl,λl r c=>k l q r (d.sm.trans c.sm) d.nw (by rw[es'];exact c.sm _ _ d.at_) (by rw[es'];exact c.at_)⟩
  ·have z:¬bB (.int n) ((ai g ns ms).map V.int)=true:=z;rw[gZ]at z;have z:n∉ai g ns ms:=λy=>z (WA y);have hmO:=mem.resolve_left z;refine xS (aN dW) (aN dW) ?_;refine ak (λ_=>?_) (λz=>Wx (show PyData.eqv (.str "shift") (.str "shift")=true by decide +kernel) z);refine aY (.inr (.of G)) eO ?_;refine gk (.inl (.of hO)) Z (iQ _) ?_;refine ak (λ_=>?_) (λy=>?_)
   ·obtain⟨j,v,_⟩:=jr hmO;obtain⟨B,J⟩:=iO v;refine aY (.inr (.of G)) eO ?_;refine⟨.inl ⟨rfl,_,.of hO⟩,?_⟩;refine⟨_,_,_,j,rfl,rfl,hO,rfl,iQ _,⟨.int n,by rw[Tv,B];rfl,by simp[di]⟩,λU z o hz=>?_,?_⟩
    ·obtain⟨m,u,rfl⟩:=dY hz;have:¬m=n:=λy=>J U o (by rw[<- y];exact u);simp[di,this]
    have es':bM (.sh f ns ms) g n=([254+(1-g),(j:Int)],1-g):=by
     show (eE (ai g ns ms) (ai g ms ns) g (.int n)).getD _=_;unfold eE;dsimp only;rw[gM.mpr z];dsimp only;rw[v];rfl
    have I:(255:Int)-g=254+(1-g):=by lia
    refine⟨sz Z,λq L d=>?_⟩;dsimp only at d;rw[I]at d;exact⟨sz rfl,λl r c=>k l q r (d.sm.trans c.sm) d.nw (by rw[es'];exact c.sm _ _ d.at_) (by rw[es'];exact c.at_)⟩
   ·have y:¬bB (.int n) ((ai g ms ns).map V.int)=true:=y;rw[gZ]at y;exact Wx (WA hmO) y
def Ba(M:Md):PyData.strOk (cC M)=true:=by
 cases M with
 | ld=>exact fK
 | pr h=>cases h with
  | true=>exact dX
  | false=>exact fg
 | sh ns ms=>exact dW
 | tb es=>exact fJ
 | br=>exact lO
def KH {M:Md} (h:∀ns ms,M ≠ .sh ns ms):PyData.eqv (.str (cC M)) (.str "shift")=false:=by
 cases M with
 | ld=>exact show PyData.eqv (.str "lead") (.str "shift")=false by decide +kernel
 | pr b=>cases b with
  | true=>exact show PyData.eqv (.str "high") (.str "shift")=false by decide +kernel
  | false=>exact show PyData.eqv (.str "low") (.str "shift")=false by decide +kernel
 | sh ns ms=>exact Wx rfl (h ns ms)
 | tb es=>exact show PyData.eqv (.str "table") (.str "shift")=false by decide +kernel
 | br=>exact show PyData.eqv (.str "bare") (.str "shift")=false by decide +kernel
def yr:Md->Bool
 | .ld=>true
 | .pr _=>true
 | _=>false
def BH (M:Md):bB (.str (cC M)) [.str "lead",.str "high",.str "low"]=yr M:=by
 cases M with
 | ld=>exact show bB (.str "lead") [.str "lead",.str "high",.str "low"]=true by decide +kernel
 | pr h=>cases h with
  | true=>exact show bB (.str "high") [.str "lead",.str "high",.str "low"]=true by decide +kernel
  | false=>exact show bB (.str "low") [.str "lead",.str "high",.str "low"]=true by decide +kernel
 | sh ns ms=>exact show bB (.str "shift") [.str "lead",.str "high",.str "low"]=false by decide +kernel
 | tb es=>exact show bB (.str "table") [.str "lead",.str "high",.str "low"]=false by decide +kernel
 | br=>exact show bB (.str "bare") [.str "lead",.str "high",.str "low"]=false by decide +kernel
def L3{M:Md}(h:yr M=true){D:Kt}(m:Mt M D){n:Int}(s:Sg n):dJ D n:=by
 cases M with
 | ld=>obtain rfl:D=.ld:=m;exact s
 | pr b=>obtain rfl:D=.pr b:=m;exact s
 | _=>cases h
def R0:Md->Int->Prop
 | .sh ns ms,n=>n∉ns/\n∉ms
 | .tb es,n=>∀e∈es,e.1≠n
 | _,_=>True
def Mu(n:Int)(qs:List Addr):bB (.int n) (qs.map V.ref)=false:=by
 unfold bB;rw[List.any_eq_false];intro x hx;obtain⟨q,_,rfl⟩:=T0.mp hx;simp[di]
def Mod.two{H:Hp}{p:Addr}{M:Md}(h:Mod H p M):∃a b xs ys zs,H p=some (.tup [.str (cC M),.ref a,.ref b])/\H a=some (.lst (xs.map V.int))/\H b=some (.lst ys)/\(∀y∈ys,R1 H y)/\(∀n:Int,bB (.int n) ys=decide (n∈zs))/\xs.length<=250/\zs.length<=250/\(∀n:Int,n∉xs->n∉zs->R0 M n)/\(yr M=false->∀D,Mt M D->∀n∈xs,dJ D n)/\(∀ns ms,M=.sh ns ms->xs=ns/\zs=ms/\ys=ms.map V.int):=by
 obtain⟨a,b,c,ct⟩:=h;cases M with
 | ld=>exact⟨a,b,[],[],[],c,ct.1,ct.2,(λ_ h=>nomatch h),λ_=>rfl,by decide,by decide,λ_ _ _=>trivial,(λh=>nomatch h),(λ_ _ h=>nomatch h)⟩
 | pr h=>exact⟨a,b,[],[],[],c,ct.1,ct.2,(λ_ h=>nomatch h),λ_=>rfl,by decide,by decide,λ_ _ _=>trivial,(λh=>nomatch h),(λ_ _ h=>nomatch h)⟩
 | br=>exact⟨a,b,[],[],[],c,ct.1,ct.2,(λ_ h=>nomatch h),λ_=>rfl,by decide,by decide,λ_ _ _=>trivial,(λ_ _ _ _ h=>nomatch h),(λ_ _ h=>nomatch h)⟩
 | sh ns ms =>
  obtain⟨o,hb,i,k⟩:=ct;refine⟨a,b,ns,_,ms,c,o,hb,λy g=>?_,λn=>gZ n ms,i.2.2,k.2.2,λn s C=>⟨s,C⟩,λ_ D mt n u=>?_,λG x e=>?_⟩
  ·obtain⟨m,_,rfl⟩:=T0.mp g;exact .inl Z
  ·obtain⟨f,rfl⟩:=mt;exact .inl u
  ·cases e;exact⟨rfl,rfl,rfl⟩
 | tb es =>
  obtain⟨o,⟨qs,hb,r⟩,ok⟩:=ct;refine⟨a,b,es.map λe=>e.1,_,[],c,o,hb,λy g=>?_,λn=>Mu n qs,by rw[To];have:=ok.l;lia,by decide,λn s _ e d z=>s (T0.mpr ⟨e,d,z⟩),λ_ D mt n u=>?_,(λ_ _ h=>nomatch h)⟩
  ·obtain⟨q,F,rfl⟩:=T0.mp g;obtain⟨j,B⟩:=Wr.mp F;obtain⟨e,_,d⟩:=r.right B;exact .inr ⟨q,_,Z,d⟩
  ·obtain⟨f,rfl⟩:=mt;obtain⟨e,d,v⟩:=T0.mp u;exact⟨e,d,v⟩
def FR(K:PySem.W.Frag):Sp:=λvs H Q _=>∃(p c:Addr) (M:Md) (cs:e7),vs=[.ref p,.ref c]/\Mod H p M/\aE K H c (cs.map V.int)/\cs.length<=100/\∀q (a:e7) H',am H H'->H' q=some (.lst (a.map V.int))->a.length<=100->(a=[]\/a.length=cs.length)->(∀D,Mt M D->∀n∈a,dJ D n)->Q (.ref q) H'
def MM (T:Txt w K mg t):bz P w K mg base "_law_text" 3 t.w9 t.ui ["_law_model_here", "_law_cells"] (FR K):=by
 refine⟨T.NP,T.DE.kp,T.Qq,T.DE.okQ jP (λvs H Q E h=>by obtain⟨p,c,M,cs,rfl,_⟩:=h;rfl) λ_ _ _ _ H vs Q E hr h=>?_⟩;obtain⟨p,c,M,cs,rfl,mod,hc,lc,k⟩:=h;have hu:=hr.units;obtain⟨a,b,xs,r,zs,hp,W,hb,fl,iy,lx,lz,lk,ld,sh⟩:=mod.two;refine⟨_,(ah (ic (aa 0) (ff (K:=K) Z Z (bR (bn (i:=2) jP.nd Z (.inl Z)) (bR (bn (i:=3) jP.nd Z (.inr Z)) (bR (bn (i:=4) jP.nd Z (.inl Z)) fe)))))
  (ah (aA (av (jt (K:=K) rfl) (aa 2) (bS (iJ rfl)) (by with_unfolding_all rfl)) (aj (ap (gp rfl (dn.of (fns:=(ao ia).names) (N:=["_law_model_here", "_law_cells", "_law_word", "_law_first", "_law_second", "_law_some"]) (Nc:=["_law_cell"]) (nv:=1) (caps:=[]) rfl rfl (by decide +kernel)) (fF (K:=K) rfl (aa 1)) (λ_ _ _ _=>(bn (i:=0) (show List.Nodup (["_law_cell"]:List Str) by decide +kernel) rfl (Or.inl rfl) (Or.inr rfl))) (λ_ _ _ _=>fW) (λ_ _ _ _=>(aP (M3 T) hr (ad (aa 0) ae)))))) aF)
  (ah (aM (i:=5) jP.nd rfl (.inr rfl) (cr (Tk K) T.n_list T5 (ad (aa 3) ae)))
  (ah (aA (av (bi (K:=K) rfl hu) (aa 2) aW (aq _)) (aj (aM (i:=5) jP.nd rfl (.inr rfl) (aG (Te K) (aa 3) (gp rfl (dn.of (fns:=(ao ia).names) (N:=["_law_model_here", "_law_cells", "_law_word", "_law_first", "_law_second", "_law_some"]) (Nc:=["_law_sign", "_law_first"]) (nv:=1) (caps:=[3]) rfl rfl (by decide +kernel)) (fF (K:=K) rfl (aa 4)) (λ_ _ _ _=>(bn (i:=0) (show List.Nodup (["_law_sign", "_law_first"]:List Str) by decide +kernel) rfl (Or.inl rfl) (Or.inr rfl))) (λ_ _ _ _=>(Ix (av (pZ (K:=K) rfl) (aa 0) (aa 1) (by with_unfolding_all rfl)))) (λ_ _ _ _=>(aa 0)))))) aF)
  (ah (aA (av (bi (K:=K) rfl hu) (aa 5) (bh ae) (aq _)) (aj (ap (bh ae))) aF)
  (aj (ap (gp rfl (dn.of (fns:=(ao ia).names) (N:=["_law_model_here", "_law_cells", "_law_word", "_law_first", "_law_second", "_law_some"]) (Nc:=["_law_cell", "_law_some"]) (nv:=1) (caps:=[5]) rfl rfl (by decide +kernel)) (fF (K:=K) rfl (aa 1)) (λ_ _ _ _=>(bn (i:=0) (show List.Nodup (["_law_cell", "_law_some"]:List Str) by decide +kernel) rfl (Or.inl rfl) (Or.inr rfl))) (λ_ _ _ _=>fW) (λ_ _ _ _=>(aB (Ti K) (aa 1) (aG m6 (aa 0) (bq (Th K) T.n_len Tw (ad (aa 1) ae))) (λ_ _=>rfl))))))))))),?_⟩
 refine⟨p,_,Z,.of hp,Z,_,_,Z,_,_,Z,_,_,Z,Z,?_⟩;refine⟨sz Z,λp1 H1 J=>?_⟩;refine gk (.inr J.tup) Z Z ?_;have S:=J.sm.seq hc;refine ak (λz=>?_) (λz=>?_)
 ·have z:bB (.str (cC M)) [.str "lead",.str "high",.str "low"]=true:=z;rw[BH]at z;refine dL c rfl ⟨_,S⟩ (qO (K:=K) (a:=c) (xs:=cs.map V.int) (λi r j=>am H1 j/\∃d:e7,r=d.map V.int/\d.length=i/\∀n∈d,Sg n) ⟨am.refl _,[],rfl,rfl,(λn h=>nomatch h)⟩ (λi r j _ z=>⟨z.1.seq S,by obtain⟨_,d,rfl,l,_⟩:=z;rw[To];lia⟩) (cD (by rw[To];lia)) (λi x r j N hx y hN=>?_) λr j q C y g=>?_)
  ·obtain⟨o,d,rfl,l,hs⟩:=y;obtain⟨m,Y,rfl⟩:=dY hx;simp only [gA,if_true];refine gl m rfl (λn H2 I s=>hN _ _ ⟨o.trans I,d++[n],by rw[TZ];rfl,by rw[Tq,l];rfl,λR u=>?_⟩);rcases TL.mp u with y|y
   ·exact hs R y
   ·rw[TU.mp y];exact s
  ·obtain⟨o,d,rfl,l,hs⟩:=y;rw[To]at l;exact k q d C (J.sm.trans (o.trans g.sm)) g.at_ (by lia) (.inr l) λD m n s=>L3 z m (hs n s)
 have z:¬bB (.str (cC M)) [.str "lead",.str "high",.str "low"]=true:=z;rw[BH,Vr]at z;refine bc (.inl (.of (J.sm _ _ W))) (λp2 H2 g2=>?_);have I:=J.sm.trans g2.sm;dsimp only [bP];refine ce (λσ' j=>am H j/\∃(ps:Addr) (ss:e7),j ps=some (.lst (ss.map V.int))/\ss.length<=500/\(∀D,Mt M D->∀n∈ss,dJ D n)/\σ'=[some (.ref p),some (.ref c),some (.str (cC M)),some (.ref a),some (.ref b),some (.ref ps)]) (λnx s=>?_) ?_
 ·refine xS (aN (Ba M)) (aN dW) ?_;refine ak (λy=>?_) (λy=>?_)
  ·have y:PyData.eqv (.str (cC M)) (.str "shift")=true:=y;obtain⟨ns,ms,eM⟩:∃ns ms,M=.sh ns ms:=by
    cases M with
    | sh ns ms=>exact⟨ns,ms,rfl⟩
    | _=>rw[KH (λ_ _ h=>by cases h)]at y;cases y
   obtain⟨rfl,rfl,rfl⟩:=sh ns ms eM;have L:aE K H2 b (zs.map V.int):=.of (I _ _ hb);refine dL b rfl ⟨_,L⟩ (qO (K:=K) (a:=b) (xs:=zs.map V.int) (λi r j=>am H2 j/\∃d:e7,r=d.map V.int/\d.length<=i/\∀n∈d,n∈zs) ⟨am.refl _,[],rfl,Tp _,(λn h=>nomatch h)⟩ (λi r j _ z=>⟨z.1.seq L,by obtain⟨_,d,rfl,l,_⟩:=z;rw[To];lia⟩) (cD (by rw[To];lia)) (λi x r j N hx y hN=>?_) λr j q C y g=>?_)
   ·obtain⟨o,d,rfl,l,hs⟩:=y;obtain⟨m,Y,rfl⟩:=dY hx;refine gk (.inl (.of (o _ _ (I _ _ W)))) Z (iQ _) ?_;refine ak (λ_=>?_) (λ_=>?_)
    ·refine hN _ _ ⟨o,d++[m],by rw[TZ];rfl,by rw[Tq];show _+1<=_;lia,λR u=>?_⟩;rcases TL.mp u with y|y
     ·exact hs R y
     ·rw[TU.mp y];exact TY Y
    ·exact hN _ _ ⟨o,d,rfl,by lia,hs⟩
   ·obtain⟨o,d,rfl,l,hs⟩:=y;rw[To]at l;have G:=I.trans (o.trans g.sm);refine fU (.of (G _ _ W)) g.lst (cD (by rw[To,To];lia)) (λp4 H4 F=>?_);refine s _ _ ⟨G.trans F.sm,p4,xs++d,by rw[TZ];exact F.at_,by rw[Tq];lia,λD mt n s=>?_,rfl⟩;rw[eM]at mt;obtain⟨f,rfl⟩:=mt;rcases TL.mp s with y|y
    ·exact .inl y
    ·exact .inr (hs n y)
  ·exact s _ _ ⟨I,p2,xs,g2.at_,by lia,ld z,rfl⟩
 ·rintro σ' H3 ⟨G,ps,ss,a1,af,U,rfl⟩;refine⟨sz Z,λp4 H4 F=>?_⟩;have B:=F.sm _ _ a1;refine jw (ns:=ss) (ms:=[]) (.of B) F.lst ?_;refine ak (λy=>?_) (λy=>?_)
  ·exact⟨sz rfl,λp5 H5 g5=>k p5 [] H5 (G.trans (F.sm.trans g5.sm)) g5.at_ (by decide) (.inl rfl) (λ_ _ _ h=>nomatch h)⟩
  ·have y:¬ss=[]:=λe=>y (WA e);have pos:0<ss.length:=by cases ss with|nil=>exact Wx rfl y|cons _ _=>exact Nat.succ_pos _
   have O:=(G.trans F.sm).seq hc;refine dL c rfl ⟨_,O⟩ (qO (K:=K) (a:=c) (xs:=cs.map V.int) (λi r j=>am H4 j/\∃d:e7,r=d.map V.int/\d.length=i/\∀n∈d,n∈ss) ⟨am.refl _,[],rfl,rfl,(λn h=>nomatch h)⟩ (λi r j _ z=>⟨z.1.seq O,by obtain⟨_,d,rfl,l,_⟩:=z;rw[To];lia⟩) (cD (by rw[To];lia)) (λi x r j N hx y hN=>?_) λr j q C y g=>?_)
   ·obtain⟨o,d,rfl,l,hs⟩:=y;obtain⟨m,Y,rfl⟩:=dY hx;simp only [gA,if_true];refine bc (.inl (.of (o _ _ B))) ?_;rw[To];refine⟨by lia,?_⟩;obtain⟨v,hv,e1,_⟩:=rf (xs:=ss.map V.int) (i:=m%(ss.length:Int)) (Int.emod_nonneg _ (by lia)) (by rw[To];exact Int.emod_lt_of_pos _ (by lia));obtain⟨n,s,rfl⟩:=T0.mp hv;refine aY (.inl (.of (o _ _ B))) e1 ?_;refine hN _ _ ⟨o,d++[n],by rw[TZ];rfl,by rw[Tq,l];rfl,λR u=>?_⟩;rcases TL.mp u with y|y
    ·exact hs R y
    ·rw[TU.mp y];exact s
   ·obtain⟨o,d,rfl,l,hs⟩:=y;rw[To]at l;exact k q d C (G.trans (F.sm.trans (o.trans g.sm))) g.at_ (by lia) (.inr l) λD m n s=>U D m n (hs n s)
def Ge(K:PySem.W.Frag)(t:Adr):Sp:=λvs H Q _=>∃(p c:Addr) (M:Md) (cs:e7),vs=[.ref p,.ref c]/\Mod H p M/\aE K H c (cs.map V.int)/\cs.length<=62/\(∃D,Mt M D/\cP D)/\∀q (r:e7) H',am H H'->H' q=some (.lst (r.map V.int))->bj r->r.length<=400->Q (.ref q) H'
def CM:∀b∈([0,65,127,128,143,144,159,160,187,188,191,192,193,194,216,219,220,223,224,237,238,239,240,244,245,253,254,255]:e7),0<=b/\b<=255:=by decide
def Qh{xs a:e7}(h:bj xs)(g:bj a):bj (xs++a):=λx hx=>(TL.mp hx).elim (h x) (g x)
def sq{D:Kt}{g n:Int}(ok:cP D)(pg:cu D g)(a:dJ D n):bj (bM D g n).1:=by
 cases D with
 | ld =>
  obtain⟨o,m,l,p⟩:=id a;intro b hb;have hb:b∈row n:=hb;unfold row at hb
  split at hb
  ·simp at hb;lia
  ·split at hb
   ·simp at hb;lia
   ·split at hb<;>simp at hb<;>lia
 | pr h=>exact Jq h a
 | sh f ns ms =>
  obtain⟨r,g',e,_,i⟩:=su pg a;rw[oJ e];have two:cJ g:=pg;have l1:∀c:Int,0<=c->∀xs:e7,xs.length<=250->xs[c.toNat]? = some n->0<=c/\c<=255:=λc d xs s e=>by
   have:=(Tz.mp e).1;lia
  have q:=ok.1.2.2;have u:=ok.2.2.2;have s1:(ai g ns ms).length<=250/\(ai g ms ns).length<=250:=by rcases two with rfl|rfl<;>exact⟨by assumption,by assumption⟩
  rcases i with ⟨b,rfl,b0,eb,_⟩|⟨c,rfl,d,ec,_⟩
  ·intro x hx;rw[TU.mp hx];exact l1 b b0 _ s1.1 eb
  ·have:=l1 c d _ s1.2 ec;intro x hx;rcases TF.mp hx with rfl|hx
   ·rcases two with rfl|rfl<;>decide
   ·rw[TU.mp hx];exact this
 | tb f es =>
  obtain⟨e,k,_,j⟩:=ju a;have es':bM (.tb f es) g n=(e.2,g):=by
   show (Option.map _ _).getD _=_;rw[j];rfl
  rw[es'];exact (Es.sg ok e k).2.2.2
 | br=>exact a.elim
def MP (T:Txt w K mg t):bz P w K mg base "_law_row" 4 t.xg t.uo ["_law_model_here", "_law_cells"] (Ge K t):=by
 refine⟨T.NT,T.DI.kp,T.Qu,T.DI.okQ fB (λvs H Q E h=>by obtain⟨p,c,M,cs,rfl,_⟩:=h;rfl) λ_ _ _ _ H vs Q E hr h=>?_⟩;obtain⟨p,c,M,cs,rfl,mod,hc,lc,⟨D,mt,ok⟩,k⟩:=h;have hu:=hr.units;refine⟨_,(ah (aM (i:=2) fB.nd Z (.inl Z) (bh (iJ Z)))
  (ah (aM (i:=2) fB.nd rfl (.inl rfl) (aG (Te K) (aa 2) (bh (iJ rfl))))
  (ah (aM (i:=3) fB.nd rfl (.inl rfl) (aP (MM T) hr (ad (aa 0) (ad (aa 1) ae))))
  (ah (aM (i:=4) fB.nd rfl (.inl rfl) (bh ae))
  (ah (aM (i:=5) fB.nd rfl (.inl rfl) ag)
  (ah (eI PassesOwn.never rfl (mM (K:=K) rfl rfl T.n_enumerate (ad (aa 1) ae)) (ff (K:=K) rfl rfl (bR (bn (i:=6) fB.nd rfl (.inl rfl)) (bR (bn (i:=7) fB.nd rfl (.inl rfl)) fe))) (ah (aM (i:=8) fB.nd rfl (.inl rfl) (bC (cm (aa 7))))
  (aj (aA (bG (eG (av (iP (K:=K) rfl hu) (aa 3) (bh ae) (aq _)) (fD (av c7 (aa 8) ag (aq _))))) (ah (ic (aP (BW T) hr (ad (aa 0) (ad (aB (Ti K) (aa 3) (aa 6) (λ_ _=>rfl)) (ad (aa 5) ae)))) (ff (K:=K) rfl rfl (bR (bn (i:=9) fB.nd rfl (.inl rfl)) (bR (bn (i:=10) fB.nd rfl (.inl rfl)) fe))))
  (ah (aA (av (bi (K:=K) rfl hu) (aa 8) ag (aq _)) (aj (aM (i:=9) fB.nd rfl (.inl rfl) (dO (Tj K) (aa 9) fE (da (aG m6 (cm (aa 7)) (bq (Th K) T.n_len Tw (ad (aa 9) ae))))))) (aj (aM (i:=5) fB.nd rfl (.inl rfl) (aa 10))))
  (aj (aM (i:=4) fB.nd rfl (.inl rfl) (aG (Te K) (aa 4) (aa 9)))))) (aj (aA (av (bi (K:=K) rfl hu) (aa 8) ag (aq _)) (aj (eJ (gq (K:=K) rfl Uf UB UC jo (aa 4) (ad (bC (cm (aa 7))) ae)))) (aj (eJ (gq (K:=K) rfl Uf UB UC jo (aa 4) (ad (aB (Ti K) (aa 2) (bC (cm (aa 7))) (λ_ _=>rfl)) ae))))))))))
  (aj (ap (aa 4))))))))),?_⟩
 refine⟨sz Z,λp1 H1 g1=>?_⟩;refine⟨sz Z,λp2 H2 G=>?_⟩;refine fU (.of (G.sm _ _ g1.at_)) G.lst (sz Z) (λpe H3 g3=>?_);have J:=g1.sm.trans (G.sm.trans g3.sm);refine⟨p,c,M,cs,rfl,mod.mono J,J.seq hc,by lia,λq ts H4 C hq lt le ht=>?_⟩;refine⟨sz Z,λp5 H5 U=>?_⟩;have s5:=J.trans (C.trans U.sm);have he:=(C.trans U.sm) _ _ g3.at_;have b3:=U.sm _ _ hq;refine bo c _ rfl (s5.seq hc) (nh (K:=K) (a:=c) (xs:=cs.map V.int) (λi σ W=>am H4 W/\∃(r:Addr) (xs:e7) (g:Int) (v6 v7 v8 v9 s:Option V),H4 r=none/\W r=some (.lst (xs.map V.int))/\bj xs/\xs.length<=6*i/\cu D g/\σ=[some (.ref p),some (.ref c),some (.ref pe),some (.ref q),some (.ref r),some (.int g),v6,v7,v8,v9,s]) ⟨U.sm,p5,[],0,_,_,_,_,_,U.nw,U.at_,(λx h=>nomatch h),Tp _,o7 D,rfl⟩ (λi σ W _ z=>((J.trans C).trans z.1).seq hc) ?_ ?_)
 ·rintro i x p6 σ H6 H7 hx ⟨s6,r,xs,g,v6,v7,v8,v9,s,B,O,I,lx,pg,rfl⟩ g7;obtain⟨n,hn,rfl⟩:=dY hx;have hi:i<cs.length:=(Tz.mp hn).1;refine⟨p6,_,Z,g7.tup,Z,_,_,Z,_,_,Z,Z,?_⟩;have s7:=s6.trans g7.sm;have b5:=(J.trans C).trans s7;have S:=g7.sm _ _ O;have ai:=s7 _ _ hq;refine⟨sz Z,λp8 H8 F=>?_⟩;refine jw (ns:=ts) (ms:=[]) (.of (F.sm _ _ ai)) F.lst ?_;refine ak (λz=>?_) (λz=>?_)
  ·refine ak (λy=>?_) (λy=>?_)
   ·have z:¬ts=[]:=λe=>by have z:(!decide (ts=[]))=true:=z;rw[WA e]at z;cases z
    have aZ:=le.resolve_left z;have f:=s7.trans F.sm;obtain⟨m,hm⟩:∃m,ts[i]? = some m:=⟨_,T4 (by lia)⟩;have hI:=ht D mt m (TY hm);refine⟨_,.int m,.inl (.of (f _ _ hq)),aH (j:=i) (by rw[Tv,hm];rfl),?_⟩;refine bZ p M D m g Z (mod.mono ((J.trans C).trans f)) mt hI pg (λpr q1 H9 s9 b9 o N=>?_);refine⟨pr,_,Z,.of N,Z,_,_,Z,_,_,Z,Z,?_⟩;obtain⟨r1,g',eO,ef,a6,sl⟩:=so ok.kok pg hI;have u:=sq ok pg hI;have Y:=sk ok.kok pg hI;rw[ef]at o N u Y;dsimp only at o N u Y;rw[ef];dsimp only [bP];refine ce (λσ' W=>∃(q2:Addr) (x2:e7) (G:Int) (s:Option V),am H9 W/\W q2=some (.lst (x2.map V.int))/\bj x2/\x2.length<=6/\cu D G/\σ'=[some (.ref p),some (.ref c),some (.ref pe),some (.ref q),some (.ref r),some (.int G),some (.int (i:Int)),some (.int n),some (.int (n/8%5)),some (.ref q2),s]) (λnx hn=>?_) ?_
    ·refine ak (λ_=>?_) (λ_=>?_)
     ·refine bc (.inl (.of o)) ?_;rw[To];refine⟨by lia,?_⟩;refine⟨_,Z,_,.of o,λq2 au L=>?_⟩;rw[gP]at L;exact hn _ _ ⟨q2,_,g,_,L.sm,L.at_,(λx hx=>u x (Ps hx)),TH (Pu _ _ _) sl,pg,Z⟩
     ·exact hn _ _ ⟨q1,r1,g',_,am.refl _,o,u,sl,a6,Z⟩
    ·rintro σ' au ⟨q2,x2,G,aI,a7,aE,ab,l2,aw,rfl⟩;have l:=s9.trans a7;refine fU (.of (l _ _ (F.sm _ _ S))) (.of aE) (cD (by rw[To,To];lia)) (λq3 b4 R=>?_);have hg:=R.at_;rw[<- TZ]at hg;exact⟨(f.trans l).trans R.sm,q3,xs++x2,G,_,_,_,_,_,(f.trans l).free R.nw,hg,Qh I ab,by rw[Tq];lia,aw,rfl⟩
   ·have f:=s7.trans F.sm;have d:=F.sm _ _ S;refine ak (λ_=>?_) (λ_=>?_)
    ·refine⟨.inl ⟨rfl,_,.of d⟩,?_⟩;refine dS d (fV (by rw[To];lia)) ?_;exact⟨f.put B,r,xs++[n/40%256],g,_,_,_,_,_,B,by rw[aV,TZ];rfl,iA I (by lia) (by lia),by rw[Tq];show _+1<=_;lia,pg,rfl⟩
    ·refine⟨.inl ⟨rfl,_,.of d⟩,?_⟩;obtain⟨v,hv,e1,_⟩:=rf (xs:=(([0,65,127,128,143,144,159,160,187,188,191,192,193,194,216,219,220,223,224,237,238,239,240,244,245,253,254,255]:e7).map V.int)) (i:=n/40%28) (by lia) (by simp;lia);obtain⟨b,hb,rfl⟩:=T0.mp hv;have hb:=CM b hb;refine aY (.inl (.of ((C.trans f) _ _ g3.at_))) e1 ?_;refine dS d (fV (by rw[To];lia)) ?_;exact⟨f.put B,r,xs++[b],g,_,_,_,_,_,B,by rw[aV,TZ];rfl,iA I hb.1 hb.2,by rw[Tq];show _+1<=_;lia,pg,rfl⟩
  ·refine BC ?_;have f:=s7.trans F.sm;have d:=F.sm _ _ S;refine ak (λ_=>?_) (λ_=>?_)
   ·refine⟨.inl ⟨rfl,_,.of d⟩,?_⟩;refine dS d (fV (by rw[To];lia)) ?_;exact⟨f.put B,r,xs++[n/40%256],g,_,_,_,_,_,B,by rw[aV,TZ];rfl,iA I (by lia) (by lia),by rw[Tq];show _+1<=_;lia,pg,rfl⟩
   ·refine⟨.inl ⟨rfl,_,.of d⟩,?_⟩;obtain⟨v,hv,e1,_⟩:=rf (xs:=(([0,65,127,128,143,144,159,160,187,188,191,192,193,194,216,219,220,223,224,237,238,239,240,244,245,253,254,255]:e7).map V.int)) (i:=n/40%28) (by lia) (by simp;lia);obtain⟨b,hb,rfl⟩:=T0.mp hv;have hb:=CM b hb;refine aY (.inl (.of ((C.trans f) _ _ g3.at_))) e1 ?_;refine dS d (fV (by rw[To];lia)) ?_;exact⟨f.put B,r,xs++[b],g,_,_,_,_,_,B,by rw[aV,TZ];rfl,iA I hb.1 hb.2,by rw[Tq];show _+1<=_;lia,pg,rfl⟩
 ·rintro σ H6 ⟨s6,r,xs,g,v6,v7,v8,v9,s,B,O,I,lx,pg,rfl⟩;exact k r xs H6 ((J.trans C).trans s6) O I (by rw[To]at lx;lia)
def eX(D:Kt)(g:Int)(r:e7):Prop:=∀m,0<m->m*ay D<=r.length->aZ D g (r.take (m*ay D))=.mo
def jF(D:Kt):1<=ay D/\ay D<=2:=by cases D<;>simp[ay]
def eX.nil(D:Kt)(g:Int):eX D g []:=λm a h=>by
 have:=jF D;have:1<=m*ay D:=Nat.mul_pos a (by lia);rw[Vg]at h;lia
def eX.take{D:Kt}{g:Int}{r:e7}(h:eX D g r)(n:Nat):eX D g (r.take n):=λm b a=>by
 rw[TyZ]at a;rw[Vl,Ui (by lia)];exact h m b (by lia)
def eh:Lk->Str
 | .sg _ _ => "sign"
 | .mo => "more"
 | .no => "none"
def yU:Md->Int
 | .pr _=>2
 | _=>1
def BE:Md->Bool
 | .pr _=>true
 | _=>false
def Mq (M:Md):bB (.str (cC M)) [.str "high",.str "low"]=BE M:=by
 cases M with
 | ld=>exact show bB (.str "lead") [.str "high",.str "low"]=false by decide +kernel
 | pr h=>cases h with
  | true=>exact show bB (.str "high") [.str "high",.str "low"]=true by decide +kernel
  | false=>exact show bB (.str "low") [.str "high",.str "low"]=true by decide +kernel
 | sh ns ms=>exact show bB (.str "shift") [.str "high",.str "low"]=false by decide +kernel
 | tb es=>exact show bB (.str "table") [.str "high",.str "low"]=false by decide +kernel
 | br=>exact show bB (.str "bare") [.str "high",.str "low"]=false by decide +kernel
def BU (T:Txt w K mg t):bz P w K mg base "_law_unit" 1 t.wZ t.uf ["_law_model_here"] (λvs H Q _=>∃(p:Addr) (M:Md),vs=[.ref p]/\Mod H p M/\∀H',am H H'->Q (.int (yU M)) H'):=by
 refine⟨T.NM,T.DB.kp,T.Qn,T.DB.okQ G6 (λvs H Q E h=>by obtain⟨p,M,rfl,_⟩:=h;rfl) λ_ _ _ _ H vs Q E i h=>?_⟩;obtain⟨p,M,rfl,⟨a,b,f,_⟩,k⟩:=h;refine⟨_,(aj (ap (aG (Te K) ag (cr ix T.n_int Ul (ad (dG (jt (K:=K) rfl) (aB (Ti K) (aa 0) ag (λ_ _=>rfl)) (bS (ad aW (ad aW ae))) (by with_unfolding_all rfl)) ae))))),?_⟩;refine bo _ (.str (cC M)) (.inr (.of f)) (aH (j:=0) Z) ?_;refine⟨sz Z,λl c d=>?_⟩;refine gk (.inr d.tup) Z Z ?_;have e:(V.bl (if false=true then !bB (V.str (cC M)) [.str "high",.str "low"] else bB (V.str (cC M)) [.str "high",.str "low"]))=V.bl (BE M):=by rw[Wv TC,Mq]
 show (λx c=>tZ [x] c λy g=>ua K (V.int 1) y g Q) (V.bl (if false=true then !bB (V.str (cC M)) [.str "high",.str "low"] else bB (V.str (cC M)) [.str "high",.str "low"])) c;rw[e];cases M<;>exact k c d.sm
open Classical in
noncomputable def pO(f:Int)(r:e7):Str:=if f<128 then "sign" else if f<194\/244<f then "none" else if iZ f r then (if (r.length:Int)+1=lb f then "sign" else "more") else "none"
def LZ{f:Int}{r:e7}{g:Int}(d:r=[]\/(r.length:Int)+1<=lb f):pO f r=eh (aZ .ld g (f::r)):=by
 unfold pO;dsimp only [aZ];by_cases c1:f<128
 ·rw[Ww c1];have l1:lb f=1:=by unfold lb;rw[Ww c1]
  have a:r=[]:=by
   rcases d with d|d
   ·exact d
   ·rw[l1]at d;exact U5 (by lia)
  subst a;have ft:iZ f []:=λi x h=>by cases h
  rw[Ww (show dQ [f] from ⟨⟨by rw[l1];exact Int.le_refl _,ft⟩,by rw[l1];rfl⟩)]
  rfl
 rw[Wv c1];by_cases c2:f<194\/244<f
 ·rw[Ww c2];have l0:lb f=0:=by unfold lb;rw[Wv c1,Ww c2]
  rw[Wv (λz:dQ (f::r)=>by have:=z.1.1;rw[l0]at this;lia),Wv (λz:i6 (f::r)=>by have:=z.1;rw[l0]at this;lia)]
  rfl
 rw[Wv c2];have b:2<=lb f:=by unfold lb;rw[Wv c1,Wv c2];split<;>(try split)<;>lia
 have le:(r.length:Int)+1<=lb f:=by
  rcases d with rfl|d
  ·show (0:Int)+1<=_;lia
  ·exact d
 by_cases c3:iZ f r
 ·rw[Ww c3];by_cases c4:(r.length:Int)+1=lb f
  ·rw[Ww c4,Ww (show dQ (f::r) from ⟨⟨le,c3⟩,c4⟩)];rfl
  ·rw[Wv c4,Wv (λz:dQ (f::r)=>c4 z.2),Ww (show i6 (f::r) from ⟨le,c3⟩)];rfl
 ·rw[Wv c3,Wv (λz:dQ (f::r)=>c3 z.1.2),Wv (λz:i6 (f::r)=>c3 z.2)];rfl
end
end My
namespace My
open PySem L2
def zO{f:Fp}{ns ms:e7}{g:Int}{r:e7}:(ik (ai g ns ms) (ai g ms ns) g r).head? = some (.str (eh (aZ (.sh f ns ms) g r))):=by
 unfold ik;dsimp only [aZ];cases cQ (ai g ns ms) (ai g ms ns) g r with
 | some z=>rfl
 | none =>
  dsimp only;by_cases c:eU (ai g ns ms) (ai g ms ns) g r=true
  ·rw[Ww c,Ww c];rfl
  ·rw[Wv c,Wv c];rfl
def jJ{a b:Str}(h:some (V.str a)=some (V.str b)):a=b:=by cases h;rfl
def Dl{O P:e7}:fu O P≠[] ↔ ∃k∈O,k∉P:=by
 constructor
 ·intro h;cases e:fu O P with
  | nil=>exact Wx e h
  | cons c r =>
   have a:c∈fu O P:=by rw[e];exact TV ..
   have f:0<=c:=by
    unfold fu at a;obtain⟨b,_,rfl⟩:=T0.mp a;lia
   obtain⟨n,j,d⟩:=(lR f).mp a;exact⟨n,TY j,d⟩
 ·rintro⟨k,hk,d⟩ e;obtain⟨i,g⟩:=Wr.mp hk;have:(i:Int)∈fu O P:=(lR (by lia)).mpr ⟨k,by simpa using g,d⟩;rw[e]at this;cases this
def GY {f:Fp} {ns ms:e7} {g b:Int} (two:cJ g) (l:(ai g ns ms).length<=250) (c:0<=b):(b=255-g->(∃k∈ai g ms ns,k∉ai g ns ms)->eh (aZ (.sh f ns ms) g [b]) = "more")/\(b=255-g->¬(∃k∈ai g ms ns,k∉ai g ns ms)->eh (aZ (.sh f ns ms) g [b]) = "none")/\(b≠255-g->b<((ai g ns ms).length:Int)->eh (aZ (.sh f ns ms) g [b]) = "sign")/\(b≠255-g->¬b<((ai g ns ms).length:Int)->eh (aZ (.sh f ns ms) g [b]) = "none"):=by
 have w:=zO (f:=f) (ns:=ns) (ms:=ms) (g:=g) (r:=[b]);rw[Br c]at w;have a:0<=g/\g<=1:=by rcases two with rfl|rfl<;>decide
 refine⟨λe h=>?_,λe h=>?_,λe h=>?_,λe h=>?_⟩
 ·rw[Uz (by lia)]at w;dsimp only at w;rw[Ww ⟨by lia,Dl.mpr h⟩]at w;exact (jJ w).symm
 ·rw[Uz (by lia)]at w;dsimp only at w;rw[Wv λz=>h (Dl.mp z.2)]at w;exact (jJ w).symm
 ·rw[T4 (by lia)]at w;exact (jJ w).symm
 ·rw[Uz (by lia)]at w;dsimp only at w;rw[Wv λz=>e (by lia)]at w;exact (jJ w).symm
def GX {f:Fp} {ns ms:e7} {g c:Int} (a:0<=c):((∃n,(ai g ms ns)[c.toNat]? = some n/\n∉ai g ns ms)->eh (aZ (.sh f ns ms) g [254+(1-g),c]) = "sign")/\(¬(∃n,(ai g ms ns)[c.toNat]? = some n/\n∉ai g ns ms)->eh (aZ (.sh f ns ms) g [254+(1-g),c]) = "none"):=by
 have w:=zO (f:=f) (ns:=ns) (ms:=ms) (g:=g) (r:=[254+(1-g),c]);rw[Bq a]at w;refine⟨λh=>?_,λh=>?_⟩
 ·rw[Ww ((lR a).mpr h)]at w;exact (jJ w).symm
 ·rw[Wv λz=>h ((lR a).mp z)]at w;exact (jJ w).symm
def FE {f:Ft} {es:List (Int × e7)} {g:Int} {r:e7}:((∃e∈es,e.2=r)->eh (aZ (.tb f es) g r) = "sign")/\(¬(∃e∈es,e.2=r)->(∃e∈es,e.2.take r.length=r)->eh (aZ (.tb f es) g r) = "more")/\(¬(∃e∈es,e.2=r)->¬(∃e∈es,e.2.take r.length=r)->eh (aZ (.tb f es) g r) = "none"):=by
 dsimp only [aZ];cases e:es.find? λe=>decide (e.2=r) with
 | some x =>
  have a:=UR e;have b:x.2=r:=by simpa using Ux e
  exact⟨λ_=>rfl,λh=>Wx ⟨x,a,b⟩ h,λh=>Wx ⟨x,a,b⟩ h⟩
 | none =>
  have n:¬ ∃e∈es,e.2=r:=by
   rintro⟨x,hx,rfl⟩;have:=Ue.mp e x hx;simp at this
  dsimp only;refine⟨λh=>Wx h n,λ_ h=>?_,λ_ h=>?_⟩
  ·obtain⟨x,hx,c⟩:=h;rw[Ww]
   ·rfl
   ·have l:=congrArg List.length c;rw[TyZ]at l;exact⟨x,hx,r.length,by lia,c.symm⟩
  ·rw[Wv]
   ·rfl
   ·rintro⟨x,hx,m,hm,rfl⟩;refine h ⟨x,hx,?_⟩;rw[TyZ,Ui hm]
def gX:e7->Str
 | [u]=>if (56320<=u/\u<57344)\/(61184<=u/\u<61440) then "none" else if u<55296\/57343<u then "sign" else "more"
 | [u,v]=>if (56320<=u/\u<57344)\/(61184<=u/\u<61440) then "none" else if u<55296\/57343<u then "sign" else if 56320<=v/\v<57344 then "sign" else "none"
 | _ => "none"
def Fn(h:Bool){x y:Int}(hx:0<=x/\x<=255)(a:0<=y/\y<=255):0<=u2 h x y/\u2 h x y<65536/\ub h (u2 h x y)=[x,y]:=by
 unfold u2 ub;cases h<;>simp<;>lia
def sO(h:Bool){x y g:Int}(hx:0<=x/\x<=255)(i:0<=y/\y<=255):eh (aZ (.pr h) g [x,y])=gX [u2 h x y]/\(aZ (.pr h) g [x,y]=.mo->55296<=u2 h x y/\u2 h x y<56320):=by
 obtain⟨n,m,f⟩:=Fn h hx i;have d:ca h [x,y]=if dP (.int (u2 h x y))=true then some (u2 h x y) else none:=rfl
 dsimp only [aZ];unfold gX;dsimp only;by_cases s:dP (.int (u2 h x y))=true
 ·rw[d,Ww s];dsimp only;have e:=(h8 _).mp s;unfold Sg at e;refine⟨?_,λz=>by cases z⟩;rw[Wv (by lia),Ww (by lia)]
  rfl
 ·rw[d,Wv s];dsimp only;have e:¬Sg (u2 h x y):=λz=>s ((h8 _).mpr z);unfold Sg at e;by_cases hd:55296<=u2 h x y/\u2 h x y<56320
  ·have:=BQ h hd.1 hd.2;rw[f]at this;rw[Wv this,Wv (by lia),Wv (by lia)];exact⟨rfl,λ_=>hd⟩
  ·have fn:cB h [x,y]=none:=by
    unfold cB;refine Ue.mpr λk hf=>?_;rw[Vr,Wp,Wq];have j:=CH hf
    match k,j with
    | [],_=>rw[TD,d,Wv s]
    | [a],_=>rfl
    | [a,b],_ =>
     show gF [u2 h x y,u2 h a b]=none;exact Wv λz=>hd z.1
    | [a,b,c],_=>rfl
    | _::_::_::_::_,l=>exact Wx l (by simp)
   rw[Ww fn];refine⟨?_,λz=>by cases z⟩;by_cases c:(56320<=u2 h x y/\u2 h x y<57344)\/(61184<=u2 h x y/\u2 h x y<61440)
   ·rw[Ww c];rfl
   ·lia
def Jr(h:Bool){x y z v g:Int}(b:55296<=u2 h x y/\u2 h x y<56320):eh (aZ (.pr h) g [x,y,z,v])=gX [u2 h x y,u2 h z v]:=by
 have a:ca h [x,y,z,v]=if (55296<=u2 h x y/\u2 h x y<56320)/\56320<=u2 h z v/\u2 h z v<=57343 then some (65536+((u2 h x y-55296)*1024+(u2 h z v-56320))) else none:=rfl
 dsimp only [aZ];unfold gX;dsimp only;rw[Wv (show ¬((56320<=u2 h x y/\u2 h x y<57344)\/(61184<=u2 h x y/\u2 h x y<61440)) by lia),Wv (show ¬(u2 h x y<55296\/57343<u2 h x y) by lia)];by_cases c:56320<=u2 h z v/\u2 h z v<57344
 ·rw[Ww c,a,Ww ⟨b,by lia⟩];rfl
 ·have e:ca h [x,y,z,v]=none:=by rw[a,Wv (λd=>c (by lia))]
  rw[Wv c,e];dsimp only;rw[Ww (CK h rfl e)]
  rfl
def mh(D:Kt)(g:Int)(r:e7):Prop:=bj r/\∃p u,r=p++u/\u.length=ay D/\p.length%ay D=0/\cn D g p/\(p=[]\/aZ D g p=.mo)
def Pe{D:Kt}{g:Int}{p u:e7}(b:cn D g p)(hb:bj u)(l:u.length=ay D)(a:bj p):Dm D g (p++u):=by
 have one:∀ {E:Kt},cn E g p->u.length=1->Dm E g (p++u):=λb l=>by
  match u,l with
  | [x],_=>exact qw b (hb x (by simp)).1 (hb x (by simp)).2
 cases D with
 | pr h=>exact⟨a.app hb,by have:=b.2;have l:u.length=2:=l;rw[Tq];lia⟩
 | ld=>exact one b l
 | sh f ns ms=>exact one b l
 | tb f es=>exact one b l
 | br=>exact trivial
theorem Bh{D:Kt}{g:Int}{bs:e7}(ok:cP D)(pg:cu D g)(h:eX D g bs)(hb:bj bs):∀m,m*ay D<=bs.length->cn D g (bs.take (m*ay D))
 | 0,_=>by rw[VY];exact cn.nil _ _
 | m+1,hl=>by
  have e:(m+1)*ay D=m*ay D+ay D:=Nat.succ_mul ..;have ih:=Bh ok pg h hb m (by lia);have f:bs.take ((m+1)*ay D)=bs.take (m*ay D)++(bs.drop (m*ay D)).take (ay D):=by rw[e,List.take_add]
  have a:bj ((bs.drop (m*ay D)).take (ay D)):=λx hx=>hb x (UZ (Um hx));have i:((bs.drop (m*ay D)).take (ay D)).length=ay D:=by rw[TyZ,Uv];lia
  have c:=Pe ih a i (λx hx=>hb x (Um hx));rw[<- f]at c;refine sX ok c ?_ ?_ (h (m+1) (by lia) hl)
  ·rw[TyZ,Ui hl,Nat.mul_mod_left]
  ·cases D with
   | pr b =>
    refine .inl ?_;have:=ih.2;have u:m*ay (.pr b)=m*2:=rfl;have d:(m+1)*ay (.pr b)=(m+1)*2:=rfl;rw[TyZ,Ui (by lia),u]at this;rw[TyZ,Ui hl,d];lia
   | _=>exact .inr λ_ z=>by cases z
def KF{D:Kt}{g:Int}{p u:e7}(ok:cP D)(pg:cu D g)(h:eX D g p)(hb:bj p)(dv:p.length%ay D=0)(d:u.length=ay D)(a:bj u):mh D g (p++u):=by
 have e:p.length/ay D*ay D=p.length:=Vx (Vb dv);have b:=Bh ok pg h hb (p.length/ay D) (by lia);rw[e,TK]at b;refine⟨hb.app a,p,u,Z,d,dv,b,?_⟩;by_cases z:p=[]
 ·exact .inl z
 ·have f:0<p.length:=Vv.mpr z;have:=h (p.length/ay D) (Nat.pos_of_ne_zero λc=>by rw[c,VY]at e;lia) (by lia);rw[e,TK]at this;exact .inr this
def KG{g f:Int}{r:e7}(h:mh .ld g (f::r)):r=[]\/(r.length:Int)+1<=lb f:=by
 obtain⟨_,p,u,e,b,_,_,a⟩:=h;have b:u.length=1:=b;cases p with
 | nil =>
  rw[VH]at e;rw[<- e,TX]at b;exact .inl (U5 (by lia))
 | cons f' p =>
  obtain⟨rfl,c⟩:f=f'/\r=p++u:=by cases e;exact⟨rfl,rfl⟩
  rcases a with a|a
  ·cases a
  dsimp only [aZ]at a
  split at a
  ·cases a
  rename_i nw
  split at a
  ·rename_i bg;have bg:iD f p:=bg;have nw:¬(iD f p/\(p.length:Int)+1=lb f):=nw;have:¬(p.length:Int)+1=lb f:=λz=>nw ⟨bg,z⟩;have:=bg.1;refine .inr ?_;rw[c,Tq,b];lia
  ·cases a
def KE{h:Bool}{g:Int}{r:e7}(n:mh (.pr h) g r):(∃x y,r=[x,y]/\(0<=x/\x<=255)/\0<=y/\y<=255)\/∃x y z v,r=[x,y,z,v]/\((0<=x/\x<=255)/\0<=y/\y<=255)/\((0<=z/\z<=255)/\0<=v/\v<=255)/\55296<=u2 h x y/\u2 h x y<56320:=by
 obtain⟨hb,p,u,rfl,b,dv,bg,a⟩:=n;have b:u.length=2:=b;have dv:p.length%2=0:=dv;have c:=bg.2
 match u,b with
 | [z,v],_ =>
  match p,dv,c with
  | [],_,_=>exact .inl ⟨z,v,rfl,hb z (by simp),hb v (by simp)⟩
  | [x,y],_,_ =>
   refine .inr ⟨x,y,z,v,rfl,⟨hb x (by simp),hb y (by simp)⟩,⟨hb z (by simp),hb v (by simp)⟩,?_⟩;rcases a with a|a
   ·cases a
   ·exact (sO h (g:=g) (hb x (by simp)) (hb y (by simp))).2 a
  | [_],d,_=>exact Wx d (by simp)
  | [_,_,_],d,_=>exact Wx d (by simp)
  | _::_::_::_::_,_,l=>exact Wx l (by simp)
def KD{f:Fp}{ns ms:e7}{g:Int}{r:e7}(n:mh (.sh f ns ms) g r):(∃b,r=[b]/\0<=b)\/∃c,r=[254+(1-g),c]/\0<=c:=by
 obtain⟨hb,p,u,rfl,a,dv,bg,d⟩:=n;have a:u.length=1:=a
 match u,a with
 | [b],_ =>
  rcases bg with rfl|rfl
  ·exact .inl ⟨b,rfl,(hb b (by simp)).1⟩
  ·exact .inr ⟨b,rfl,(hb b (by simp)).1⟩
end My
namespace My
open PySem L2
section
variable {P:Program}{w:World}{K:PySem.W.Frag}{mg:Str->Option Value}{base:Heap}{t:Adr}
def MX (T:Txt w K mg t):bz P w K mg base "_law_lead_begun" 1 t.xq t.uB ["_law_kept"] (λvs H Q _=>∃(c:Addr) (f:Int) (r:e7),vs=[.ref c]/\aE K H c ((f::r).map V.int)/\r.length<=900/\∀d,am H d->Q (.str (pO f r)) d):=by
 refine⟨T.N3,T.DR.kp,T.QF,T.DR.okQ gU (λvs H Q E h=>by obtain⟨c,f,r,rfl,_⟩:=h;rfl) λ_ _ _ _ H vs Q E hr h=>?_⟩;obtain⟨c,f,r,rfl,M,lr,k⟩:=h;have hu:=hr.units;refine⟨_,(ah (aM (i:=1) gU.nd Z (.inl Z) (aB (Ti K) (aa 0) ag (λ_ _=>rfl)))
  (ah (aA (av c7 (aa 1) ag (aq _)) (aj (ap aW)) aF)
  (ah (aA (bG (ck (av c7 (aa 1) ag (aq _)) (cE (av eT (aa 1) ag (aq _))))) (aj (ap aW)) aF)
  (ah (aM (i:=2) gU.nd rfl (.inl rfl) ag)
  (ah (aM (i:=3) gU.nd rfl (.inl rfl) ag)
  (ah (aA (av (jt (K:=K) rfl) (aa 1) (bS (ad ag (ad ag ae))) (by with_unfolding_all rfl)) (aj (aM (i:=2) gU.nd rfl (.inl rfl) (aG dw ag (aG fi ag (cm (aa 1)))))) aF)
  (ah (aA (av (jt (K:=K) rfl) (aa 1) (bS (iJ rfl)) (by with_unfolding_all rfl)) (aj (aM (i:=3) gU.nd rfl (.inl rfl) (aB (Ti K) (bh (iJ rfl)) (gq (K:=K) rfl Uf U3 Vw (pG (K:=K) rfl) (bh (iJ rfl)) (ad (aa 1) ae)) (λ_ _=>rfl)))) aF)
  (ah (eI PassesOwn.never rfl (fF (K:=K) rfl (dO (Tj K) (aa 0) (da ag) fE)) (bn (i:=4) gU.nd rfl (.inl rfl)) (ah (aA (bG (ck (av c7 (aa 4) (aa 2) (aq _)) (cE (av eT (aa 4) (aa 3) (aq _))))) (aj (ap aW)) aF)
  (ah (aM (i:=2) gU.nd rfl (.inl rfl) ag)
  (aj (aM (i:=3) gU.nd rfl (.inl rfl) ag)))))
  (ah (aM (i:=5) gU.nd rfl (.inl rfl) (aG (Te K) (aG (Te K) ag (cr ix T.n_int Ul (ad (dG eT (aa 1) ag (aq _)) ae))) (cr ix T.n_int Ul (ad (dG eT (aa 1) ag (aq _)) ae))))
  (aj (ap (aB (Ti K) (bh (ad aW (ad aW ae))) (cr ix T.n_int Ul (ad (dG (bi (K:=K) rfl hu) (bq (Th K) T.n_len Tw (ad (aa 0) ae)) (aa 5) (aq _)) ae)) (λ_ _=>rfl))))))))))))),?_⟩
 refine bo _ (.int f) (.inl M) (aH (j:=0) Z) ?_;unfold pO at k;refine ak (λm=>?_) (λm=>?_)
 ·have m:=Wz m;rw[Ww m]at k;exact k _ (am.refl _)
 have m:¬f<128:=λz=>m (WA z);rw[Wv m]at k;refine ak (λD=>?_) (λD=>?_)
 ·rw[Ww (.inl (Wz D))]at k;exact k _ (am.refl _)
 have D:¬f<194:=λz=>D (WA z);refine ak (λu=>?_) (λu=>?_)
 ·rw[Ww (.inr (Wz u))]at k;exact k _ (am.refl _)
 have u:¬244<f:=λz=>u (WA z);rw[Wv (by lia)]at k;unfold mx;dsimp only;refine h9 [some (.ref c),some (.int f),some (.int 128),none,none,none] (λnx h=>h) ?_;refine h9 [some (.ref c),some (.int f),some (.int 128),some (.int 191),none,none] (λnx h=>h) ?_;refine ce (λg d=>am H d/\g=[some (.ref c),some (.int f),some (.int (eQ f)),some (.int 191),none,none]) (λnx b=>?_) ?_
 ·refine⟨sz Z,λp1 W n=>?_⟩;refine gk (.inr n.tup) Z Z ?_;refine ak (λz=>?_) (λz=>?_)
  ·have z:bB (.int f) (([224,240]:e7).map V.int)=true:=z;rw[gZ]at z;have z:f=224\/f=240:=by simpa using z
   have e:V.int (160-16*(f/240))=V.int (eQ f):=by rcases z with rfl|rfl<;>rfl
   refine⟨.inl (by decide),?_⟩;show nx [some (.ref c),some (.int f),some (.int (160-16*(f/240))),some (.int 191),none,none] W;rw[e];exact b _ _ ⟨n.sm,Z⟩
  ·have z:¬bB (.int f) (([224,240]:e7).map V.int)=true:=z;rw[gZ]at z;have z:¬f=224/\¬f=240:=by simpa using z
   have e:eQ f=128:=by unfold eQ;rw[Wv z.1,Wv z.2]
   rw[e]at b;exact b _ _ ⟨n.sm,Z⟩
 rintro g H2 ⟨s2,rfl⟩;refine ce (λg d=>am H d/\g=[some (.ref c),some (.int f),some (.int (eQ f)),some (.int (eR f)),none,none]) (λnx b=>?_) ?_
 ·refine⟨sz Z,λp1 W n=>?_⟩;refine gk (.inr n.tup) Z Z ?_;have s1:=s2.trans n.sm;refine ak (λz=>?_) (λz=>?_)
  ·have z:bB (.int f) (([237,238,244]:e7).map V.int)=true:=z;rw[gZ]at z;have z:f=237\/f=238\/f=244:=by simpa using z
   refine⟨sz Z,λp2 H2 S=>?_⟩;refine⟨sz Z,λp3 U G=>?_⟩;refine⟨.inl ⟨rfl,_,G.lst⟩,?_⟩;have l:∀j v,([237,238,244]:e7)[j]? = some f->([159,187,143]:e7)[j]? = some v->eR f=v->(∀i z,i<j->(([237,238,244]:e7).map V.int)[i]? = some z->di z (.int f)=false)->tW K (.ref p3) [.int f] U λy J=>fk K (.ref p2) y J λx p=>bP 3 x [some (.ref c),some (.int f),some (.int (eQ f)),some (.int 191),none,none] p nx:=λj v h1 h2 e h3=>by
    refine⟨p3,.int f,_,j,rfl,rfl,G.at_,rfl,rfl,⟨.int f,?_,by simp[di]⟩,h3,?_⟩
    ·show (([237,238,244]:e7).map V.int)[j]? = _;rw[Tv,h1];rfl
    ·refine⟨(([159,187,143]:e7).map V.int),.int v,.inl (.of (G.sm _ _ S.at_)),aH (j:=j) (by rw[Tv,h2];rfl),?_⟩;rw[<- e];exact b _ _ ⟨s1.trans (S.sm.trans G.sm),Z⟩
   rcases z with rfl|rfl|rfl
   ·exact l 0 159 Z Z Z (λi z h=>Wx h (Vp _))
   ·refine l 1 187 Z Z Z (λi z h e=>?_);obtain rfl:i=0:=by lia
    cases e;rfl
   ·refine l 2 143 Z Z Z (λi z h e=>?_);have:i=0\/i=1:=by lia
    rcases this with rfl|rfl<;>cases e<;>rfl
  ·have z:¬bB (.int f) (([237,238,244]:e7).map V.int)=true:=z;rw[gZ]at z;have z:¬f=237/\¬f=238/\¬f=244:=by simpa using z
   have e:eR f=191:=by unfold eR;rw[Wv z.1,Wv z.2.1,Wv z.2.2]
   rw[e]at b;exact b _ _ ⟨s1,Z⟩
 rintro g U ⟨N,rfl⟩;refine⟨_,Z,_,N.seq M,λR J s=>?_⟩;have ec:d7 ((f::r).map V.int) (some 1) none=r.map V.int:=by
  rw[gP];exact congrArg _ (nS (f::r) 1)
 rw[ec]at s;refine dL R rfl ⟨_,s.lst⟩ (l7 (K:=K) (a:=R) (xs:=r.map V.int) (λi σ d=>d=J/\(∀j x,j<i->r[j]? = some x->cM f (j+1)<=x/\x<=dD f (j+1))/\∃F,σ=[some (.ref c),some (.int f),some (.int (cM f (i+1))),some (.int (dD f (i+1))),F,none]) ⟨rfl,λj x z=>Wx z (Vp _),_,rfl⟩ (λi σ d _ z=>by rw[z.1];exact s.lst) ?_ ?_)
 ·rintro i v σ p hv ⟨rfl,C,F,rfl⟩;obtain⟨x,hx,rfl⟩:=dY hv;have o:¬(cM f (i+1)<=x/\x<=dD f (i+1))->Q (.str "none") p:=λz=>by
   rw[Wv λy=>z (y i x hx)]at k;exact k _ (N.trans s.sm)
  refine ak (λe=>?_) (λe=>?_)
  ·exact o λz=>by have:=Wz e;lia
  refine ak (λB=>?_) (λB=>?_)
  ·exact o λz=>by have:=Wz B;lia
  refine⟨rfl,λj y hj I=>?_,_,rfl⟩;by_cases cc:j<i
  ·exact C j y cc I
  ·obtain rfl:j=i:=by lia
   rw[hx]at I;cases I;have e:¬x<cM f (j+1):=λz=>e (WA z);have B:¬dD f (j+1)<x:=λz=>B (WA z);lia
 ·rintro σ p ⟨rfl,C,F,rfl⟩;rw[To]at C;have ft:iZ f r:=λi x h=>C i x (Tz.mp h).1 h;rw[Ww ft]at k;have O:(((f::r).map V.int).length:Int)=(r.length:Int)+1:=by simp
  have L:=N.trans s.sm;dsimp only;refine ce (λg d=>d=p/\g=[some (.ref c),some (.int f),some (V.int (cM f ((List.map V.int r).length+1))),some (V.int (dD f ((List.map V.int r).length+1))),F,some (.int (lb f))]) (λnx b=>?_) ?_
  ·have e:2+(if decide (223<f)=true then (1:Int) else 0)+(if decide (239<f)=true then (1:Int) else 0)=lb f:=by
    unfold lb;simp only [decide_eq_true_eq]
    repeat' split<;>lia
   have b:=b _ _ ⟨rfl,rfl⟩;rw[<- e]at b;exact b
  rintro g _ ⟨rfl,rfl⟩;refine⟨sz Z,λY H6 q=>?_⟩;refine bc (.inl ((L.trans q.sm).seq M)) ?_;by_cases a:(r.length:Int)+1=lb f
  ·have e:(if decide ((((f::r).map V.int).length:Int)=lb f)=true then (1:Int) else 0)=1:=Ww (WA (by rw[O];exact a));rw[Ww a]at k;show fk K (.ref Y) (.int (if decide ((((f::r).map V.int).length:Int)=lb f)=true then (1:Int) else 0)) H6 Q;rw[e];exact⟨_,_,.inl q.lst,aH (j:=1) Z,k _ (L.trans q.sm)⟩
  ·have e:(if decide ((((f::r).map V.int).length:Int)=lb f)=true then (1:Int) else 0)=0:=Wv λz=>a (by rw[<- O];exact Wz z);rw[Wv a]at k;show fk K (.ref Y) (.int (if decide ((((f::r).map V.int).length:Int)=lb f)=true then (1:Int) else 0)) H6 Q;rw[e];exact⟨_,_,.inl q.lst,aH (j:=0) Z,k _ (L.trans q.sm)⟩
def MR (T:Txt w K mg t):bz P w K mg base "_law_pair_begun" 1 t.xi t.ur ["_law_kept", "_law_word"] (λvs H Q _=>∃(c:Addr) (h:Bool) (r:e7),vs=[.ref c,.str (cC (.pr h))]/\aE K H c (r.map V.int)/\(r.length=2\/r.length=4)/\∀q,am H q->Q (.str (gX (bV h r))) q):=by
 refine⟨T.NV,T.DK.kp,T.Qw,T.DK.okQ mF (λvs H Q E h=>by obtain⟨c,h,r,rfl,_⟩:=h;rfl) λ_ _ _ _ H vs Q E hr h=>?_⟩;obtain⟨c,h,r,rfl,hc,Y,k⟩:=h;have hu:=hr.units;refine⟨_,(ah (aM (i:=2) mF.nd Z (.inl Z) (bh ae))
  (ah (eI PassesOwn.never rfl (Ay rfl T.n_range (ad ag (ad (bq (Th K) T.n_len Tw (ad (aa 0) ae)) (ad ag ae)))) (bn (i:=3) mF.nd rfl (.inl rfl)) (ah (Ax (i:=4) (j:=5) rfl mF.nd rfl rfl (by decide) rfl rfl (ad (aB (Ti K) (aa 0) (aa 3) (λ_ _=>rfl)) (ad (aB (Ti K) (aa 0) (aG (Te K) (aa 3) ag) (λ_ _=>rfl)) ae)) rfl)
  (ah (aA (av (bi (K:=K) rfl hu) (aa 1) aW (aq _)) (aj (Ax (i:=4) (j:=5) rfl mF.nd rfl rfl (by decide) rfl rfl (ad (aa 5) (ad (aa 4) ae)) rfl)) aF)
  (aj (eJ (gq (K:=K) rfl Uf UB UC jo (aa 2) (ad (aG (Te K) (aG fi ag (aa 4)) (aa 5)) ae)))))))
  (ah (aA (bG (ck (mN dE c7 ag (aB (Ti K) (aa 2) ag (λ_ _=>rfl)) ag) (cE (mN dE c7 ag (aB (Ti K) (aa 2) ag (λ_ _=>rfl)) ag)))) (aj (ap aW)) aF)
  (ah (aA (bG (ck (av c7 (aB (Ti K) (aa 2) ag (λ_ _=>rfl)) ag (aq _)) (cE (av eT (aB (Ti K) (aa 2) ag (λ_ _=>rfl)) ag (aq _))))) (aj (ap aW)) aF)
  (ah (aA (av (bi (K:=K) rfl hu) (bq (Th K) T.n_len Tw (ad (aa 2) ae)) ag (aq _)) (aj (ap aW)) aF)
  (aj (ap (aB (Ti K) (bh (ad aW (ad aW ae))) (cr ix T.n_int Ul (ad (jm dE c7 ag (aB (Ti K) (aa 2) ag (λ_ _=>rfl)) ag) ae)) (λ_ _=>rfl))))))))),?_⟩
 refine⟨sz Z,λF H1 M=>?_⟩;have a0:=M.sm.seq hc;refine bc (.inl a0) ?_;rw[To];refine⟨r.length,2,rfl,by lia,by decide,by decide,?_⟩;refine OT (lo:=0) (c:=((2:Nat):Int)) (n:=(r.length+(2-1))/2) (λi σ q=>am H q/\q F=some (.lst (((bV h r).take i).map V.int))/\∃N R O,σ=[some (.ref c),some (.str (cC (.pr h))),some (.ref F),N,R,O]) ⟨M.sm,M.at_,_,_,_,Z⟩ ?_ ?_
 ·rintro i σ U hi ⟨B,L,N,R,O,rfl⟩;have J:=B.seq hc;obtain⟨x,hx⟩:∃x,r[2*i]? = some x:=⟨_,T4 (by lia)⟩;obtain⟨y,W⟩:∃y,r[2*i+1]? = some y:=⟨_,T4 (by lia)⟩;have e1:(0:Int)+(i:Int)*((2:Nat):Int)=((2*i:Nat):Int):=by lia
  have o:(bV h r)[i]? = some (u2 h x y):=by
   rcases Y with l|l
   ·obtain⟨a,b,rfl⟩:=lT l
    ·obtain rfl:i=0:=by simp at hi;lia
     cases hx;cases W;rfl
   ·obtain⟨a,b,d,e,rfl⟩:=mX l
    ·have:i=0\/i=1:=by simp at hi;lia
     rcases this with rfl|rfl<;>cases hx<;>cases W<;>rfl
  have tk:=fA o;dsimp only [bP];rw[e1];refine h9 [some (.ref c),some (.str (cC (.pr h))),some (.ref F),some (.int ((2*i:Nat):Int)),some (.int x),some (.int y)] (λnx C=>?_) ?_
  ·refine⟨_,.int x,.inl J,aH (j:=2*i) (by rw[Tv,hx];rfl),?_⟩;refine⟨_,.int y,.inl J,?_,?_⟩
   ·rw[show ((2*i:Nat):Int)+1=((2*i+1:Nat):Int) by lia];exact aH (by rw[Tv,W];rfl)
   ·exact⟨_,_,Z,C⟩
  refine ce (λG q=>q=U/\G=[some (.ref c),some (.str (cC (.pr h))),some (.ref F),some (.int ((2*i:Nat):Int)),some (.int (if h then x else y)),some (.int (if h then y else x))]) (λnx C=>?_) ?_
  ·cases h with
   | true =>
    refine ez ?_;refine ak (λe=>Wx e (by decide +kernel)) (λ_=>?_);exact C _ _ ⟨rfl,rfl⟩
   | false =>
    refine ez ?_;refine ak (λ_=>?_) (λe=>Wx (by decide +kernel) e);exact⟨_,_,rfl,C _ _ ⟨rfl,rfl⟩⟩
  rintro G _ ⟨rfl,rfl⟩;refine⟨.inl ⟨rfl,_,.of L⟩,?_⟩;refine⟨.inl (by decide),?_⟩;have ev:256*(if h then x else y)+(if h then y else x)=u2 h x y:=by
   unfold u2;cases h<;>simp<;>lia
  refine dS L (fV (by rw[To,TyZ];lia)) ?_;rw[ev];exact⟨B.put M.nw,by rw[aV,tk,TZ];rfl,_,_,_,rfl⟩
 ·rintro σ U ⟨B,L,N,R,O,rfl⟩;have key:(∃u,bV h r=[u])\/∃u v,bV h r=[u,v]:=by
   rcases Y with l|l
   ·obtain⟨a,b,rfl⟩:=lT l;exact .inl ⟨_,Z⟩
   ·obtain⟨a,b,d,e,rfl⟩:=mX l;exact .inr ⟨_,_,Z⟩
  have el:(bV h r).length<=(r.length+(2-1))/2:=by
   rcases Y with l|l
   ·obtain⟨a,b,rfl⟩:=lT l;simp[bV]
   ·obtain⟨a,b,d,e,rfl⟩:=mX l;simp[bV]
  rw[Uj el]at L;obtain⟨u,tl,o⟩:∃u tl,bV h r=u::tl:=by
   rcases key with ⟨u,e⟩|⟨u,v,e⟩
   ·exact⟨u,_,e⟩
   ·exact⟨u,_,e⟩
  have w1:(56320<=u/\u<57344)\/(61184<=u/\u<61440)->gX (bV h r) = "none":=λz=>by
   rcases key with ⟨u',e⟩|⟨u',v,e⟩<;>(rw[e]at o ⊢;cases o;exact Ww z)
  have w2:¬((56320<=u/\u<57344)\/(61184<=u/\u<61440))->u<55296\/57343<u->gX (bV h r) = "sign":=λz y=>by
   rcases key with ⟨u',e⟩|⟨u',v,e⟩<;>(rw[e]at o ⊢;cases o;exact (Wv z).trans (Ww y))
  have m:cY ((bV h r).map V.int) 0=some (.int u):=by rw[o];exact aH (j:=0) Z
  have f:aE K U F ((bV h r).map V.int):=.of L;dsimp only;refine ce (λG q=>q=U/\¬((56320<=u/\u<57344)\/(61184<=u/\u<61440))/\G=[some (V.ref c),some (V.str (cC (Md.pr h))),some (V.ref F),N,R,O]) (λnx C=>?_) ?_
  ·refine bo _ (.int u) (.inl f) m ?_;refine ak (λD=>?_) (λD=>?_)
   ·refine ak (λp=>?_) (λp=>?_)
    ·have:=k _ B;rw[w1 (.inl ⟨Wz D,Wz p⟩)]at this;exact this
    ·refine bo _ (.int u) (.inl f) m ?_;refine ak (λg=>?_) (λg=>?_)
     ·refine ak (λs=>?_) (λs=>?_)
      ·have:=k _ B;rw[w1 (.inr ⟨Wz g,Wz s⟩)]at this;exact this
      ·exact C _ _ ⟨rfl,λz=>by have p:¬u<57344:=λy=>p (WA y);have s:¬u<61440:=λy=>s (WA y);lia,rfl⟩
     ·exact C _ _ ⟨rfl,λz=>by have p:¬u<57344:=λy=>p (WA y);have g:¬61184<=u:=λy=>g (WA y);lia,rfl⟩
   ·have D:¬56320<=u:=λy=>D (WA y);refine bo _ (.int u) (.inl f) m ?_;refine ak (λg=>?_) (λg=>?_)
    ·exact Wx (Wz g) (by lia)
    ·exact C _ _ ⟨rfl,λz=>by lia,rfl⟩
  rintro G _ ⟨rfl,S,rfl⟩;refine bo _ (.int u) (.inl f) m ?_;refine ak (λD=>?_) (λD=>?_)
  ·have:=k _ B;rw[w2 S (.inl (Wz D))]at this;exact this
  refine bo _ (.int u) (.inl f) m ?_;refine ak (λp=>?_) (λp=>?_)
  ·have:=k _ B;rw[w2 S (.inr (Wz p))]at this;exact this
  have n2:¬(u<55296\/57343<u):=λz=>z.elim (λy=>D (WA y)) (λy=>p (WA y));refine bc (.inl f) ?_;rw[To];have kk:=k;rcases key with ⟨u',e⟩|⟨u',v,e⟩
  ·rw[e]at o k ⊢;cases o;have:=k _ B;rw[show gX [u] = "more" from (Wv S).trans (Wv n2)]at this;exact this
  ·rw[e]at o k f ⊢;cases o;unfold mx;dsimp only;refine⟨sz Z,λp5 H6 I=>?_⟩;refine bo _ (.int v) (.inl (I.sm.seq f)) (aH (j:=1) Z) ?_;have k6:=k _ (B.trans I.sm);have ep:gX [u,v]=if 56320<=v/\v<57344 then ("sign" : Str) else ("none" : Str):=(Wv S).trans (Wv n2)
   rw[ep]at k6;refine ak (λg=>?_) (λg=>?_)
   ·by_cases s:v<57344
    ·rw[Ww ⟨Wz g,s⟩]at k6;show fk K (.ref p5) (.int (if decide (v<57344)=true then (1:Int) else 0)) H6 Q;rw[Ww (WA s)];exact⟨_,_,.inl I.lst,aH (j:=1) Z,k6⟩
    ·rw[Wv λz=>s z.2]at k6;show fk K (.ref p5) (.int (if decide (v<57344)=true then (1:Int) else 0)) H6 Q;rw[Wv λz=>s (Wz z)];exact⟨_,_,.inl I.lst,aH (j:=0) Z,k6⟩
   ·rw[Wv λz=>g (WA z.1)]at k6;exact⟨_,_,.inl I.lst,aH (j:=0) Z,k6⟩
theorem Bx:∀es:List (Int × e7),PyData.canLayAll0 (es.map λe=>PyData.list (e.2.map PyData.int))=true/\PyData.depthAll (es.map λe=>PyData.list (e.2.map PyData.int))<=1
 | []=>⟨rfl,by simp[PyData.depthAll]⟩
 | e::es=>by
  obtain⟨a,b⟩:=Bx es
  constructor
  ·simp[PyData.canLayAll0,PyData.canLay0,Ws,a]
  ·simp[PyData.depthAll,PyData.depth,PySem.W.ke_depthAll];lia
theorem CS{K:PySem.W.Frag}{H:Hp}:∀ {qs:List Addr} {es:List (Int × e7)},jz H qs es->fS K H (es.map λe=>PyData.list (e.2.map PyData.int)) (qs.map V.ref)
 | [],[],_=>.nil
 | [],_::_,h=>Wx h.1 (by simp)
 | _::_,[],h=>Wx h.1 (by simp)
 | q::qs,e::es,h=>.cons (c6.lst (.of (h.2 0 q e rfl rfl)) (fS.ints _)) (CS (qs:=qs) (es:=es) ⟨by simpa using h.1,λi x y hx a=>h.2 (i+1) x y hx a⟩)
def Dj(es:List (Int × e7))(r:e7):((es.map λe=>PyData.list (e.2.map PyData.int)).any λy=>PyData.eqv y (.list (r.map PyData.int)))=true ↔ ∃e∈es,e.2=r:=by
 rw[Uo]
 constructor
 ·rintro⟨x,hx,e⟩;obtain⟨y,a,rfl⟩:=T0.mp hx;rw[vF]at e;exact⟨y,a,Wz e⟩
 ·rintro⟨y,a,rfl⟩;exact⟨_,T0.mpr ⟨y,a,rfl⟩,by rw[vF];exact WA Z⟩
def GP(K:PySem.W.Frag):Sp:=λvs H Q _=>∃(p c:Addr) (M:Md) (D:Kt) (g:Int) (r:e7),vs=[.ref p,.ref c,.int g]/\Mod H p M/\Mt M D/\cP D/\cu D g/\aE K H c (r.map V.int)/\mh D g r/\r.length<=900/\∀H',am H H'->Q (.str (eh (aZ D g r))) H'
def M0 (T:Txt w K mg t):bz P w K mg base "_law_begun" 2 t.xy t.uI ["_law_model_here", "_law_kept", "_law_page_here"] (GP K):=by
 refine⟨T.Oa,T.DY.kp,T.QP,T.DY.okQ jS (λvs H Q E h=>by obtain⟨p,c,M,D,g,r,rfl,_⟩:=h;rfl) λ_ _ _ _ H vs Q E hr h=>?_⟩;obtain⟨p,c,M,D,g,r,rfl,⟨a,b,s,ct⟩,mt,ok,pg,C,nx,lr,k⟩:=h;have o:=hr.units;refine⟨_,(ah (ic (aa 0) (ff (K:=K) Z Z (bR (bn (i:=3) jS.nd Z (.inl Z)) (bR (bn (i:=4) jS.nd Z (.inl Z)) (bR (bn (i:=5) jS.nd Z (.inl Z)) fe)))))
  (ah (aA (av (bi (K:=K) rfl o) (aa 3) aW (aq _)) (aj (ap (aP (MX T) hr (ad (aa 1) ae)))) aF)
  (ah (aA (bG (ck (av (bi (K:=K) rfl o) (aa 3) aW (aq _)) (cE (av (bi (K:=K) rfl o) (aa 3) aW (aq _))))) (aj (ap (aP (MR T) hr (ad (aa 1) (ad (aa 3) ae))))) aF)
  (ah (aA (av (bi (K:=K) rfl o) (aa 3) aW (aq _)) (ah (aA (av (OB (K:=K) rfl o) (aa 1) (aa 5) (by with_unfolding_all rfl)) (aj (ap aW)) aF)
  (aj (ap (aB (Ti K) (bh (ad aW (ad aW ae))) (cr ix T.n_int Ul (ad (bq (P0 (K:=K) rfl rfl) T.n_any PyProof.Rows.boot_any (ad (gp rfl (dn.of (fns:=(ao jf).names) (N:=["_law_model_here", "_law_kept", "_law_page_here", "_law_word", "_law_first", "_law_second", "_law_here", "_law_there"]) (Nc:=["_law_row_here", "_law_kept"]) (nv:=1) (caps:=[1]) rfl rfl (by decide +kernel)) (fF (K:=K) rfl (aa 5)) (λ_ _ _ _=>(bn (i:=0) (show List.Nodup (["_law_row_here", "_law_kept"]:List Str) by decide +kernel) rfl (Or.inl rfl) (Or.inr rfl))) (λ_ _ _ _=>fW) (λ_ _ _ _=>(dG (bi (K:=K) rfl o) (dO (Tj K) (aa 0) fE (da (bq (Th K) T.n_len Tw (ad (aa 1) ae)))) (aa 1) (aq _)))) ae)) ae)) (λ_ _=>rfl))))) aF)
  (ah (aA (av (bi (K:=K) rfl o) (aa 3) aW (aq _)) (aj (ap aW)) aF)
  (ah (aM (i:=6) jS.nd rfl (.inl rfl) (aB (Ti K) (aa 0) (aG (Te K) ag (aa 2)) (λ_ _=>rfl)))
  (ah (aM (i:=7) jS.nd rfl (.inl rfl) (aB (Ti K) (aa 0) (aG dw ag (aa 2)) (λ_ _=>rfl)))
  (ah (aA (bG (eG (av (bi (K:=K) rfl o) (bq (Th K) T.n_len Tw (ad (aa 1) ae)) ag (aq _)) (fD (av (bi (K:=K) rfl o) (aB (Ti K) (aa 1) ag (λ_ _=>rfl)) (aG dw ag (aa 2)) (aq _))))) (aj (ap (aB (Ti K) (bh (ad aW (ad aW ae))) (cr ix T.n_int Ul (ad (dG eT (Iv (K:=K) rfl rfl T.n_len Tw T.n_set PyProof.Rows.boot_set (aa 7) (aa 6)) ag (aq _)) ae)) (λ_ _=>rfl)))) aF)
  (ah (aA (av (bi (K:=K) rfl o) (bq (Th K) T.n_len Tw (ad (aa 1) ae)) ag (aq _)) (aj (ap (aB (Ti K) (bh (ad aW (ad aW ae))) (cr ix T.n_int Ul (ad (dG c7 (aB (Ti K) (aa 1) ag (λ_ _=>rfl)) (bq (Th K) T.n_len Tw (ad (aa 6) ae)) (aq _)) ae)) (λ_ _=>rfl)))) aF)
  (aj (ap (aB (Ti K) (bh (ad aW (ad aW ae))) (cr ix T.n_int Ul (ad (gv (dG c7 (aB (Ti K) (aa 1) ag (λ_ _=>rfl)) (bq (Th K) T.n_len Tw (ad (aa 7) ae)) (aq _)) (fX (dG (pZ (K:=K) rfl) (aB (Ti K) (aa 7) (aB (Ti K) (aa 1) ag (λ_ _=>rfl)) (λ_ _=>rfl)) (aa 6) (by with_unfolding_all rfl)))) ae)) (λ_ _=>rfl))))))))))))),?_⟩
 have a8:r≠[]:=λe=>by
  obtain⟨_,p',u,e',lu,_⟩:=nx;rw[e]at e';have:=congrArg List.length e';rw[Tq]at this;have:=jF D;simp at *;lia
 cases M with
 | ld =>
  obtain rfl:D=.ld:=mt;refine⟨p,_,Z,.of s,Z,_,_,Z,_,_,Z,_,_,Z,Z,?_⟩;refine ez ?_;refine ak (λ_=>?_) (λe=>Wx (by decide +kernel) e);cases r with
  | nil=>exact Wx rfl a8
  | cons f r =>
   exact⟨c,f,r,rfl,C,by simp at lr;lia,λY U=>by rw[LZ (g:=g) (KG nx)];exact k Y U⟩
 | pr h =>
  obtain rfl:D=.pr h:=mt;refine⟨p,_,Z,.of s,Z,_,_,Z,_,_,Z,_,_,Z,Z,?_⟩;refine xS (aN (Ba (.pr h))) (by decide +kernel) ?_;refine ak (λe=>Wx e (by cases h<;>decide +kernel)) (λ_=>?_);have I:(r.length=2\/r.length=4)/\eh (aZ (.pr h) g r)=gX (bV h r):=by
   rcases KE nx with ⟨x,y,rfl,hx,O⟩|⟨x,y,z,v,rfl,hx,hz,o⟩
   ·exact⟨.inl Z,(sO h hx O).1⟩
   ·exact⟨.inr Z,Jr h o⟩
  cases h with
  | true =>
   refine ez ?_;refine ak (λ_=>?_) (λe=>Wx (by decide +kernel) e);exact⟨c,true,r,rfl,C,I.1,λY U=>by rw[<- I.2];exact k Y U⟩
  | false =>
   refine ez ?_;refine ak (λe=>Wx e (by decide +kernel)) (λ_=>?_);refine ez ?_;refine ak (λ_=>?_) (λe=>Wx (by decide +kernel) e);exact⟨c,false,r,rfl,C,I.1,λY U=>by rw[<- I.2];exact k Y U⟩
 | br =>
  obtain rfl:D=.br:=mt;refine⟨p,_,Z,.of s,Z,_,_,Z,_,_,Z,_,_,Z,Z,?_⟩;refine ez ?_;refine ak (λe=>Wx e (by decide +kernel)) (λ_=>?_);refine ez ?_;refine ak (λe=>Wx e (by decide +kernel)) (λ_=>?_);refine ez ?_;refine ak (λe=>Wx e (by decide +kernel)) (λ_=>?_);refine ez ?_;refine ak (λe=>Wx e (by decide +kernel)) (λ_=>?_);refine ez ?_;refine ak (λ_=>?_) (λe=>Wx (by decide +kernel) e);exact k _ (am.refl _)
 | tb es =>
  obtain⟨f,rfl⟩:=mt;obtain⟨ha,⟨qs,hb,S⟩,a7⟩:=ct;have s:H p=some (.tup [.str "table",.ref a,.ref b]):=s;refine⟨p,_,Z,.of s,Z,_,_,Z,_,_,Z,_,_,Z,Z,?_⟩;refine ez ?_;refine ak (λe=>Wx e (by decide +kernel)) (λ_=>?_);refine ez ?_;refine ak (λe=>Wx e (by decide +kernel)) (λ_=>?_);refine ez ?_;refine ak (λe=>Wx e (by decide +kernel)) (λ_=>?_);refine ez ?_;refine ak (λ_=>?_) (λe=>Wx (by decide +kernel) e);have ly:=Bx es;refine⟨_,_,c6.lst (.of hb) (CS S),c6.lst C (fS.ints r),ly.1,by simp[PyData.canLay0,Ws],by have:=ly.2;lia,?_⟩;obtain⟨t1,t2,t3⟩:=FE (f:=f) (es:=es) (g:=g) (r:=r);refine ak (λz=>?_) (λz=>?_)
  ·have:=k _ (am.refl _);rw[t1 ((Dj es r).mp z)]at this;exact this
  have z:¬ ∃e∈es,e.2=r:=λy=>z ((Dj es r).mpr y);refine⟨sz Z,λF J d=>?_⟩;have W:=d.sm _ _ hb;have B:=d.sm.seq C;have L:=S.mono d.sm;refine dL b rfl ⟨_,.of W⟩ (nU ((es.map λe=>decide (e.2.take r.length=r)).map V.bl) (by simp[L.1]) (.of W) (cD (by rw[To,L.1];have:=a7.l;lia)) (λi x y H7 N hx O s7 hN=>?_) λp8 H8 g8=>?_)
  ·rw[Tv]at hx;rw[Tv,Tv]at O;cases hq:qs[i]? with
   | none=>rw[hq]at hx;cases hx
   | some q =>
   rw[hq]at hx;cases hx;obtain⟨e,he,a9⟩:=L.right hq;rw[he]at O;cases O;refine⟨_,.inl (s7.seq B),_,Z,_,.of (s7 _ _ a9),λp9 H9 g9=>?_⟩;rw[To,l8]at g9;exact jw g9.lst ((s7.trans g9.sm).seq B) (hN _ g9.sm)
  refine bc g8.lst ?_;have k8:=k _ (d.sm.trans g8.sm);by_cases y:∃e∈es,e.2.take r.length=r
  ·rw[t2 z y]at k8;have e:((es.map λe=>decide (e.2.take r.length=r)).any id)=true:=by
    rw[Uo];obtain⟨e,he,hr⟩:=y;exact⟨_,T0.mpr ⟨e,he,Z⟩,WA hr⟩
   show fk K (.ref F) (.int (if ((es.map λe=>decide (e.2.take r.length=r)).any id)=true then (1:Int) else 0)) H8 Q;rw[Ww e];exact⟨_,_,.inl (g8.sm.seq d.lst),aH (j:=1) Z,k8⟩
  ·rw[t3 z y]at k8;have e:¬((es.map λe=>decide (e.2.take r.length=r)).any id)=true:=by
    rw[Uo];rintro⟨x,hx,e⟩;obtain⟨e',he,rfl⟩:=T0.mp hx;exact y ⟨e',he,Wz e⟩
   show fk K (.ref F) (.int (if ((es.map λe=>decide (e.2.take r.length=r)).any id)=true then (1:Int) else 0)) H8 Q;rw[Wv e];exact⟨_,_,.inl (g8.sm.seq d.lst),aH (j:=0) Z,k8⟩
 | sh ns ms =>
  obtain⟨f,rfl⟩:=mt;obtain⟨ha,hb,R,a2⟩:=ct;have two:cJ g:=pg;have s:H p=some (.tup [.str "shift",.ref a,.ref b]):=s;refine⟨p,_,Z,.of s,Z,_,_,Z,_,_,Z,_,_,Z,Z,?_⟩;refine ez ?_;refine ak (λe=>Wx e (by decide +kernel)) (λ_=>?_);refine ez ?_;refine ak (λe=>Wx e (by decide +kernel)) (λ_=>?_);refine ez ?_;refine ak (λe=>Wx e (by decide +kernel)) (λ_=>?_);refine ez ?_;refine ak (λe=>Wx e (by decide +kernel)) (λ_=>?_);refine ez ?_;refine ak (λe=>Wx e (by decide +kernel)) (λ_=>?_);have i1:cY ([.str "shift",.ref a,.ref b]:List V) (1+g)=some (.ref (ai g a b)):=by rcases two with rfl|rfl<;>rfl
  have i2:cY ([.str "shift",.ref a,.ref b]:List V) (2-g)=some (.ref (ai g b a)):=by rcases two with rfl|rfl<;>rfl
  have hA:H (ai g a b)=some (.lst ((ai g ns ms).map V.int)):=by rcases two with rfl|rfl<;>assumption
  have hB:H (ai g b a)=some (.lst ((ai g ms ns).map V.int)):=by rcases two with rfl|rfl<;>assumption
  have lA:(ai g ns ms).length<=250:=(jN R a2).2.2;have lB:(ai g ms ns).length<=250:=(jN a2 R).2.2;unfold mx;dsimp only;refine h9 [some (.ref p),some (.ref c),some (.int g),some (.str "shift"),some (.ref a),some (.ref b),some (.ref (ai g a b)),none] (λnx G=>⟨_,_,.inr (.of s),i1,G⟩) ?_;refine h9 [some (.ref p),some (.ref c),some (.int g),some (.str "shift"),some (.ref a),some (.ref b),some (.ref (ai g a b)),some (.ref (ai g b a))] (λnx G=>⟨_,_,.inr (.of s),i2,G⟩) ?_;refine bc (.inl C) ?_;rcases KD nx with ⟨b1,rfl,b0⟩|⟨c1,rfl,c0⟩
  ·obtain⟨w1,w2,w3,w4⟩:=GY (f:=f) (ns:=ns) (ms:=ms) (g:=g) two lA b0;refine bo _ (.int b1) (.inl C) (aH (j:=0) Z) ?_;refine ak (λz=>?_) (λz=>?_)
   ·have z:b1=255-g:=Wz z;refine⟨sz Z,λF J d=>?_⟩;refine⟨_,_,Z,.of (d.sm _ _ hB),lB,_,_,Z,.of (d.sm _ _ hA),lA,λn G=>?_⟩;have k6:=k _ d.sm;by_cases y:∃k∈ai g ms ns,k∉ai g ns ms
    ·rw[w1 z y]at k6;show fk K (.ref F) (.int (if decide ((0:Int)<(n:Int))=true then (1:Int) else 0)) J Q;rw[Ww (WA (by have:=G.mpr y;lia))];exact⟨_,_,.inl d.lst,aH (j:=1) Z,k6⟩
    ·rw[w2 z y]at k6;show fk K (.ref F) (.int (if decide ((0:Int)<(n:Int))=true then (1:Int) else 0)) J Q;rw[Wv (λh=>y (G.mp (by have:=Wz h;lia)))];exact⟨_,_,.inl d.lst,aH (j:=0) Z,k6⟩
   ·have z:¬b1=255-g:=λy=>z (WA y);refine bc (.inl C) ?_;refine⟨sz Z,λF J d=>?_⟩;refine bo _ (.int b1) (.inl (d.sm.seq C)) (aH (j:=0) Z) ?_;refine bc (.inl (.of (d.sm _ _ hA))) ?_;rw[To];have k6:=k _ d.sm;by_cases y:b1<((ai g ns ms).length:Int)
    ·rw[w3 z y]at k6;show fk K (.ref F) (.int (if decide (b1<((ai g ns ms).length:Int))=true then (1:Int) else 0)) J Q;rw[Ww (WA y)];exact⟨_,_,.inl d.lst,aH (j:=1) Z,k6⟩
    ·rw[w4 z y]at k6;show fk K (.ref F) (.int (if decide (b1<((ai g ns ms).length:Int))=true then (1:Int) else 0)) J Q;rw[Wv (λh=>y (Wz h))];exact⟨_,_,.inl d.lst,aH (j:=0) Z,k6⟩
  ·obtain⟨w1,w2⟩:=GX (f:=f) (ns:=ns) (ms:=ms) (g:=g) c0;refine bc (.inl C) ?_;refine⟨sz Z,λF J d=>?_⟩;have B:=d.sm.seq C;have k6:=k _ d.sm;refine bo _ (.int c1) (.inl B) (aH (j:=1) Z) ?_;refine bc (.inl (.of (d.sm _ _ hB))) ?_;rw[To];refine ak (λy=>?_) (λy=>?_)
   ·have y:c1<((ai g ms ns).length:Int):=Wz y;obtain⟨n,G⟩:∃n,(ai g ms ns)[c1.toNat]? = some n:=⟨_,T4 (by lia)⟩;refine bo _ (.int c1) (.inl B) (aH (j:=1) Z) ?_;refine bo _ (.int n) (.inl (.of (d.sm _ _ hB))) (Dh c0 G) ?_;refine gk (.inl (.of (d.sm _ _ hA))) Z (iQ _) ?_;show fk K (.ref F) (.int (if (!bB (.int n) ((ai g ns ms).map V.int))=true then (1:Int) else 0)) J Q;rw[gZ];by_cases x:n∈ai g ns ms
    ·rw[w2 (by rintro⟨m,hm,hx⟩;rw[G]at hm;cases hm;exact hx x)]at k6;rw[Wv (by simp[x])];exact⟨_,_,.inl d.lst,aH (j:=0) Z,k6⟩
    ·rw[w1 ⟨n,G,x⟩]at k6;rw[Ww (by simp[x])];exact⟨_,_,.inl d.lst,aH (j:=1) Z,k6⟩
   ·have y:¬c1<((ai g ms ns).length:Int):=λz=>y (WA z);rw[w2 (by rintro⟨m,hm,_⟩;rw[Uz (by lia)]at hm;cases hm)]at k6;exact⟨_,_,.inl d.lst,aH (j:=0) Z,k6⟩
def yT{M:Md}{D:Kt}(m:Mt M D):yU M=(ay D:Int):=by
 cases M with
 | ld=>obtain rfl:D=.ld:=m;rfl
 | pr b=>obtain rfl:D=.pr b:=m;rfl
 | sh ns ms=>obtain⟨f,rfl⟩:=m;rfl
 | tb es=>obtain⟨f,rfl⟩:=m;rfl
 | br=>obtain rfl:D=.br:=m;rfl
structure Rs where
 g:Int
 r:e7
 c:Nat
 f:Option (Nat × Nat × Str)
abbrev gQ(t:Adr)(dx o b mt:Addr)(pl g c:Int)(e:Bool):HO:=.ins t.bQ dx [("tongue",.ref o),("place",.int pl),("at_page",.int g),("begun",.ref b),("many",.int c),("met",.ref mt),("ended",.bl e)]
def gR(H:Hp)(mt:Addr)(pl:Int):Option (Nat × Nat × Str)->Prop
 | none=>H mt=some (.lst [])
 | some z=>∃a,H mt=some (.lst [.ref a])/\H a=some (.tup [.int (pl+(z.1:Int)),.int (z.2.1:Int),.str z.2.2])
def gR.mono{H b:Hp}{mt:Addr}{pl:Int}{f:Option (Nat × Nat × Str)}(h:gR H mt pl f)(s:am H b):gR b mt pl f:=by
 cases f with
 | none=>exact s _ _ h
 | some z=>obtain⟨a,d,c⟩:=h;exact⟨a,s _ _ d,s _ _ c⟩
def gR.lst{H:Hp}{mt:Addr}{pl:Int}{f:Option (Nat × Nat × Str)}(h:gR H mt pl f):∃xs,H mt=some (.lst xs):=by
 cases f with
 | none=>exact⟨_,h⟩
 | some z=>obtain⟨a,b,_⟩:=h;exact⟨_,b⟩
def gR.keep{H g:Hp}{mt x b:Addr}{pl:Int}{f:Option (Nat × Nat × Str)}{u:HO}{j:List V}(h:gR H mt pl f)(k:∀a o,a≠x->a≠b->H a=some o->g a=some o)(hx:H x=some u)(i:∀zs,u ≠ .lst zs)(nv:∀zs,u ≠ .tup zs)(hb:H b=some (.lst j))(e:mt≠b):gR g mt pl f:=by
 cases f with
 | none =>
  have h:H mt=some (.lst []):=h;exact k _ _ (λz=>by rw[z,hx]at h;exact i _ (T9 h)) e h
 | some z =>
  obtain⟨a,d,c⟩:=h;exact⟨a,k _ _ (λz=>by rw[z,hx]at d;exact i _ (T9 d)) e d,k _ _ (λz=>by rw[z,hx]at c;exact nv _ (T9 c)) (λz=>by rw[z,hb]at c;cases c) c⟩
structure Hr (t:Adr) (Hb H:Hp) (x dx o b mt:Addr) (D:Kt) (pl:Int) (s:Rs) (e:Bool):Prop where
 tn:TN t Hb o D
 sb:am Hb H
 fx:Hb x=none
 fb:Hb b=none
 fm:Hb mt=none
 nbm:b≠mt
 hx:H x=some (gQ t dx o b mt pl s.g (s.c:Int) e)
 hb:H b=some (.lst (s.r.map V.int))
 ft:gR H mt pl s.f
 pg:cu D s.g
 lc:s.r.length<=s.c
def Hr.grow{c H a:Hp}{x dx o b mt:Addr}{D:Kt}{pl:Int}{s:Rs}{e:Bool}(h:Hr t c H x dx o b mt D pl s e)(g:am H a):Hr t c a x dx o b mt D pl s e:=⟨h.tn,h.sb.trans g,h.fx,h.fb,h.fm,h.nbm,g _ _ h.hx,g _ _ h.hb,h.ft.mono g,h.pg,h.lc⟩
def Hr.side{a H:Hp}{x dx o b mt:Addr}{D:Kt}{pl:Int}{s:Rs}{e:Bool}(h:Hr t a H x dx o b mt D pl s e):Hr t (wo H [x,b,mt]) H x dx o b mt D pl s e:=⟨h.tn.mono (rT h.sb h.fx h.fb h.fm),EJ,rV (by simp),rV (by simp),rV (by simp),h.nbm,h.hx,h.hb,h.ft,h.pg,h.lc⟩
def Hr.back{a d c:Hp}{x dx o b mt:Addr}{D:Kt}{pl:Int}{s:Rs}{e:Bool}(h:Hr t d c x dx o b mt D pl s e)(g:am a d)(tn:TN t a o D):Hr t a c x dx o b mt D pl s e:=⟨tn,g.trans h.sb,g.free h.fx,g.free h.fb,g.free h.fm,h.nbm,h.hx,h.hb,h.ft,h.pg,h.lc⟩
def zF(t:Adr):Sp:=λvs H Q _=>∃(x dx o:Addr) (pl:Int),vs=[.ref x,.ref o,.int pl]/\H x=some (.ins t.bQ dx [])/\∀b mt H',H b=none->H mt=none->b≠mt->Kp x H H'->H' x=some (gQ t dx o b mt pl 0 0 false)->H' b=some (.lst [])->H' mt=some (.lst [])->Q .non H'
def Kr (T:Txt w K mg t):bL P w K mg base bY 1 t.rm t.nE ["self", "tongue", "place"] (zF t):=by
 refine T.Sn.okQ HG (λvs H Q E h=>by obtain⟨x,dx,o,pl,rfl,_⟩:=h;rfl) λ_ _ _ _ H vs Q E p h=>?_;obtain⟨x,dx,o,pl,rfl,hx,k⟩:=h;refine⟨_,(ah (dN (K:=K) Z (aa 0) (aa 1))
  (ah (dN (K:=K) rfl (aa 0) (aa 2))
  (ah (dN (K:=K) rfl (aa 0) ag)
  (ah (dN (K:=K) rfl (aa 0) (bh ae))
  (ah (dN (K:=K) rfl (aa 0) ag)
  (ah (dN (K:=K) rfl (aa 0) (bh ae))
  (aj (dN (K:=K) rfl (aa 0) fG)))))))),?_⟩
 refine dB x _ dx _ rfl hx T.aS T.dC (Ts VU (by decide)) ?_;refine dB x _ dx _ rfl aV T.aS T.Bg (Ts (TR 1) (by decide)) ?_;refine dB x _ dx _ rfl aV T.aS T.gJ (Ts (TR 2) (by decide)) ?_;refine⟨sz Z,λb m d=>?_⟩;have f:H b=none:=Kp.free (x:=x) (Kp.trans Kp.upd (Kp.trans Kp.upd Kp.upd)) aV d.nw;have k1:Kp x H m:=Kp.trans (Kp.trans Kp.upd (Kp.trans Kp.upd Kp.upd)) (Kp.of d.sm);have a:b≠x:=λz=>by rw[z,hx]at f;cases f
 have l:=d.sm x _ aV;refine dB x _ dx _ rfl l T.aS T.dI (Ts (TR 3) (by decide)) ?_;refine dB x _ dx _ rfl aV T.aS T.sU (Ts (TR 4) (by decide)) ?_;refine⟨sz Z,λmt i c=>?_⟩;have g:H mt=none:=Kp.free (x:=x) (k1.trans (Kp.trans Kp.upd Kp.upd)) aV c.nw;have k3:Kp x H i:=Kp.trans (k1.trans (Kp.trans Kp.upd Kp.upd)) (Kp.of c.sm);have n:i b=some (.lst []):=c.sm _ _ (by rw[au a,au a];exact d.at_);have nbm:b≠mt:=ba (by rw[au a,au a];exact d.at_) c.nw;have e:mt≠x:=λz=>by rw[z,hx]at g;cases g
 have j:=c.sm x _ aV;refine dB x _ dx _ rfl j T.aS T.sT (Ts (TR 5) (by decide)) ?_;refine dB x _ dx _ rfl aV T.aS T.iK (Ts (TR 6) (by decide)) ?_;exact k b mt _ f g nbm (k3.trans (Kp.upd.trans Kp.upd)) (by rw[aV];rfl) (by rw[au a,au a];exact n) (by rw[au e,au e];exact c.at_)
def BO (T:Txt w K mg t):oo P w K mg base "Reader" t.bQ 1 t.rm t.nE ["self", "tongue", "place"] [.int 0] (zF t):=⟨T.NJ,T.Lr,⟨_,T.Qm,.cons ⟨_,rfl⟩ .nil⟩,Kr T⟩
def Go(t:Adr):Sp:=λvs H Q _=>∃(a:Hp) (x dx o b mt:Addr) (D:Kt) (pl:Int) (s:Rs) (l:Nat) (k:Str),vs=[.ref x,.int (l:Int),.str k]/\Hr t a H x dx o b mt D pl s false/\s.f=none/\∀H',Kp mt H H'->Hr t a H' x dx o b mt D pl { s with f:=some (s.c-s.r.length,l,k) } false->Q .non H'
def Np (T:Txt w K mg t):dz P w K mg base t.bQ "note" 1 t.ya t.vo ["self", "length", "kind"] (Go t):=by
 refine⟨T.aS,T.K7,T.Rz,T.Sj.okQ HE (λvs H Q E h=>by obtain⟨y,x,dx,o,b,mt,D,pl,s,l,k,rfl,_⟩:=h;rfl) λ_ _ _ _ H vs Q E B h=>?_⟩;obtain⟨y,x,dx,o,b,mt,D,pl,s,l,j,rfl,d,hf,k⟩:=h;have ft:=d.ft;rw[hf]at ft;have ft:H mt=some (.lst []):=ft;have hx:=d.hx;refine⟨_,(aj (eJ (gq (K:=K) Z Uf UB UC jo (aT (K:=K) Z (aa 0)) (ad (bS (ad (aG dw (aG (Te K) (aT (K:=K) Z (aa 0)) (aT (K:=K) Z (aa 0))) (bq (Th K) T.n_len Tw (ad (aT (K:=K) Z (aa 0)) ae))) (ad (aa 1) (ad (aa 2) ae)))) ae)))),?_⟩;refine bZ x _ dx _ _ Z hx T.aS T.sT Z ?_;refine⟨.inl ⟨rfl,_,.of ft⟩,?_⟩;refine bZ x _ dx _ _ Z hx T.aS T.Bg Z ?_;refine bZ x _ dx _ _ Z hx T.aS T.sU Z ?_;refine bZ x _ dx _ _ Z hx T.aS T.dI Z ?_;refine bc (.inl (.of d.hb)) ?_;refine⟨sz Z,λp v f=>?_⟩;have lc:=d.lc;have q:pl+(s.c:Int)-((s.r.map V.int).length:Int)=pl+((s.c-s.r.length:Nat):Int):=by rw[To];lia
 have g:bA H p (.tup [.int (pl+(s.c:Int)-((s.r.map V.int).length:Int)),.int (l:Int),.str j]) v:=f;rw[q]at g;refine dS (f.sm _ _ ft) (fV (by decide)) ?_;have m:p≠mt:=(ba ft f.nw).symm;have i:x≠mt:=cU hx ft (by intro z;cases z);refine k _ (λa u n e=>by rw[au n];exact f.sm _ _ e) ⟨d.tn,(d.sb.trans f.sm).put d.fm,d.fx,d.fb,d.fm,d.nbm,by rw[au i];exact f.sm _ _ hx,by rw[au d.nbm];exact f.sm _ _ d.hb,⟨p,by rw[aV];rfl,by rw[au m];exact g.at_⟩,d.pg,d.lc⟩
def Gq(t:Adr):Sp:=λvs H Q _=>∃(a:Hp) (x dx o b mt:Addr) (D:Kt) (pl:Int) (s:Rs) (l:Nat) (k:Str),vs=[.ref x,.int (l:Int),.str k]/\Hr t a H x dx o b mt D pl s false/\s.f=none/\∀q H',H q=none->Hr t a H' x dx o b mt D pl { s with f:=some (s.c-s.r.length,l,k) } true->H' q=some (.lst [])->Q (.ref q) H'
def tP (T:Txt w K mg t):dz P w K mg base t.bQ "meet" 2 t.yc t.vq ["self", "length", "kind"] (Gq t):=by
 refine⟨T.aS,T.K9,T.RB,T.Sl.okQ HF (λvs H Q E h=>by obtain⟨G,x,dx,o,b,mt,D,pl,s,l,k,rfl,_⟩:=h;rfl) λ_ _ _ _ H vs Q E B h=>?_⟩;obtain⟨G,x,dx,o,b,mt,D,pl,s,l,v,rfl,C,hf,k⟩:=h;have O:=B.units;refine⟨_,(ah (eJ (fH (Np T) B (aa 0) (ad (aa 1) (ad (aa 2) ae))))
  (ah (dN (K:=K) rfl (aa 0) fG)
  (aj (ap (bh ae))))),?_⟩
 refine cz x dx _ Z C.hx Z ⟨G,x,dx,o,b,mt,D,pl,s,l,v,Z,C,hf,λp k1 d=>?_⟩;refine dB x _ dx _ rfl d.hx T.aS T.iK (Ts (TR 7) (by decide)) ?_;have m:b≠x:=cU d.hb d.hx (by intro z;cases z);refine⟨sz Z,λq N f=>?_⟩;have i:mt≠x:=by obtain⟨xs,e⟩:=d.ft.lst;exact cU e d.hx (by intro z;cases z)
 have L:H q=none:=by
  cases e:H q with
  | none=>rfl
  | some u =>
   by_cases z:q=mt
   ·obtain⟨xs,M⟩:=d.ft.lst;have:upd p x (gQ t dx o b mt pl s.g (s.c:Int) true) mt=some (.lst xs):=by rw[au i];exact M
    have n:=f.nw;rw[z]at n;exact Wx (n.symm.trans this) (by intro z;cases z)
   ·have a:=k1 q u z e;by_cases y:q=x
    ·have n:=f.nw;rw[y]at n;exact Wx (n.symm.trans aV) (by intro z;cases z)
    ·have n:=f.nw;have J:upd p x (gQ t dx o b mt pl s.g (s.c:Int) true) q=some u:=by rw[au y];exact a
     exact Wx (n.symm.trans J) (by intro z;cases z)
 have j:gR (upd p x (gQ t dx o b mt pl s.g (s.c:Int) true)) mt pl (some (s.c-s.r.length,l,v)):=by
  obtain⟨a,I,F⟩:=d.ft;exact⟨a,by rw[au i];exact I,by rw[au (cU F d.hx (by intro z;cases z))];exact F⟩
 exact k q N L ⟨d.tn,(d.sb.put d.fx).trans f.sm,d.fx,d.fb,d.fm,d.nbm,f.sm _ _ aV,f.sm _ _ (by rw[au m];exact d.hb),j.mono f.sm,d.pg,d.lc⟩ f.at_
def gY(D:Kt)(r:e7):Nat × Str:=if r.length-ay D=0 then (r.length, "strange") else (r.length-ay D, "broken")
def Gp(t:Adr):Sp:=λvs H Q _=>∃(a:Hp) (x dx o b mt:Addr) (D:Kt) (pl:Int) (s:Rs),vs=[.ref x]/\Hr t a H x dx o b mt D pl s false/\s.f=none/\ay D<=s.r.length/\∀q H',H q=none->Hr t a H' x dx o b mt D pl { s with f:=some (s.c-s.r.length,gY D s.r) } true->H' q=some (.lst [])->Q (.ref q) H'
def Nq (T:Txt w K mg t):dz P w K mg base t.bQ "meet_none" 3 t.yb t.vp ["self"] (Gp t):=by
 refine⟨T.aS,T.K8,T.RA,T.Sk.okQ Ac (λvs H Q E h=>by obtain⟨p,x,dx,o,b,mt,D,pl,s,rfl,_⟩:=h;rfl) λ_ _ _ _ H vs Q E c h=>?_⟩;obtain⟨p,x,dx,o,b,mt,D,pl,s,rfl,d,hf,v,k⟩:=h;have u:=c.units;have hx:=d.hx;have tn:=d.tn.mono d.sb;refine⟨_,(ah (aM (i:=1) Ac.nd Z (.inl Z) (aG dw (bq (Th K) T.n_len Tw (ad (aT (K:=K) Z (aa 0)) ae)) (cS (eK (B4 T) c (aT (K:=K) Z (aa 0))) (cS (eK (Ci T) c (aT (K:=K) Z (aa 0))) (cS (eK (Cg T) c (aT (K:=K) Z (aa 0))) (cS (eK (B9 T) c (aT (K:=K) Z (aa 0))) (eK (B6 T) c (aT (K:=K) Z (aa 0)))))))))
  (ah (aA (av eT (aa 1) ag (aq _)) (aj (ap (fH (tP T) c (aa 0) (ad (aa 1) (ad aW ae))))) aF)
  (aj (ap (fH (tP T) c (aa 0) (ad (bq (Th K) T.n_len Tw (ad (aT (K:=K) rfl (aa 0)) ae)) (ad aW ae))))))),?_⟩
 refine h9 [some (.ref x),some (.int ((s.r.length:Int)-(ay D:Int)))] (λnx g=>?_) ?_
 ·refine bZ x _ dx _ _ Z hx T.aS T.dI Z ?_;refine bc (.inl (.of d.hb)) ?_;rw[To];cases D with
  | br =>
   obtain⟨a,ho⟩:=id tn;exact .inl ⟨x,_,dx,_,_,Z,hx,T.aS,T.dC,Z,o,a,_,Z,ho,Z,_,Z,g⟩
  | ld =>
   obtain⟨a,ho⟩:=id tn;exact .inr (.inl ⟨x,_,dx,_,_,Z,hx,T.aS,T.dC,Z,o,a,_,Z,ho,Z,_,Z,g⟩)
  | pr h =>
   obtain⟨a,ho⟩:=id tn;exact .inr (.inr (.inl ⟨x,_,dx,_,_,Z,hx,T.aS,T.dC,Z,o,a,_,Z,ho,Z,_,Z,g⟩))
  | sh f ns ms=>exact .inr (.inr (.inr (.inl ⟨x,_,dx,_,_,rfl,hx,T.aS,T.dC,rfl,o,f.dx,_,rfl,Tg.o tn,rfl,_,rfl,g⟩)))
  | tb f es=>exact .inr (.inr (.inr (.inr ⟨x,_,dx,_,_,rfl,hx,T.aS,T.dC,rfl,o,f.dx,_,rfl,tn.1.o,rfl,_,rfl,g⟩)))
 refine ak (λz=>?_) (λz=>?_)
 ·have z:0<(s.r.length:Int)-(ay D:Int):=Wz z;have e:(s.r.length:Int)-(ay D:Int)=((s.r.length-ay D:Nat):Int):=by lia
  rw[e];refine cz x dx _ Z hx Z ⟨p,x,dx,o,b,mt,D,pl,s,s.r.length-ay D, "broken",Z,d,hf,λq j m h' n=>?_⟩;have l:gY D s.r=(s.r.length-ay D,("broken" : Str)):=Wv (by lia);rw[l]at k;exact k q j m h' n
 ·have z:¬0<(s.r.length:Int)-(ay D:Int):=λy=>z (WA y);refine cz x dx _ Z hx Z ?_;refine bZ x _ dx _ _ Z hx T.aS T.dI Z ?_;refine bc (.inl (.of d.hb)) ?_;rw[To];refine⟨p,x,dx,o,b,mt,D,pl,s,s.r.length, "strange",Z,d,hf,λq j m h' n=>?_⟩;have l:gY D s.r=(s.r.length,("strange" : Str)):=Ww (by lia);rw[l]at k;exact k q j m h' n
noncomputable def lS(D:Kt)(s:Rs):Rs × e7:=match aZ D s.g s.r with
 | .sg n g'=>({ s with g:=g',r:=[] },[n])
 | .mo=>(s,[])
 | .no=>({ s with f:=some (s.c-s.r.length,gY D s.r) },[])
def Rp(t:Adr)(a H:Hp)(x dx o mt:Addr)(D:Kt)(pl:Int)(z:Rs × e7)(Q:VK):Prop:=∀q b' H',H q=none->q≠b'->Hr t a H' x dx o b' mt D pl z.1 z.1.f.isSome->H' q=some (.lst (z.2.map V.int))->Q (.ref q) H'
def Gy(t:Adr):Sp:=λvs H Q _=>∃(a:Hp) (x dx o b mt:Addr) (D:Kt) (pl:Int) (s:Rs),vs=[.ref x]/\Hr t a H x dx o b mt D pl s false/\s.f=none/\ay D<=s.r.length/\Dm D s.g s.r/\Rp t a H x dx o mt D pl (lS D s) Q
def Nr (T:Txt w K mg t):dz P w K mg base t.bQ "look_at_begun" 8 t.yd t.vt ["self"] (Gy t):=by
 refine⟨T.aS,T.La,T.RC,T.Sm.okQ Ad (λvs H Q E h=>by obtain⟨M,x,dx,o,b,mt,D,pl,s,rfl,_⟩:=h;rfl) λ_ _ _ _ H vs Q E I h=>?_⟩;obtain⟨M,x,dx,o,b,mt,D,pl,s,rfl,c,hf,lu,N,k⟩:=h;have hu:=I.units;have hx:=c.hx;have tn:=c.tn.mono c.sb;refine⟨_,(ah (aM (i:=1) Ad.nd Z (.inl Z) (cS (db (Nj T) I (aT (K:=K) Z (aa 0)) (ad (aT (K:=K) Z (aa 0)) (ad (aT (K:=K) Z (aa 0)) ae))) (cS (db (NA T) I (aT (K:=K) Z (aa 0)) (ad (aT (K:=K) Z (aa 0)) (ad (aT (K:=K) Z (aa 0)) ae))) (cS (db (Ny T) I (aT (K:=K) Z (aa 0)) (ad (aT (K:=K) Z (aa 0)) (ad (aT (K:=K) Z (aa 0)) ae))) (cS (db (Nn T) I (aT (K:=K) Z (aa 0)) (ad (aT (K:=K) Z (aa 0)) (ad (aT (K:=K) Z (aa 0)) ae))) (db (Nl T) I (aT (K:=K) Z (aa 0)) (ad (aT (K:=K) Z (aa 0)) (ad (aT (K:=K) Z (aa 0)) ae))))))))
  (ah (aA (av (bi (K:=K) rfl hu) (aB (Ti K) (aa 1) ag (λ_ _=>rfl)) aW (aq _)) (aj (ap (bh ae))) aF)
  (ah (aA (av (bi (K:=K) rfl hu) (aB (Ti K) (aa 1) ag (λ_ _=>rfl)) aW (aq _)) (aj (ap (eK (Nq T) I (aa 0)))) aF)
  (ah (dN (K:=K) rfl (aa 0) (bh ae))
  (ah (dN (K:=K) rfl (aa 0) (aB (Ti K) (aa 1) ag (λ_ _=>rfl)))
  (aj (ap (bh (ad (aB (Ti K) (aa 1) ag (λ_ _=>rfl)) ae))))))))),?_⟩
 refine ce (λσ' F=>∃Y,am H F/\F Y=some (.tup (Bu s.g (aZ D s.g s.r)))/\σ'=[some (.ref x),some (.ref Y)]) (λnx l=>?_) ?_
 ·cases D with
  | br =>
   obtain⟨u,ho⟩:=id tn;exact .inl ⟨x,_,dx,_,_,Z,hx,T.aS,T.dC,Z,o,u,_,Z,ho,Z,x,_,dx,_,_,Z,hx,T.aS,T.dI,Z,x,_,dx,_,_,Z,hx,T.aS,T.gJ,Z,o,b,.br,s.g,s.r,Z,tn,c.pg,c.hb,N,λp F v a=>l _ _ ⟨p,v,a,Z⟩⟩
  | ld =>
   obtain⟨u,ho⟩:=id tn;exact .inr (.inl ⟨x,_,dx,_,_,Z,hx,T.aS,T.dC,Z,o,u,_,Z,ho,Z,x,_,dx,_,_,Z,hx,T.aS,T.dI,Z,x,_,dx,_,_,Z,hx,T.aS,T.gJ,Z,o,b,.ld,s.g,s.r,Z,tn,c.pg,c.hb,N,λp F v a=>l _ _ ⟨p,v,a,Z⟩⟩)
  | pr h =>
   obtain⟨u,ho⟩:=id tn;exact .inr (.inr (.inl ⟨x,_,dx,_,_,Z,hx,T.aS,T.dC,Z,o,u,_,Z,ho,Z,x,_,dx,_,_,Z,hx,T.aS,T.dI,Z,x,_,dx,_,_,Z,hx,T.aS,T.gJ,Z,o,b,.pr h,s.g,s.r,Z,tn,c.pg,c.hb,N,λp F v a=>l _ _ ⟨p,v,a,Z⟩⟩))
  | sh f ns ms=>exact .inr (.inr (.inr (.inl ⟨x,_,dx,_,_,rfl,hx,T.aS,T.dC,rfl,o,f.dx,_,rfl,Tg.o tn,rfl,x,_,dx,_,_,rfl,hx,T.aS,T.dI,rfl,x,_,dx,_,_,rfl,hx,T.aS,T.gJ,rfl,o,b,.sh f ns ms,s.g,s.r,rfl,tn,c.pg,c.hb,N,λp F v a=>l _ _ ⟨p,v,a,rfl⟩⟩)))
  | tb f es=>exact .inr (.inr (.inr (.inr ⟨x,_,dx,_,_,rfl,hx,T.aS,T.dC,rfl,o,f.dx,_,rfl,tn.1.o,rfl,x,_,dx,_,_,rfl,hx,T.aS,T.dI,rfl,x,_,dx,_,_,rfl,hx,T.aS,T.gJ,rfl,o,b,.tb f es,s.g,s.r,rfl,tn,c.pg,c.hb,N,λp F v a=>l _ _ ⟨p,v,a,rfl⟩⟩)))
 rintro σ' H1 ⟨Y,s1,a,rfl⟩;have m:=c.grow s1;unfold Rp lS at k;cases el:aZ D s.g s.r with
 | mo =>
  rw[el]at a k;refine aY (.inr (.of a)) (aH (j:=0) Z) ?_;refine ez ?_;refine ak (λ_=>?_) (λe=>Wx (by decide +kernel) e);refine⟨sz Z,λq V d=>k q b V (s1.free d.nw) (ba m.hb d.nw).symm ?_ d.at_⟩;show Hr t M V x dx o b mt D pl s s.f.isSome;rw[hf];exact m.grow d.sm
 | no =>
  rw[el]at a k;refine aY (.inr (.of a)) (aH (j:=0) Z) ?_;refine ez ?_;refine ak (λe=>Wx e (by decide +kernel)) (λ_=>?_);refine aY (.inr (.of a)) (aH (j:=0) Z) ?_;refine ez ?_;refine ak (λ_=>?_) (λe=>Wx (by decide +kernel) e);refine cz x dx _ Z m.hx Z (oI λzq zh=>⟨M,x,dx,o,b,mt,D,pl,s,Z,m,hf,lu,λq V W J hq=>zh _ _ ?_⟩);exact k q b V (s1.free W) (ba m.hb W).symm J hq
 | sg n g' =>
  rw[el]at a k;refine aY (.inr (.of a)) (aH (j:=0) Z) ?_;refine ez ?_;refine ak (λe=>Wx e (by decide +kernel)) (λ_=>?_);refine aY (.inr (.of a)) (aH (j:=0) Z) ?_;refine ez ?_;refine ak (λe=>Wx e (by decide +kernel)) (λ_=>?_);refine⟨sz Z,λb' V d=>?_⟩;have J:=m.grow d.sm;have C:=d.sm _ _ a;have G:Y≠x:=cU C J.hx (by intro z;cases z);have B:b'≠x:=(ba m.hx d.nw).symm;have a3:M b'=none:=m.sb.free d.nw;obtain⟨ys,O⟩:=m.ft.lst;have U:b'≠mt:=(ba O d.nw).symm;have S:mt≠x:=cU O m.hx (by intro z;cases z);refine dB x _ dx _ rfl J.hx T.aS T.dI (Ts (TR 7) (by decide)) ?_;refine aY (.inr (.of (by rw[au G];exact C))) (aH (j:=2) Z) ?_;refine dB x _ dx _ rfl aV T.aS T.gJ (Ts (TR 7) (by decide)) ?_;refine aY (.inr (.of (by rw[au G,au G];exact C))) (aH (j:=1) Z) ?_;refine⟨sz Z,λq H3 L=>?_⟩;have a1:=L.sm b' _ (by rw[au B,au B];exact d.at_);have R:=L.sm mt _ (by rw[au S,au S];exact d.sm _ _ O);have a2:q≠b':=(ba (by rw[au B,au B];exact d.at_) L.nw).symm;have a0:H1 mt=some (.lst []):=by have:=m.ft;rw[hf]at this;exact this
  rw[a0]at O;have ey:ys=[]:=by cases O;rfl
  rw[ey]at R;have a5:am M H3:=((J.sb.put J.fx).put J.fx).trans L.sm;have W:H q=none:=by
   refine s1.free (d.sm.free ?_);have n:=L.nw;by_cases y:q=x
   ·rw[y]at n;exact Wx (n.symm.trans aV) (by intro z;cases z)
   ·rw[au y,au y]at n;exact n
  refine k q b' H3 W a2 ?_ L.at_;show Hr t M H3 x dx o b' mt D pl { s with g:=g',r:=[] } s.f.isSome;rw[hf];refine⟨c.tn,a5,c.fx,a3,c.fm,U,L.sm x _ (by rw[aV];rfl),a1,?_,(tp c.tn.koS c.pg N el).2.2,TJ _⟩;exact R
noncomputable def bT(D:Kt)(s:Rs)(v:Int):Rs × e7:=if (s.r++[v]).length%ay D=0 then lS D { s with r:=s.r++[v],c:=s.c+1 } else ({ s with r:=s.r++[v],c:=s.c+1 },[])
def FW(t:Adr):Sp:=λvs H Q _=>∃(a:Hp) (x dx o b mt:Addr) (D:Kt) (pl:Int) (s:Rs) (v:Int),vs=[.ref x,.int v]/\Hr t a H x dx o b mt D pl s false/\s.f=none/\cn D s.g s.r/\0<=v/\v<=255/\Rp t a H x dx o mt D pl (bT D s v) Q
def No (T:Txt w K mg t):dz P w K mg base t.bQ "take" 9 t.x9 t.vm ["self", "byte"] (FW t):=by
 refine⟨T.aS,T.K6,T.Ry,T.Si.okQ HD (λvs H Q E h=>by obtain⟨I,x,dx,o,b,mt,D,pl,s,v,rfl,_⟩:=h;rfl) λ_ _ _ _ H vs Q E C h=>?_⟩;obtain⟨I,x,dx,o,b,mt,D,pl,s,v,rfl,i,hf,bg,v0,v1,k⟩:=h;have hu:=C.units;have hx:=i.hx;have hb:=i.hb;have l6:=(bg.byts i.pg).2;have L:b≠x:=cU hb hx (by intro z;cases z);refine⟨_,(ah (eJ (gq (K:=K) Z Uf UB UC jo (aT (K:=K) Z (aa 0)) (ad (aa 1) ae)))
  (ah (IJ (K:=K) rfl (aa 0) ag)
  (ah (aA (av (iP (K:=K) rfl hu) (aG m6 (bq (Th K) T.n_len Tw (ad (aT (K:=K) rfl (aa 0)) ae)) (cS (eK (B4 T) C (aT (K:=K) rfl (aa 0))) (cS (eK (Ci T) C (aT (K:=K) rfl (aa 0))) (cS (eK (Cg T) C (aT (K:=K) rfl (aa 0))) (cS (eK (B9 T) C (aT (K:=K) rfl (aa 0))) (eK (B6 T) C (aT (K:=K) rfl (aa 0)))))))) ag (aq _)) (aj (ap (bh ae))) aF)
  (aj (ap (eK (Nr T) C (aa 0))))))),?_⟩
 refine bZ x _ dx _ _ Z hx T.aS T.dI Z ?_;refine⟨.inl ⟨rfl,_,.of hb⟩,?_⟩;refine dS hb (fV (by rw[To];lia)) ?_;obtain⟨F,G⟩:∃F,F=upd H b (.lst (s.r.map V.int++[.int v])):=⟨_,rfl⟩;rw[<- G];have a0:F b=some (.lst ((s.r++[v]).map V.int)):=by rw[G,aV,TZ];rfl
 have J:F x=some (gQ t dx o b mt pl s.g (s.c:Int) false):=by rw[G,au L.symm];exact hx
 refine⟨x,_,dx,_,_,rfl,J,T.aS,T.sU,rfl,_,_,rfl,rfl,dx,_,J,Ts (TR 7) (by decide),?_⟩;obtain⟨j,N⟩:∃j,j=upd F x (gQ t dx o b mt pl s.g ((s.c+1:Nat):Int) false):=⟨_,rfl⟩;have Y:upd F x (.ins t.bQ dx (cG "many" (.int ((s.c:Int)+1)) [("tongue",.ref o),("place",.int pl),("at_page",.int s.g),("begun",.ref b),("many",.int (s.c:Int)),("met",.ref mt),("ended",.bl false)]))=j:=by rw[N];rfl
 rw[Y];have d:j x=some (gQ t dx o b mt pl s.g ((s.c+1:Nat):Int) false):=by rw[N];exact aV
 have n:j b=some (.lst ((s.r++[v]).map V.int)):=by rw[N,au L];exact a0
 have O:am I j:=by rw[N,G];exact (i.sb.put i.fb).put i.fx
 have k2:∀a u,a≠x->a≠b->H a=some u->j a=some u:=λa u na nb e=>by rw[N,au na,G,au nb];exact e
 have W:gR j mt pl s.f:=i.ft.keep k2 hx (by intro z y;cases y) (by intro z y;cases y) hb i.nbm.symm;have M:∀q,j q=none->H q=none:=λq B=>by
  cases e:H q with
  | none=>rfl
  | some u =>
   have:=k2 q u (λz=>by rw[z,d]at B;cases B) (λz=>by rw[z,n]at B;cases B) e;rw[B]at this;cases this
 have ln:(s.r++[v]).length=s.r.length+1:=by rw[Tq];rfl
 have h2:Hr t I j x dx o b mt D pl { s with r:=s.r++[v],c:=s.c+1 } false:=⟨i.tn,O,i.fx,i.fb,i.fm,i.nbm,d,n,W,i.pg,by rw[ln];have:=i.lc;show _<=s.c+1;lia⟩;have tn:=i.tn.mono O;unfold bT at k;dsimp only;refine ce (λσ' H'=>H'=j/\(s.r++[v]).length%ay D=0/\σ'=[some (.ref x),some (.int v)]) (λnx l=>?_) ?_
 ·have S:¬(s.r++[v]).length%ay D=0->∀q p,bA j q (.lst []) p->Q (.ref q) p:=λU q p R=>by
   rw[Wv U]at k;refine k q b p (M q R.nw) (ba n R.nw).symm ?_ R.at_;show Hr t I p x dx o b mt D pl { s with r:=s.r++[v],c:=s.c+1 } s.f.isSome;rw[show s.f.isSome=false by rw[hf];rfl];exact h2.grow R.sm
  refine bZ x _ dx _ _ Z d T.aS T.dI Z ?_;refine bc (.inl (.of n)) ?_;rw[To];cases D with
  | br =>
   obtain⟨m,ho⟩:=id tn;refine .inl ⟨x,_,dx,_,_,Z,d,T.aS,T.dC,Z,o,m,_,Z,ho,Z,_,Z,Vy,?_⟩;exact ak (λz=>Wx z (by simp)) (λ_=>l _ _ ⟨rfl,Ur _,rfl⟩)
  | ld =>
   obtain⟨m,ho⟩:=id tn;refine .inr (.inl ⟨x,_,dx,_,_,Z,d,T.aS,T.dC,Z,o,m,_,Z,ho,Z,_,Z,Vy,?_⟩);exact ak (λz=>Wx z (by simp)) (λ_=>l _ _ ⟨rfl,Ur _,rfl⟩)
  | pr h =>
   obtain⟨m,ho⟩:=id tn;refine .inr (.inr (.inl ⟨x,_,dx,_,_,rfl,d,T.aS,T.dC,rfl,o,m,_,rfl,ho,rfl,_,rfl,(show (0:Int)<2 by decide),?_⟩));refine ak (λz=>?_) (λz=>?_)
   ·have z:(!decide ((((s.r++[v]).length:Nat):Int)%2=0))=true:=z;refine⟨sz Z,S (λy=>?_)⟩;have y:(s.r++[v]).length%2=0:=y;rw[WA (by lia)]at z;cases z
   ·refine l _ _ ⟨rfl,?_,rfl⟩;have z:¬(!decide ((((s.r++[v]).length:Nat):Int)%2=0))=true:=z;show (s.r++[v]).length%2=0;rcases Nat.mod_two_eq_zero_or_one (s.r++[v]).length with y|y
    ·exact y
    ·exact Wx (by rw[WB (by lia)];rfl) z
  | sh f ns ms =>
   refine .inr (.inr (.inr (.inl ⟨x,_,dx,_,_,Z,d,T.aS,T.dC,Z,o,f.dx,_,Z,Tg.o tn,Z,_,Z,Vy,?_⟩)));exact ak (λz=>Wx z (by simp)) (λ_=>l _ _ ⟨rfl,Ur _,rfl⟩)
  | tb f es =>
   refine .inr (.inr (.inr (.inr ⟨x,_,dx,_,_,Z,d,T.aS,T.dC,Z,o,f.dx,_,Z,tn.1.o,Z,_,Z,Vy,?_⟩)));exact ak (λz=>Wx z (by simp)) (λ_=>l _ _ ⟨rfl,Ur _,rfl⟩)
 rintro σ' H' ⟨rfl,ev,rfl⟩;have a6:=jF D;have lu:ay D<=(s.r++[v]).length:=by
  rcases UA (s.r++[v]).length (ay D) with z|z
  ·rw[VW z]at ev;lia
  ·exact z
 rw[Ww ev]at k;exact⟨x,dx,_,Z,d,Z,I,x,dx,o,b,mt,D,pl,_,Z,h2,hf,lu,qw bg v0 v1,λq b' p B=>k q b' p (M q B)⟩
noncomputable def aU(D:Kt):Rs->e7->Rs × e7
 | s,[]=>(s,[])
 | s,v::ws=>if s.f.isSome=true then (s,[]) else ((aU D (bT D s v).1 ws).1,(bT D s v).2++(aU D (bT D s v).1 ws).2)
def jn(D:Kt){s:Rs}(h:s.f.isSome=true)(a:e7):aU D s a=(s,[]):=by
 cases a with
 | nil=>rfl
 | cons v a=>exact Ww h
def lN(D:Kt){s:Rs}(h:s.f=none)(v:Int)(a:e7):aU D s (v::a)=((aU D (bT D s v).1 a).1,(bT D s v).2++(aU D (bT D s v).1 a).2):=Wv (by rw[h];decide)
theorem mP(D:Kt):∀(xs a:e7) (s:Rs),aU D s (xs++a)=((aU D (aU D s xs).1 a).1,(aU D s xs).2++(aU D (aU D s xs).1 a).2)
 | [],a,s=>by simp[aU]
 | v::xs,a,s=>by
  by_cases h:s.f.isSome=true
  ·rw[jn D h,jn D h,jn D h];rfl
  ·have b:s.f=none:=by cases e:s.f with|none=>rfl|some _=>rw[e]at h;exact Wx Z h
   rw[VD,lN D b,lN D b,mP D xs];simp[T8]
def FN{D:Kt}{s:Rs}{v:Int}(hs:s.f=none)(h:(bT D s v).1.f=none):gC D s.g s.r (s.c+1) v=((bT D s v).1.g,(bT D s v).1.r,(bT D s v).2.map Ev.sg):=by
 unfold bT at h ⊢;unfold gC;by_cases c:(s.r++[v]).length%ay D=0
 ·rw[Ww c]at h ⊢;rw[Ww c];unfold lS at h ⊢;unfold iL tu;dsimp only at h ⊢;cases e:aZ D s.g (s.r++[v]) with
  | no=>rw[e]at h;cases h
  | mo=>dsimp only;split<;>rfl
  | sg n g'=>dsimp only;split<;>rfl
 ·rw[Wv c,Wv c];rfl
def AH(D:Kt)(s:Rs)(v:Int):(bT D s v).2.length<=1:=by
 unfold bT lS
 split
 ·cases aZ D { s with r:=s.r++[v],c:=s.c+1 }.g { s with r:=s.r++[v],c:=s.c+1 }.r<;>simp
 ·simp
def AG{D:Kt}{s:Rs}{v:Int}(ok:cP D)(hs:s.f=none)(pg:cu D s.g)(bg:cn D s.g s.r)(d:0<=v)(e:v<=255):(bT D s v).1.f=none->cu D (bT D s v).1.g/\cn D (bT D s v).1.g (bT D s v).1.r:=λh=>by
 obtain⟨a,b,_⟩:=NB (s.c+1) ok pg bg d e;rw[FN hs h]at a b;exact⟨a,b⟩
theorem AI{D:Kt}(ok:cP D):∀(c:e7) (s:Rs),s.f=none->cu D s.g->cn D s.g s.r->bj c->(aU D s c).1.f=none->cu D (aU D s c).1.g/\cn D (aU D s c).1.g (aU D s c).1.r
 | [],s,_,pg,bg,_,_=>⟨pg,bg⟩
 | v::c,s,hs,pg,bg,hw,h=>by
  rw[lN D hs]at h ⊢;have d:=hw v (TV ..);cases e:(bT D s v).1.f with
  | some z=>rw[jn D (by rw[e];rfl)]at h;rw[e]at h;cases h
  | none =>
   obtain⟨a,b⟩:=AG ok hs pg bg d.1 d.2 e;exact AI ok c _ e a b (λx hx=>hw x (TW _ hx)) h
theorem sN(D:Kt):∀(a:e7) (s:Rs),(aU D s a).2.length<=a.length
 | [],s=>Tp _
 | v::a,s=>by
  by_cases h:s.f.isSome=true
  ·rw[jn D h];exact TJ _
  ·have b:s.f=none:=by cases e:s.f with|none=>rfl|some _=>rw[e]at h;exact Wx Z h
   rw[lN D b,Tq,TX];have:=sN D a (bT D s v).1;have:=AH D s v;lia
def GE(K:PySem.W.Frag)(t:Adr):Sp:=λvs H Q _=>∃(d:Hp) (x dx o b mt a:Addr) (D:Kt) (pl:Int) (s:Rs) (e:Bool) (c:e7),vs=[.ref x,.ref a]/\Hr t d H x dx o b mt D pl s e/\aE K d a (c.map V.int)/\bj c/\c.length<=1000 /\
 (e=true->∀q H',H q=none->Hr t d H' x dx o b mt D pl s true->H' q=some (.lst [])->Q (.ref q) H')/\(e=false->s.f=none/\cn D s.g s.r/\Rp t d H x dx o mt D pl (aU D s c) Q)
def Cd (T:Txt w K mg t):dz P w K mg base t.bQ "feed" 10 t.ye t.vw ["self", "row"] (GE K t):=by
 refine⟨T.aS,T.Lb,T.RD,T.So.okQ sE (λvs H Q E h=>by obtain⟨M,x,dx,o,b,mt,a,D,pl,s,e,c,rfl,_⟩:=h;rfl) λ_ _ _ _ H vs Q E hr h=>?_⟩;obtain⟨M,x,dx,o,b,mt,a,D,pl,s,e,c,rfl,I,ha,U,lw,ke,kf⟩:=h;have hu:=hr.units;refine⟨_,(ah (aM (i:=2) sE.nd Z (.inl Z) (bh ae))
  (ah (aA (gu (K:=K) rfl (aT (K:=K) rfl (aa 0))) (aj (ap (aa 2))) aF)
  (ah (eI PassesOwn.never rfl (fF (K:=K) rfl (aa 1)) (bn (i:=3) sE.nd rfl (.inl rfl)) (ah (eJ (gq (K:=K) rfl Uf PySem.F.slot_list_extend PySem.F.type_list_extend (Lx (K:=K) rfl) (aa 2) (ad (fH (No T) hr (aa 0) (ad (aa 3) ae)) ae)))
  (aj (aA (gu (K:=K) rfl (aT (K:=K) rfl (aa 0))) (aj Iy) aF))))
  (aj (ap (aa 2)))))),?_⟩
 refine⟨sz Z,λq H1 m=>?_⟩;have h1:=I.grow m.sm;have fq:M q=none:=I.sb.free m.nw;have L:q≠x:=(ba I.hx m.nw).symm;obtain⟨ms,em⟩:=I.ft.lst;have r:q≠mt:=(ba em m.nw).symm;refine bZ x _ dx _ _ Z h1.hx T.aS T.iK Z ?_;cases e with
 | true=>exact ke rfl q H1 m.nw h1 m.at_
 | false =>
  obtain⟨hf,bg,k⟩:=kf rfl;have ok:=I.tn.koS;have J:∀b' B,q≠b'->Hr t M B x dx o b' mt D pl (aU D s c).1 (aU D s c).1.f.isSome->B q=some (.lst ((aU D s c).2.map V.int))->Q (.ref q) B:=λb' B=>k q b' B m.nw;refine⟨a,Z,⟨_,h1.sb.seq ha⟩,l7 (K:=K) (a:=a) (xs:=c.map V.int) (λi σ B=>∃(b':Addr) (v3:Option V),(aU D s (c.take i)).1.f=none/\Hr t M B x dx o b' mt D pl (aU D s (c.take i)).1 false/\q≠b'/\B q=some (.lst ((aU D s (c.take i)).2.map V.int))/\σ=[some (.ref x),some (.ref a),some (.ref q),v3])
   ⟨b,_,hf,h1,(ba I.hb m.nw).symm,m.at_,rfl⟩ (λi σ B _ z=>by obtain⟨b',v3,_,h',_⟩:=z;exact h'.sb.seq ha) ?_ ?_⟩
  ·rintro i v σ O hv ⟨b',v3,N,C,n,g,rfl⟩;obtain⟨y,hy,rfl⟩:=dY hv;have hi:i<c.length:=(Tz.mp hy).1;have G:=U y (TY hy);obtain⟨aq,a5⟩:=AI ok (c.take i) s hf I.pg bg (λz hz=>U z (Um hz)) N;have j:aU D s (c.take (i+1))=((bT D (aU D s (c.take i)).1 y).1,(aU D s (c.take i)).2++(bT D (aU D s (c.take i)).1 y).2):=by
    rw[fA hy,mP,lN D N];simp[aU]
   refine⟨.inl ⟨rfl,_,.of g⟩,?_⟩;refine cz x dx _ Z C.hx Z ⟨wo O [x,b',mt],x,dx,o,b',mt,D,pl,_,y,Z,C.side,N,a5,G.1,G.2,λq2 b2 H4 ar ab h4 a7=>?_⟩;have R:=h4.sb _ _ (rW L n r g);have ll:=sN D (c.take i) s;rw[TyZ]at ll;have l1:=AH D (aU D s (c.take i)).1 y;refine fU R a7 (cD (by rw[To,To];lia)) ?_;have l:b2≠q:=λz=>by
    have:=rW (H:=O) L n r g;have S:=h4.fb;rw[z]at S;rw[S]at this;cases this
   have sw:am M (wo O [x,b',mt]):=rT C.sb C.fx C.fb C.fm;have d:=h4.back sw I.tn;have h5:Hr t M (upd H4 q (.lst ((aU D s (c.take i)).2.map V.int++(bT D (aU D s (c.take i)).1 y).2.map V.int))) x dx o b2 mt D pl (bT D (aU D s (c.take i)).1 y).1 (bT D (aU D s (c.take i)).1 y).1.f.isSome:=by
    refine⟨d.tn,d.sb.put fq,d.fx,d.fb,d.fm,d.nbm,by rw[au L.symm];exact d.hx,by rw[au l];exact d.hb,?_,d.pg,d.lc⟩;have ft:=d.ft;cases ef:(bT D (aU D s (c.take i)).1 y).1.f with
    | none=>rw[ef]at ft;show upd _ _ _ _=_;rw[au r.symm];exact ft
    | some z =>
     rw[ef]at ft;obtain⟨p,e1,e2⟩:=ft;exact⟨p,by rw[au r.symm];exact e1,by rw[au (cU e2 R (by intro z;cases z))];exact e2⟩
   have Y:upd H4 q (.lst ((aU D s (c.take i)).2.map V.int++(bT D (aU D s (c.take i)).1 y).2.map V.int)) q=some (.lst ((aU D s (c.take (i+1))).2.map V.int)):=by rw[aV,j,TZ]
   refine bZ x _ dx _ _ Z h5.hx T.aS T.iK Z ?_;refine ak (λz=>?_) (λz=>?_)
   ·have ew:aU D s c=aU D s (c.take (i+1)):=by
     have:aU D s c=aU D s (c.take (i+1)++c.drop (i+1)):=by rw[UQ]
     rw[this,mP];rw[jn D (by rw[j];exact z)];simp
    rw[ew]at J;refine J b2 _ l.symm ?_ Y;rw[j];exact h5
   ·have z':(bT D (aU D s (c.take i)).1 y).1.f=none:=by
     cases ef:(bT D (aU D s (c.take i)).1 y).1.f with
     | none=>rfl
     | some u=>rw[ef]at z;exact Wx Z z
    have W:=h5;rw[z']at W;refine⟨b2,_,by rw[j];exact z',?_,l.symm,Y,Z⟩;rw[j];exact W
  ·rintro σ O ⟨b',v3,N,C,n,g,rfl⟩;rw[To,TK]at N C g;refine J b' O n ?_ g;rw[N];exact C
def nM(s:Rs):Rs:=if s.r=[] then s else { s with f:=some (s.c-s.r.length,s.r.length, "short") }
def Hr.over{j H:Hp}{x dx o b mt:Addr}{D:Kt}{pl:Int}{s:Rs}{e:Bool}(h:Hr t j H x dx o b mt D pl s e):Hr t j (upd H x (gQ t dx o b mt pl s.g (s.c:Int) true)) x dx o b mt D pl s true:=by
 have d:b≠x:=cU h.hb h.hx (by intro z;cases z);refine⟨h.tn,h.sb.put h.fx,h.fx,h.fb,h.fm,h.nbm,aV,by rw[au d];exact h.hb,?_,h.pg,h.lc⟩;have ft:=h.ft;obtain⟨ms,k⟩:=ft.lst;have a:mt≠x:=cU k h.hx (by intro z;cases z);cases ef:s.f with
 | none=>rw[ef]at ft;show upd _ _ _ _=_;rw[au a];exact ft
 | some z =>
  rw[ef]at ft;obtain⟨p,l,i⟩:=ft;exact⟨p,by rw[au a];exact l,by rw[au (cU i h.hx (by intro z;cases z))];exact i⟩
def GH(t:Adr):Sp:=λvs H Q _=>∃(a:Hp) (x dx o b mt:Addr) (D:Kt) (pl:Int) (s:Rs) (e:Bool),vs=[.ref x]/\Hr t a H x dx o b mt D pl s e/\(e=false->s.f=none)/\∀q H',H q=none->Hr t a H' x dx o b mt D pl (if e=true then s else nM s) true->H' q=some (.lst [])->Q (.ref q) H'
def Nu (T:Txt w K mg t):dz P w K mg base t.bQ "end" 3 t.yh t.vz ["self"] (GH t):=by
 refine⟨T.aS,T.Le,T.RG,T.Ss.okQ Ae (λvs H Q E h=>by obtain⟨u,x,dx,o,b,mt,D,pl,s,e,rfl,_⟩:=h;rfl) λ_ _ _ _ H vs Q E l h=>?_⟩;obtain⟨u,x,dx,o,b,mt,D,pl,s,e,rfl,d,hf,k⟩:=h;have B:=l.units;have hx:=d.hx;refine⟨_,(ah (aA (gu (K:=K) Z (aT (K:=K) Z (aa 0))) (aj (ap (bh ae))) aF)
  (ah (aM (i:=1) Ae.nd rfl (.inl rfl) (ie (gu (K:=K) rfl (aT (K:=K) rfl (aa 0))) (fH (tP T) l (aa 0) (ad (bq (Th K) T.n_len Tw (ad (aT (K:=K) rfl (aa 0)) ae)) (ad aW ae))) (bh ae)))
  (ah (dN (K:=K) rfl (aa 0) fG)
  (aj (ap (aa 1)))))),?_⟩
 refine bZ x _ dx _ _ Z hx T.aS T.iK Z ?_;cases e with
 | true=>exact⟨sz rfl,λp j a=>k p j a.nw (d.grow a.sm) a.at_⟩
 | false =>
  have hf:=hf rfl;rw[Wv TC]at k;refine⟨x,_,dx,_,_,Z,hx,T.aS,T.dI,Z,_,.inl (.of d.hb),?_⟩;unfold nM at k;by_cases c:s.r=[]
  ·rw[Ww c]at k;have g:s.r.map V.int=[]:=by rw[c];rfl
   rw[g];refine⟨sz Z,λp j a=>?_⟩;have f:=d.grow a.sm;refine dB x _ dx _ rfl f.hx T.aS T.iK (Ts (TR 7) (by decide)) ?_;exact k p _ a.nw f.over (by rw[au (ba hx a.nw).symm];exact a.at_)
  ·rw[Wv c]at k;obtain⟨v,m,g⟩:∃v m,s.r.map V.int=v::m:=by
    cases e:s.r with
    | nil=>exact Wx e c
    | cons y ys=>exact⟨_,_,rfl⟩
   rw[g];refine cz x dx _ Z hx Z ?_;refine bZ x _ dx _ _ Z hx T.aS T.dI Z ?_;refine bc (.inl (.of d.hb)) ?_;rw[To];refine⟨u,x,dx,o,b,mt,D,pl,s,s.r.length, "short",Z,d,hf,λq j n f z=>?_⟩;refine dB x _ dx _ rfl f.hx T.aS T.iK (Ts (TR 7) (by decide)) ?_;exact k q _ n f.over (by rw[au (ba hx n).symm];exact z)
def GC(t:Adr):Sp:=λvs H Q _=>∃(x dx o b mt:Addr) (pl g c:Int) (e:Bool) (xs:List V),vs=[.ref x]/\H x=some (gQ t dx o b mt pl g c e)/\H mt=some (.lst xs)/\∀p H',bA H p (.lst xs) H'->Q (.ref p) H'
def Ce (T:Txt w K mg t):dz P w K mg base t.bQ "faults" 1 t.yf t.vx ["self"] (GC t):=by
 refine⟨T.aS,T.Lc,T.RE,T.Sq.okQ HH (λvs H Q E h=>by obtain⟨x,dx,o,b,mt,pl,g,c,e,xs,rfl,_⟩:=h;rfl) λ_ _ _ _ H vs Q E d h=>?_⟩;obtain⟨x,dx,o,b,mt,pl,g,c,e,xs,rfl,hx,a,k⟩:=h;refine⟨_,(aj (ap (cr (Tk K) T.n_list T5 (ad (aT (K:=K) Z (aa 0)) ae)))),?_⟩;refine bZ x _ dx _ _ Z hx T.aS T.sT Z ?_;exact⟨_,.inl (.of a),k⟩
def ci:Rs:=⟨0,[],0,none⟩
def BN{a c:Hp}{x dx o b mt:Addr}{D:Kt}{pl:Int}(tn:TN t a o D)(s1:am a c)(fx:a x=none)(fb:a b=none)(fm:a mt=none)(nbm:b≠mt)(hx:c x=some (gQ t dx o b mt pl 0 0 false))(hb:c b=some (.lst []))(d:c mt=some (.lst [])):Hr t a c x dx o b mt D pl ci false:=⟨tn,s1,fx,fb,fm,nbm,hx,hb,d,o7 D,Tp _⟩
def GJ(C:Addr)(names:List Str):Sp:=λvs H Q _=>∃e us,vs=.ref e::us/\us.length=names.length/\H e=some (XN e C none)/\∀d0 H',H' e=some (XN e C (some d0))->H' d0=some (.xd (names.zip us))->(∀b o,b≠e->H b=some o->H' b=some o)->Q .non H'
def MG (T:Txt w K mg t):DA P w K mg base "Faulty" t.d6 1 t.rD t.vD ["self", "place", "length", "kind"] (GJ t.d6 ["place", "length", "kind"]):=by
 refine⟨T.lX,⟨T.jx,T.nP,T.nO,T.nN⟩,T.RP,T.SC.okQ HP (λvs H Q E h=>by obtain⟨e,us,rfl,g,_⟩:=h;rw[TX,g];rfl) λ_ _ _ _ H vs Q E j h=>?_⟩;obtain⟨e,us,rfl,g,hx,k⟩:=h;obtain⟨f,c,d,rfl⟩:∃f c d,us=[f,c,d]:=match us,g with|[f,c,d],_=>⟨f,c,d,rfl⟩
 have S:yn K t.d6:=⟨T.jx,T.oy,T.nL⟩;refine⟨_,(ah (eJ (IN (K:=K) Z ⟨T.eb_0,T.eb_1,T.eb_2⟩ T.m5 (ad (aa 0) (ad aW ae))))
  (ah (sJ (K:=K) rfl (aa 0) (aa 1))
  (ah (sJ (K:=K) rfl (aa 0) (aa 2))
  (aj (sJ (K:=K) rfl (aa 0) (aa 3)))))),?_⟩
 refine⟨TQ Z,_,_,hx,T.jx,?_⟩;refine⟨e,_,_,rfl,hx,S,T.en_Faulty_place,λ_ d0 hd a=>?_,(λd0 z=>by cases z)⟩;refine⟨e,_,_,rfl,aV,S,T.en_Faulty_length,(λz=>by cases z),λd1 z=>?_⟩;cases z;refine dS (by rw[au a];exact aV) (Ts (TR _) (TQ Z)) ?_;refine⟨e,_,_,rfl,(by rw[au (Ne.symm a)];exact aV),S,T.en_Faulty_kind,(λz=>by cases z),λd1 z=>?_⟩;cases z;refine dS aV (Ts (TR _) (TQ Z)) ?_;refine k d0 _ ?_ ?_ (λb o i q=>?_)
 ·simp only [au (Ne.symm a),aV]
 ·first|exact aV|(simp only [au a,aV];rfl)
 ·have nd:b≠d0:=ba q hd;simp only [au i,au nd];exact q
noncomputable def eZ(D:Kt)(row:e7):Rs:=if (aU D ci row).1.f.isSome=true then (aU D ci row).1 else nM (aU D ci row).1
def Gh(K:PySem.W.Frag)(t:Adr)(C:Addr):Sp:=λvs H Q E=>∃(o a:Addr) (D:Kt) (row:e7),vs=[.ref o,.ref a]/\TN t H o D/\aE K H a (row.map V.int)/\bj row/\row.length<=1000 /\
 ((eZ D row).f=none->∀q H',am H H'->H q=none->H' q=some (.lst ((aU D ci row).2.map V.int))->Q (.ref q) H') /\
 (∀p l k,(eZ D row).f=some (p,l,k)->∀e d0 H',am H H'->H' e=some (XO e C (some d0))->H' d0=some (.xd [("place",.int (p:Int)),("length",.int (l:Int)),("kind",.str k)])->E (.ref C) (some e) H')
def Mx (T:Txt w K mg t):Dz P w K mg base "read" 12 t.xD t.uN ["tongue", "row"] [] (Gh K t t.d6):=by
 refine⟨T.Oi,T.D4.kp,⟨_,T.QX,.nil⟩,T.D4.okX oS (λvs H Q E h=>by obtain⟨o,a,D,row,rfl,_⟩:=h;rfl) λ_ _ _ _ H vs Q E m h=>?_⟩;obtain⟨o,a,D,row,rfl,tn,ha,hb,lr,kq,ke⟩:=h;have hu:=m.units;refine⟨_,(ah (aM (i:=2) oS.nd Z (.inl Z) (mO (BO T) m (ad (aa 0) ae)))
  (ah (aM (i:=3) oS.nd rfl (.inl rfl) (fH (Cd T) m (aa 2) (ad (aa 1) ae)))
  (ah (eJ (eK (Nu T) m (aa 2)))
  (ah (aA (gu (K:=K) rfl (eK (Ce T) m (aa 2))) (ah (aM (i:=4) oS.nd rfl (.inl rfl) (aB (Ti K) (eK (Ce T) m (aa 2)) ag (λ_ _=>rfl)))
  (aj (Iw (Es:=λ_=>E) (MG T) m rfl LW (ad (aB (Ti K) (aa 4) ag (λ_ _=>rfl)) (ad (aB (Ti K) (aa 4) ag (λ_ _=>rfl)) (ad (aB (Ti K) (aa 4) ag (λ_ _=>rfl)) ae)))))) aF)
  (aj (ap (aa 3))))))),?_⟩
 refine λx dx hx F a5=>?_;have sm:=iH (C:=t.bQ) hx F;refine⟨x,dx,o,0,rfl,aV,λb mt H1 r nm nbm k1 k V p=>⟨rfl,?_⟩⟩;have s1:am H H1:=λa u e=>k1 a u (ba e hx) (sm a u e);have h1:=BN (pl:=0) tn s1 hx (sm.free r) (sm.free nm) nbm k V p;refine cz x dx _ rfl k rfl ⟨H,x,dx,o,b,mt,a,D,0,ci,false,row,rfl,h1,ha,hb,lr,(λz=>nomatch z),λ_=>⟨rfl,cn.nil _ _,λq b' B N G n hq=>?_⟩⟩;have U:q≠x:=(ba k N).symm;have J:q≠mt:=(ba p N).symm;have O:=rW (H:=B) U G J hq;have sw:am H (wo B [x,b',mt]):=rT n.sb n.fx n.fb n.fm;dsimp only [bP];refine ce (λY H'=>Hr t (wo B [x,b',mt]) H' x dx o b' mt D 0 (eZ D row) true/\Y=[some (.ref o),some (.ref a),some (.ref x),some (.ref q),none]) (λnx hn=>?_) ?_
 ·refine⟨x,dx,_,Z,n.hx,Z,wo B [x,b',mt],x,dx,o,b',mt,D,0,_,_,Z,n.side,λz=>?_,λq3 M an c _=>hn _ _ ⟨c,Z⟩⟩;cases ef:(aU D ci row).1.f with
  | none=>rfl
  | some u=>rw[ef]at z;cases z
 rintro Y M ⟨c,rfl⟩;have S:=c.sb _ _ O;have v:am H M:=sw.trans c.sb;have fq:H q=none:=s1.free N;cases ef:(eZ D row).f with
 | none =>
  have ft:=c.ft;rw[ef]at ft;have ft:M mt=some (.lst []):=ft;refine cz x dx _ Z c.hx Z (oI λzq s=>⟨x,dx,o,b',mt,0,_,_,true,_,Z,c.hx,ft,λp4 H4 g=>s _ _ ?_⟩);refine bc (.inl g.lst) ?_;exact kq ef q H4 (v.trans g.sm) fq (g.sm _ _ S)
 | some z =>
  obtain⟨pp,l,kd⟩:=z;have ft:=c.ft;rw[ef]at ft;obtain⟨fa,ft,I⟩:=ft;refine cz x dx _ Z c.hx Z (oI λzq s=>⟨x,dx,o,b',mt,0,_,_,true,_,Z,c.hx,ft,λp4 H4 g=>s _ _ ?_⟩);refine bc (.inl g.lst) ?_;refine cz x dx _ Z (g.sm _ _ c.hx) Z (oI λzq s=>⟨x,dx,o,b',mt,0,_,_,true,_,Z,g.sm _ _ c.hx,g.sm _ _ ft,λp5 H5 L=>s _ _ ?_⟩);refine bo _ (.ref fa) (.inl L.lst) (aH (j:=0) Z) ?_;have d:=L.sm _ _ (g.sm _ _ I);refine bo _ (.int ((0:Int)+(pp:Int))) (.inr (.of d)) (aH (j:=0) Z) ?_;refine bo _ (.int (l:Int)) (.inr (.of d)) (aH (j:=1) Z) ?_;refine bo _ (.str kd) (.inr (.of d)) (aH (j:=2) Z) ?_;have R:=v.trans (g.sm.trans L.sm);refine⟨TQ rfl,λe he=>⟨e,_,rfl,rfl,aV,λd0 H' W y z1=>⟨rfl,e,some d0,rfl,W,?_⟩⟩⟩;have ne:d0≠e:=λz=>by rw[z,W]at y;cases y
  refine ke pp l kd ef e d0 _ (λb o q=>?_) aV ?_
  ·have q2:=R _ _ q;have r:=ba q2 he;rw[au r];exact z1 b o r (by rw[au r];exact q2)
  ·rw[au ne];rw[show ((0:Int)+(pp:Int))=(pp:Int) by lia]at y;exact y
end
end My
namespace My
open PySem L2
def tq{D:Kt}{g n:Int}{m:Nat}(ok:cP D)(pg:cu D g)(j:dJ D n)(C:1<=m)(i:m<=(bM D g n).1.length)(v:m%ay D=0):aZ D g ((bM D g n).1.take m)=if m=(bM D g n).1.length then .sg n (bM D g n).2 else .mo:=by
 cases D with
 | br=>exact j.elim
 | ld =>
  have i:m<=(row n).length:=i;show aZ .ld g ((row n).take m)=if m=(row n).length then .sg n g else .mo
  obtain⟨a,b⟩:=HY j;dsimp only [aZ];rcases UA m (row n).length with z|z
  ·obtain⟨c,d⟩:=ET a C z;rw[Wv d,Ww c,Wv (by lia)]
  ·obtain rfl:m=(row n).length:=by lia
   rw[TK,Ww a,Ww rfl,b]
 | pr h =>
  have i:m<=(cT h n).length:=i;have v:m%2=0:=v;show aZ (.pr h) g ((cT h n).take m)=if m=(cT h n).length then .sg n g else .mo
  have l:=o0 h n;dsimp only [aZ];rcases UA m (cT h n).length with z|z
  ·have c:¬n<65536:=λc=>by rw[Ww c]at l;lia
   rw[Wv c]at l;have e:m=2:=by lia
   obtain⟨u,s,y,u2⟩:=Jo h j c;rw[e,s,MF h y u2];dsimp only;rw[Wv (BQ h y u2),Wv (by lia)]
  ·obtain rfl:m=(cT h n).length:=by lia
   rw[TK,EV h j,Ww rfl]
 | sh f ns ms =>
  have two:cJ g:=pg;obtain⟨r,g',e,_,F⟩:=su two j;rw[oJ e]at i ⊢;have lP:=(jN (g:=g) ok.1 ok.2).2.2;dsimp only [aZ]at i ⊢;rcases F with ⟨b,rfl,b0,hb,rfl⟩|⟨c,rfl,c0,hc,hnp,rfl⟩
  ·obtain rfl:m=1:=by simp at i;lia
   have p:cQ (ai g' ns ms) (ai g' ms ns) g' [b]=some (n,g'):=by show Option.map _ _=_;rw[hb];rfl
   show (match cQ (ai g' ns ms) (ai g' ms ns) g' [b] with|some (n,g')=>Lk.sg n g'|none=>_)=_;rw[p];rfl
  ·have i:m<=2:=i;rcases (show m=1\/m=2 by lia) with rfl|rfl
   ·have k:c.toNat∈fw (ai g ms ns) (ai g ns ms):=pI.mpr ⟨n,hc,hnp⟩;have hw:cQ (ai g ns ms) (ai g ms ns) g [254+(1-g)]=none:=by
     show Option.map _ _=_;rw[Uz (by rcases two with rfl|rfl<;>lia)]
     rfl
    have hf:eU (ai g ns ms) (ai g ms ns) g [254+(1-g)]=true:=by
     cases ea:fw (ai g ms ns) (ai g ns ms) with
     | nil=>rw[ea]at k;cases k
     | cons b bJ =>
      have q:cw (ai g ms ns) (ai g ns ms) g=[254+(1-g),(b:Int)]:=by unfold cw;rw[ea];rfl
      unfold eU;rw[hw,q];simp[cN]
    show (match cQ (ai g ns ms) (ai g ms ns) g [254+(1-g)] with|some (n,g')=>Lk.sg n g'|none=>if eU (ai g ns ms) (ai g ms ns) g [254+(1-g)]=true then .mo else .no)=_;rw[hw,hf];rfl
   ·have p:cQ (ai g ns ms) (ai g ms ns) g [254+(1-g),c]=some (n,1-g):=by
     show (match (ai g ms ns)[c.toNat]? with|some n=>if n∈ai g ns ms then none else some (n,1-g)|none=>none)=_;rw[hc];dsimp only;rw[Wv hnp]
    show (match cQ (ai g ns ms) (ai g ms ns) g [254+(1-g),c] with|some (n,g')=>Lk.sg n g'|none=>_)=_;rw[p];rfl
 | tb f es =>
  obtain⟨e,o,B,I⟩:=ju j;have es':bM (.tb f es) g n=(e.2,g):=by
   show (Option.map _ _).getD _=_;rw[I];rfl
  rw[es']at i ⊢;dsimp only [aZ]at i ⊢;rcases UA m e.2.length with z|z
  ·rw[show (es.find? λx=>decide (x.2=e.2.take m))=none from Ue.mpr λx hx G=>by
    have:=(y4 ok hx o i (by simpa using G)).2;lia]
   dsimp only;rw[Ww ⟨e,o,m,i,rfl⟩,Wv (by lia)]
  ·obtain rfl:m=e.2.length:=by lia
   rw[TK,Ww rfl];cases ex:es.find? λx=>decide (x.2=e.2) with
   | none=>exact Wx (WA rfl) (Ue.mp ex e o)
   | some x =>
    have hx:=UR ex;have s:x.2=e.2:=by simpa using Ux ex
    have:=(y4 ok hx o (Tp _) (by rw[TK];exact s)).1;rw[this,<- B]
def zy{D:Kt}{g n:Int}:(bM D g n).1.length%ay D=0:=by
 cases D with
 | pr h=>show (cT h n).length%2=0;rw[o0];split<;>rfl
 | _=>exact Ur _
structure Rd (D:Kt) (ts r:e7):Prop where
 e:aU D ci ((aw D 0 ts).1++r)=(⟨(aw D 0 ts).2,r,((aw D 0 ts).1++r).length,none⟩,ts)
 i:∀n∈ts,dJ D n
 pg:cu D (aw D 0 ts).2
 bg:cn D (aw D 0 ts).2 r
 mo:eX D (aw D 0 ts).2 r
def cg(D:Kt)(a r:e7):Prop:=∀m,m<=r.length->Rd D a (r.take m)
def none_of{s:Rs}(h:¬s.f.isSome=true):s.f=none:=by
 cases e:s.f with
 | none=>rfl
 | some _=>rw[e]at h;exact Wx Z h
def cg.rd{D:Kt}{a r:e7}(h:cg D a r):Rd D a r:=by
 have:=h r.length (Tp _)
 rwa [TK]at this
def Rd.rp{D:Kt}{a:e7}(h:Rd D a []):cg D a []:=λm _=>by rw[Vm];exact h
def cg.take{D:Kt}{a r:e7}(h:cg D a r){m:Nat}(c:m<=r.length):cg D a (r.take m):=λk b=>by
 rw[TyZ]at b;rw[Vl,Ui (by lia)];exact h k (by lia)
def sI(D:Kt):cg D [] []:=Rd.rp ⟨rfl,(λ_ h=>nomatch h),o7 D,cn.nil _ _,eX.nil _ _⟩
def Ln{D:Kt}{g:Int}{r:e7}{b:Int}(h:eX D g r)(k:(r++[b]).length%ay D=0->aZ D g (r++[b])=.mo):eX D g (r++[b]):=λm d a=>by
 by_cases c:m*ay D<=r.length
 ·rw[US c];exact h m d c
 ·rw[Tq]at a;have a:m*ay D<=r.length+1:=a;have e:(r++[b]).length=m*ay D:=by rw[Tq];show r.length+1=_;lia
  rw[Uj (by lia)];exact k (by rw[e,Nat.mul_mod_left])
structure Bd (D:Kt) (ts r:e7) (v:Int):Prop where
 h:cg D ts r
 v0:0<=v
 v1:v<=255
 dv:(r++[v]).length%ay D=0
 no:aZ D (aw D 0 ts).2 (r++[v])=.no
 e:aU D ci ((aw D 0 ts).1++(r++[v]))=(⟨(aw D 0 ts).2,r++[v],((aw D 0 ts).1++(r++[v])).length,some ((aw D 0 ts).1.length,gY D (r++[v]))⟩,ts)
def sH{D:Kt}{d r:e7}{v:Int}(ok:cP D)(h:cg D d r)(j:0<=v)(i:v<=255) :
 cg D d (r++[v])\/(∃n,aZ D (aw D 0 d).2 (r++[v])=.sg n (aw D 0 (d++[n])).2/\(r++[v]).length%ay D=0/\(aw D 0 (d++[n])).1=(aw D 0 d).1++(r++[v])/\cg D (d++[n]) [])\/Bd D d r v:=by
 obtain⟨o,k,pg,bg,q⟩:=h.rd;have p:(r++[v]).length=r.length+1:=by rw[Tq];rfl
 have key:aU D ci ((aw D 0 d).1++(r++[v]))=((bT D ⟨(aw D 0 d).2,r,((aw D 0 d).1++r).length,none⟩ v).1,d++(bT D ⟨(aw D 0 d).2,r,((aw D 0 d).1++r).length,none⟩ v).2):=by
  rw[<- T8,mP,o];dsimp only;rw[lN D rfl];simp[aU]
 have lc:((aw D 0 d).1++r).length+1=((aw D 0 d).1++(r++[v])).length:=by rw[<- T8,Tq (bs:=[v])];rfl
 have nx:=λz=>AG (v:=v) (s:=⟨(aw D 0 d).2,r,((aw D 0 d).1++r).length,none⟩) ok rfl pg bg j i z;have stay:(bT D ⟨(aw D 0 d).2,r,((aw D 0 d).1++r).length,none⟩ v)=(⟨(aw D 0 d).2,r++[v],((aw D 0 d).1++r).length+1,none⟩,[])->((r++[v]).length%ay D=0->aZ D (aw D 0 d).2 (r++[v])=.mo)->cg D d (r++[v]):=λz mo m l=>by
  rw[p]at l;rcases UA r.length m with y|y
  ·rw[Uj (by lia)];rw[z]at key nx;obtain⟨_,b⟩:=nx rfl;rw[TD,lc]at key;exact⟨key,k,pg,b,Ln q mo⟩
  ·rw[US y];exact h m y
 unfold bT at key nx stay;by_cases c:(r++[v]).length%ay D=0
 ·rw[Ww c]at key nx stay;unfold lS at key nx stay;dsimp only at key nx stay;cases e:aZ D (aw D 0 d).2 (r++[v]) with
  | mo =>
   rw[e]at stay;exact .inl (stay Z λ_=>rfl)
  | sg n g' =>
   obtain⟨a,b,g⟩:=tp ok pg (qw bg j i) e;have f:aw D 0 (d++[n])=((aw D 0 d).1++(r++[v]),g'):=by rw[mm,b]
   refine .inr (.inl ⟨n,by rw[f],c,by rw[f],Rd.rp ⟨?_,?_,by rw[f];exact g,cn.nil _ _,eX.nil _ _⟩⟩)
   ·rw[e]at key;rw[f];dsimp only at key ⊢;rw[TD,key,lc]
   ·intro x hx;rcases TL.mp hx with z|z
    ·exact k x z
    ·rw[TU.mp z];exact a
  | no =>
   refine .inr (.inr ⟨h,j,i,c,e,?_⟩);rw[e]at key;dsimp only at key;rw[key,lc,TD,show ((aw D 0 d).1++(r++[v])).length-(r++[v]).length=(aw D 0 d).1.length by rw[Tq];lia]
 ·rw[Wv c]at stay;exact .inl (stay Z λz=>Wx z c)
theorem mK{D:Kt}(ok:cP D):∀(a c r:e7),cg D c r->bj a->(∃us r',cg D us r'/\(aw D 0 c).1++(r++a)=(aw D 0 us).1++r')\/∃us r' v b,Bd D us r' v/\(aw D 0 c).1++(r++a)=(aw D 0 us).1++((r'++[v])++b)
 | [],c,r,h,_=>.inl ⟨c,r,h,by rw[TD]⟩
 | v::a,c,r,h,hb=>by
  have d:=hb v (TV ..);have hw:bj a:=λx hx=>hb x (TW _ hx);rw[show r++v::a=(r++[v])++a by rw[T8];rfl];rcases sH ok h d.1 d.2 with z|⟨n,_,_,e,z⟩|z
  ·exact mK ok a c _ z hw
  ·have:=mK ok a _ [] z hw;rw[e,VH,T8]at this;exact this
  ·exact .inr ⟨c,r,v,a,z,Z⟩
def HZ{D:Kt}{a:e7}{n:Int}(ok:cP D)(h:cg D a [])(f:dJ D n):cg D (a++[n]) []:=by
 have pg:=h.rd.pg;have hb:=sq ok pg f;have key:∀m,m<(bM D (aw D 0 a).2 n).1.length->cg D a ((bM D (aw D 0 a).2 n).1.take m):=by
  intro m
  induction m with
  | zero=>exact λ_=>h
  | succ m ih =>
   intro j;obtain⟨v,d⟩:∃v,(bM D (aw D 0 a).2 n).1[m]? = some v:=⟨_,T4 (by lia)⟩;have b:=hb v (TY d);have c:=λz=>tq (m:=m+1) ok pg f (by lia) (by lia) z;have lt:((bM D (aw D 0 a).2 n).1.take m++[v]).length=m+1:=by rw[Tq,TyZ];show min m _+1=_;lia
   rw[fA d,Wv (by lia)]at c;rw[fA d];rcases sH ok (ih (by lia)) b.1 b.2 with z|⟨n',e,dv,_⟩|z
   ·exact z
   ·rw[lt]at dv;rw[c dv]at e;cases e
   ·have dv:=z.dv;have no:=z.no;rw[lt]at dv;rw[c dv]at no;cases no
 have l1:=sk (D:=D) ok.kok pg f;obtain⟨m,i⟩:∃m,(bM D (aw D 0 a).2 n).1.length=m+1:=⟨(bM D (aw D 0 a).2 n).1.length-1,by lia⟩;obtain⟨v,d⟩:∃v,(bM D (aw D 0 a).2 n).1[m]? = some v:=⟨_,T4 (by lia)⟩;have b:=hb v (TY d);have dv:=zy (D:=D) (g:=(aw D 0 a).2) (n:=n);rw[i]at dv;have c:=tq (m:=m+1) ok pg f (by lia) (by lia) dv;have lt:((bM D (aw D 0 a).2 n).1.take m++[v]).length=m+1:=by rw[Tq,TyZ];show min m _+1=_;lia
 rw[fA d,Ww i.symm]at c;rcases sH ok (key m (by lia)) b.1 b.2 with z|⟨n',e,_,_,z⟩|z
 ·have mo:=z.rd.mo ((m+1)/ay D) (Nat.div_pos (Nat.le_of_dvd (by lia) (Vb dv)) (by have:=jF D;lia)) (by rw[Vx (Vb dv),lt];exact Tp _);rw[Vx (Vb dv),Uj (by lia),c]at mo;cases mo
 ·rw[c]at e
  injection e with e1
  subst e1;exact z
 ·have no:=z.no;rw[c]at no;cases no
def Fl(D:Kt)(g:Int)(r f:e7):Prop:=(∃n,dJ D n/\(bM D g n).1=r++f)/\∀b,D=.pr b->cB b r=some f
def OW{D:Kt}{a r f:e7}(ok:cP D)(h:cg D a r)(k:Fl D (aw D 0 a).2 r f):∃us,cg D us []/\(aw D 0 us).1=(aw D 0 a).1++(r++f)/\bj f:=by
 obtain⟨⟨n,c,e⟩,_⟩:=k;have b:=h.take (TJ _);rw[VZ]at b;refine⟨_,HZ ok b c,by rw[mm,e],λx hx=>sq ok b.rd.pg c x (by rw[e];exact TM _ hx)⟩
def mS{D:Kt}{g:Int}{r:e7}(h:eX D g r)(ne:r≠[])(dv:r.length%ay D=0):aZ D g r=.mo:=by
 have l0:0<r.length:=Vv.mpr ne;have e:r.length/ay D*ay D=r.length:=Vx (Vb dv);have:=h (r.length/ay D) (Nat.pos_of_ne_zero λc=>by rw[c,VY]at e;lia) (by lia)
 rwa [e,TK]at this
def OX{D:Kt}{a r f:e7}(ok:cP D)(h:Rd D a r)(ne:r≠[])(k:Fl D (aw D 0 a).2 r f):f≠[]:=λz=>by
 obtain⟨⟨n,c,e⟩,_⟩:=k;rw[z,TD]at e;have dv:=zy (D:=D) (g:=(aw D 0 a).2) (n:=n);have b:=tq (m:=(bM D (aw D 0 a).2 n).1.length) ok h.pg c (sk ok.kok h.pg c) (Tp _) dv;rw[TK,Ww rfl,e]at b;rw[e]at dv;rw[mS h.mo ne dv]at b;cases b
inductive Rt (D:Kt) (row:e7):Option (e7)->Prop where
 | over (h:(aU D ci row).1.f.isSome=true):Rt D row none
 | whole (h:(aU D ci row).1.f=none) (e:(aU D ci row).1.r=[]):Rt D row (some [])
 | more {f:e7} (h:(aU D ci row).1.f=none) (e:(aU D ci row).1.r≠[]) (k:Fl D (aU D ci row).1.g (aU D ci row).1.r f):Rt D row (some f)
 | odd {b:Bool} (h:(aU D ci row).1.f=none) (e:(aU D ci row).1.r≠[]) (d:D=.pr b) (k:cB b (aU D ci row).1.r=none):Rt D row none
def oW{D:Kt}{a:e7}{x:Option (e7)}(h:cg D a [])(k:Rt D (aw D 0 a).1 x):x=some []:=by
 have e:=h.rd.e;rw[TD]at e;cases k with
 | over h=>rw[e]at h;cases h
 | whole=>rfl
 | more _ n=>rw[e]at n;exact Wx Z n
 | odd _ n=>rw[e]at n;exact Wx Z n
def mJ{D:Kt}{a r:e7}{x:Option (e7)}(h:cg D a r)(ne:r≠[])(k:Rt D ((aw D 0 a).1++r) x):(∃f,x=some f/\Fl D (aw D 0 a).2 r f)\/(x=none/\∃b,D=.pr b/\cB b r=none):=by
 have e:=h.rd.e;cases k with
 | over h=>rw[e]at h;cases h
 | whole _ n=>rw[e]at n;exact Wx n ne
 | more _ _ k=>rw[e]at k;exact .inl ⟨_,Z,k⟩
 | odd _ _ d k=>rw[e]at k;exact .inr ⟨rfl,_,d,k⟩
def wX{D:Kt}{a r:e7}{v:Int}(h:Bd D a r v)(b:e7):aU D ci ((aw D 0 a).1++((r++[v])++b))=(⟨(aw D 0 a).2,r++[v],((aw D 0 a).1++(r++[v])).length,some ((aw D 0 a).1.length,gY D (r++[v]))⟩,a):=by
 rw[<- T8,mP,h.e,jn D rfl,TD]
def Al{D:Kt}{a r:e7}{v:Int}{x:Option (e7)}(h:Bd D a r v)(b:e7)(k:Rt D ((aw D 0 a).1++((r++[v])++b)) x):x=none:=by
 have e:=wX h b;cases k with
 | over=>rfl
 | whole z=>rw[e]at z;cases z
 | more z=>rw[e]at z;cases z
 | odd=>rfl
def sG{D:Kt}{a:e7}(h:cg D a []):(eZ D (aw D 0 a).1).f=none/\(aU D ci (aw D 0 a).1).2=a:=by
 have e:=h.rd.e;rw[TD]at e;unfold eZ;rw[e];exact⟨rfl,rfl⟩
def Ap {D:Kt} {a r:e7} (h:cg D a r) (ne:r≠[]):(eZ D ((aw D 0 a).1++r)).f=some ((aw D 0 a).1.length,r.length,("short" : Str)):=by
 unfold eZ;rw[h.rd.e];show (nM _).f=_;unfold nM;dsimp only;rw[Wv ne];show some (_-_,_,_)=_;rw[show ((aw D 0 a).1++r).length-r.length=(aw D 0 a).1.length by rw[Tq];lia]
def Ar{D:Kt}{a r:e7}{v:Int}(h:Bd D a r v)(b:e7):(eZ D ((aw D 0 a).1++((r++[v])++b))).f=some ((aw D 0 a).1.length,gY D (r++[v])):=by
 unfold eZ;rw[wX h b]
 rfl
end My
namespace My
open PySem L2
section
variable {P:Program}{w:World}{K:PySem.W.Frag}{mg:Str->Option Value}{base:Heap}{t:Adr}
def GI(t:Adr):Sp:=λvs H Q _=>∃(a:Hp) (x dx o b mt:Addr) (D:Kt) (pl:Int) (s:Rs) (e:Bool),vs=[.ref x]/\Hr t a H x dx o b mt D pl s e/\(e=true->Q .non H)/\(e=false->s.r=[]->∀q H',am H H'->H' q=some (.lst [])->Q (.ref q) H') /\
 (e=false->s.r≠[]->cn D s.g s.r/\eX D s.g s.r/\(∀q (f:e7) H',am H H'->H' q=some (.lst (f.map V.int))->Fl D s.g s.r f->Q (.ref q) H')/\∀b',D=.pr b'->cB b' s.r=none->∀H',am H H'->Q .non H')
def Nt (T:Txt w K mg t):dz P w K mg base t.bQ "ending" 8 t.yg t.vy ["self"] (GI t):=by
 refine⟨T.aS,T.Ld,T.RF,T.Sr.okQ HI (λvs H Q E h=>by obtain⟨Hb,x,dx,o,b,mt,D,pl,s,e,rfl,_⟩:=h;rfl) λ_ _ _ _ H vs Q E B h=>?_⟩;obtain⟨Hb,x,dx,o,b,mt,D,pl,⟨g,r,c,f⟩,e,rfl,C,k1,k2,k3⟩:=h;have hu:=B.units;have hx:=C.hx;have hb:=C.hb;have pg:=C.pg;have tn:=C.tn.mono C.sb;have ok:=C.tn.koS;dsimp only at hx hb pg k2 k3;refine⟨_,(ah (aA (gu (K:=K) Z (aT (K:=K) Z (aa 0))) (aj (ap bD)) aF)
  (aj (ap (ie (gu (K:=K) rfl (aT (K:=K) rfl (aa 0))) (cS (db (B5 T) B (aT (K:=K) rfl (aa 0)) (ad (aT (K:=K) rfl (aa 0)) (ad (aT (K:=K) rfl (aa 0)) ae))) (cS (db (Cj T) B (aT (K:=K) rfl (aa 0)) (ad (aT (K:=K) rfl (aa 0)) (ad (aT (K:=K) rfl (aa 0)) ae))) (cS (db (Ch T) B (aT (K:=K) rfl (aa 0)) (ad (aT (K:=K) rfl (aa 0)) (ad (aT (K:=K) rfl (aa 0)) ae))) (cS (db (Cc T) B (aT (K:=K) rfl (aa 0)) (ad (aT (K:=K) rfl (aa 0)) (ad (aT (K:=K) rfl (aa 0)) ae))) (db (B7 T) B (aT (K:=K) rfl (aa 0)) (ad (aT (K:=K) rfl (aa 0)) (ad (aT (K:=K) rfl (aa 0)) ae))))))) (bh ae))))),?_⟩
 refine bZ x _ dx _ _ Z hx T.aS T.iK Z ?_;cases e with
 | true=>exact k1 rfl
 | false =>
  refine⟨x,_,dx,_,_,Z,hx,T.aS,T.dI,Z,_,.inl (.of hb),?_⟩;by_cases ne:r=[]
  ·rw[show r.map V.int=[] by rw[ne];rfl];exact⟨sz Z,λq d j=>k2 Z ne q d j.sm j.at_⟩
  obtain⟨bg,mo,J,kn⟩:=k3 rfl ne;refine ak (λ_=>?_) (λz=>Wx (by cases r with|nil=>exact Wx rfl ne|cons _ _=>rfl) z);cases D with
  | br=>exact Wx bg ne
  | ld =>
   obtain rfl:g=0:=pg;obtain⟨u,ho⟩:=id tn;have a:=mS mo ne (Ur _);dsimp only [aZ]at a
   split at a
   ·cases a
   split at a
   ·rename_i wW;refine .inr (.inl ⟨x,_,dx,_,_,Z,hx,T.aS,T.dC,Z,o,u,_,Z,ho,Z,x,_,dx,_,_,Z,hx,T.aS,T.dI,Z,x,_,dx,_,_,Z,hx,T.aS,T.gJ,Z,?_⟩);refine⟨o,b,r,rfl,.of hb,by have:=bg.2;lia,λ_ p d j=>?_,λnb=>Wx wW nb⟩;refine J p _ d j.sm j.at_ ⟨⟨_,yN (EW wW) λy hy=>?_⟩,(λ_ z=>by cases z)⟩;rcases TL.mp hy with z|z
    ·exact (bg.1 y z).1
    ·cases r with
     | nil=>exact Wx rfl ne
     | cons f' r' =>
      obtain⟨i,_,rfl⟩:=T0.mp z;have:=Bt f' (r'.length+1+i);lia
   ·cases a
  | pr h =>
   obtain rfl:g=0:=pg;have po:Po t H o h:=tn;obtain⟨u,ho⟩:=id po;refine .inr (.inr (.inl ⟨x,_,dx,_,_,Z,hx,T.aS,T.dC,Z,o,u,_,Z,ho,Z,x,_,dx,_,_,Z,hx,T.aS,T.dI,Z,x,_,dx,_,_,Z,hx,T.aS,T.gJ,Z,?_⟩));refine⟨o,b,h,r,rfl,po,.of hb,bg.1,by have:=bg.2;lia,λf G p d j=>?_,λG d s1=>kn h rfl G d s1⟩;have F:=Ux G;obtain⟨R,en⟩:=VB.mp F;obtain⟨sn,k⟩:=yO h (bg.1.app (CI (UR G))) en;exact J p f d j.sm j.at_ ⟨⟨R,sn,k⟩,λb z=>by cases z;exact G⟩
  | sh f ns ms =>
   have two:cJ g:=pg;have I:Tg t H o f ns ms:=tn;obtain rfl:r=[254+(1-g)]:=by
    rcases bg with z|z
    ·exact Wx z ne
    ·exact z
   have b0:(0:Int)<=254+(1-g):=by rcases two with rfl|rfl<;>decide
   have a:=mS mo ne (Ur _);dsimp only [aZ]at a;cases hw:cQ (ai g ns ms) (ai g ms ns) g [254+(1-g)] with
   | some z=>rw[hw]at a;cases a
   | none =>
    rw[hw]at a;dsimp only at a
    split at a
    ·rename_i hf;refine .inr (.inr (.inr (.inl ⟨x,_,dx,_,_,Z,hx,T.aS,T.dC,Z,o,f.dx,_,Z,I.o,Z,x,_,dx,_,_,Z,hx,T.aS,T.dI,Z,x,_,dx,_,_,Z,hx,T.aS,T.gJ,Z,?_⟩)));refine⟨o,f,ns,ms,b,_,g,Z,two,I,hb,.inl ⟨_,Z,b0⟩,λz=>?_,λ_ p L d s1 F k=>?_⟩
     ·rw[hf]at z;cases z
     have k:=k hw;refine J p L d s1 F ?_;cases ea:fw (ai g ms ns) (ai g ns ms) with
     | nil =>
      have m:cw (ai g ms ns) (ai g ns ms) g=[]:=by unfold cw;rw[ea];rfl
      unfold eU at hf;rw[hw,m]at hf;cases hf
     | cons i bJ =>
      obtain⟨R,h1,h2⟩:=pI.mp (show i∈fw (ai g ms ns) (ai g ns ms) by rw[ea];exact TV ..);have m:cw (ai g ms ns) (ai g ns ms) g=[254+(1-g),(i:Int)]:=by unfold cw;rw[ea];rfl
      rw[m]at k;have k:L=[(i:Int)]:=k;refine⟨⟨R,?_,?_⟩,(λ_ z=>by cases z)⟩
      ·have:=TY h1;unfold ai at this
       split at this
       ·exact .inr this
       ·exact .inl this
      ·rw[k,oJ (r:=[254+(1-g),(i:Int)]) (g':=1-g) ?_]
       ·rfl
       unfold eE;dsimp only;rw[gM.mpr h2];dsimp only;rw[tG (jN (g:=g) I.k1 I.k0).2.1 h1]
    ·cases a
  | tb f' es =>
   obtain rfl:g=0:=pg;obtain⟨tt,N⟩:=id tn;have a:=mS mo ne (Ur _);dsimp only [aZ]at a
   split at a
   ·cases a
   split at a
   ·rename_i rt;refine .inr (.inr (.inr (.inr ⟨x,_,dx,_,_,Z,hx,T.aS,T.dC,Z,o,f'.dx,_,Z,tt.o,Z,x,_,dx,_,_,Z,hx,T.aS,T.dI,Z,x,_,dx,_,_,Z,hx,T.aS,T.gJ,Z,?_⟩)));refine⟨o,f',es,b,_,0,Z,tt,hb,λ_ p L d s1 F he=>?_,λO=>Wx rt O⟩;obtain⟨l,v,ee⟩:=he;obtain⟨e1,M,Y,U⟩:=ju (es:=es) (n:=l.1) ⟨l,v,rfl⟩;have S:e1=l:=by
     rcases N.two M v with z|z
     ·exact z
     ·unfold eV at z;rw[WA Y]at z;cases z
    refine J p L d s1 F ⟨⟨l.1,⟨l,v,rfl⟩,?_⟩,(λ_ z=>by cases z)⟩;have W:bM (.tb f' es) 0 l.1=(l.2,0):=by
     show (Option.map _ _).getD _=_;rw[U,S];rfl
    rw[W];exact ee
   ·cases a
def Gg(K:PySem.W.Frag)(t:Adr):Sp:=λvs H Q _=>∃(o a:Addr) (D:Kt) (row:e7),vs=[.ref o,.ref a]/\TN t H o D/\aE K H a (row.map V.int)/\bj row/\row.length<=1000 /\
 (∀H',am H H'->Rt D row none->Q .non H')/\∀(f:e7) q H',am H H'->Rt D row (some f)->H' q=some (.lst (f.map V.int))->Q (.ref q) H'
def lW (T:Txt w K mg t):bz P w K mg base "rest_of" 11 t.xC t.uM ["tongue", "row"] (Gg K t):=by
 refine⟨T.Oh,T.D3.kp,T.QV,T.D3.okQ zV (λvs H Q E h=>by obtain⟨o,a,D,row,rfl,_⟩:=h;rfl) λ_ _ _ _ H vs Q E n h=>?_⟩;obtain⟨o,a,D,row,rfl,tn,R,hb,M,G,I⟩:=h;have hu:=n.units;have ok:=tn.koS;refine⟨_,(ah (aM (i:=2) zV.nd Z (.inl Z) (mO (BO T) n (ad (aa 0) ae)))
  (ah (eJ (fH (Cd T) n (aa 2) (ad (aa 1) ae)))
  (aj (ap (eK (Nt T) n (aa 2)))))),?_⟩
 refine λx dx hx s J=>?_;have sm:=iH (C:=t.bQ) hx s;refine⟨x,dx,o,0,rfl,aV,λb mt S O L nbm k1 j F y=>⟨rfl,?_⟩⟩;have s1:am H S:=λa u e=>k1 a u (ba e hx) (sm a u e);have U:=BN (pl:=0) tn s1 hx (sm.free O) (sm.free L) nbm j F y;refine cz x dx _ rfl j rfl ⟨H,x,dx,o,b,mt,a,D,0,ci,false,row,rfl,U,R,hb,M,(λz=>nomatch z),λ_=>⟨rfl,cn.nil _ _,λq b' V W N B Y=>?_⟩⟩;have p:am H V:=B.sb;refine⟨x,dx,_,Z,B.hx,Z,H,x,dx,o,b',mt,D,0,_,_,Z,B,λz=>G _ p (.over z),λz e q l m c=>?_,λz e=>?_⟩
 ·exact I [] q l (p.trans m) (.whole (none_of (by rw[z];decide)) e) c
 ·have fn:(aU D ci row).1.f=none:=none_of (by rw[z];decide);have rd:cn D (aU D ci row).1.g (aU D ci row).1.r/\eX D (aU D ci row).1.g (aU D ci row).1.r:=by
   rcases mK ok row [] [] (sI D) hb with ⟨us,r',h,e⟩|⟨us,r',v,b,h,e⟩
   ·have e:row=(aw D 0 us).1++r':=e;rw[e,h.rd.e];exact⟨h.rd.bg,h.rd.mo⟩
   ·have e:row=(aw D 0 us).1++((r'++[v])++b):=e;rw[e,wX h b]at fn;cases fn
  exact⟨rd.1,rd.2,λq f l m c k=>I f q l (p.trans m) (.more fn e k) c,λb' d k l m=>G l (p.trans m) (.odd fn e d k)⟩
def Ds(D:Kt)(row:e7)(H:Hp)(q:Addr):Prop:=((eZ D row).f=none->∃qt,H q=some (.tup [.str "text",.ref qt])/\H qt=some (.lst ((aU D ci row).2.map V.int)))/\∀p l k,(eZ D row).f=some (p,l,k)->H q=some (.tup [.str "fault",.int (p:Int),.int (l:Int),.str k])
def FU(K:PySem.W.Frag)(t:Adr):Sp:=λvs H Q _=>∃(o a:Addr) (D:Kt) (row:e7),vs=[.ref o,.ref a]/\TN t H o D/\aE K H a (row.map V.int)/\bj row/\row.length<=1000/\∀q H',am H H'->Ds D row H' q->Q (.ref q) H'
def BV (T:Txt w K mg t):bz P w K mg base "_law_told" 13 t.w6 t.uh ["_law_tongue_here", "_law_row_here"] (FU K t):=by
 refine⟨T.NO,T.DD.kp,T.Qp,T.DD.okQ mE (λvs H Q E h=>by obtain⟨o,a,D,row,rfl,_⟩:=h;rfl) λ_ _ _ _ H vs Q E B h=>?_⟩;obtain⟨o,a,D,row,rfl,tn,O,hb,F,k⟩:=h;have hu:=B.units;refine⟨_,(ah (aM (i:=2) mE.nd Z (.inl Z) (bS (ad aW ae)))
  (ah (Ir (K:=K) (j:=3) rfl ⟨rfl,rfl⟩ mE.nd rfl rfl T.lX (λpn W Eb L=>(aj (aM (i:=2) mE.nd rfl (.inl rfl) (bS (ad aW (ad (IM (Mx T) B L (ad (aa 0) (ad (cr (Tk K) T.n_list T5 (ad (aa 1) ae)) ae))) ae)))))) (λe=>(aj (aM (i:=2) mE.nd rfl (.inl rfl) (bS (ad aW (ad (sK (K:=K) rfl (aa 3)) (ad (sK (K:=K) rfl (aa 3)) (ad (sK (K:=K) rfl (aa 3)) ae)))))))))
  (aj (ap (aa 2))))),?_⟩
 refine⟨sz Z,λM S u=>?_⟩;dsimp only [bP];refine ce (λn b=>∃q:Addr,am H b/\Ds D row b q/\n=[some (.ref o),some (.ref a),some (.ref q),none]) (λnx z=>?_) ?_
 ·refine⟨λn c N b=>n=[some (.ref o),some (.ref a),some (.ref M),none]/\c=.ref t.d6/\am S b/\∃(e d0:Addr) (p l:Nat) (k:Str),N=some e/\b e=some (XO e t.d6 (some d0))/\b d0=some (.xd [("place",.int (p:Int)),("length",.int (l:Int)),("kind",.str k)])/\(eZ D row).f=some (p,l,k),?_,?_⟩
  ·refine⟨_,.inl (u.sm.seq O),λV H2 v=>?_⟩;have m:=u.sm.trans v.sm;refine⟨o,V,D,row,rfl,tn.mono m,v.lst,hb,F,λd q x s nq U=>?_,λp l y d e d0 b J I G=>⟨rfl,rfl,v.sm.trans J,e,d0,p,l,y,rfl,I,G,d⟩⟩;refine⟨sz Z,λp4 Y g=>?_⟩;exact z _ _ ⟨p4,m.trans (s.trans g.sm),⟨λ_=>⟨q,g.at_,g.sm _ _ U⟩,λp l y e=>(by rw[d]at e;cases e)⟩,rfl⟩
  ·rintro n C e od qq x ⟨rfl,hC,s,e',d0,pp,l,y,R,hx,hd,d⟩ _;cases hC;cases R;refine⟨T.xm_Faulty_Faulty,?_⟩;refine⟨e,_,d0,_,_,Z,.inr ⟨_,hx⟩,hd,T.oy,T.en_Faulty_place,Z,?_⟩;refine⟨e,_,d0,_,_,Z,.inr ⟨_,hx⟩,hd,T.oy,T.en_Faulty_length,Z,?_⟩;refine⟨e,_,d0,_,_,Z,.inr ⟨_,hx⟩,hd,T.oy,T.en_Faulty_kind,Z,?_⟩;refine⟨sz rfl,λq Y g=>z _ _ ⟨q,u.sm.trans (s.trans g.sm),⟨λr=>(by rw[d]at r;cases r),λp' l' k' r=>?_⟩,rfl⟩⟩;rw[d]at r;cases r;exact g.at_
 rintro n x ⟨q,s,tl,rfl⟩;exact k q x s tl
def Gm(K:PySem.W.Frag):Sp:=λvs H Q _=>∃(p c:Addr) (M:Md) (D:Kt) (a:e7),vs=[.ref p,.ref c]/\Mod H p M/\Mt M D/\cP D/\aE K H c (a.map V.int)/\(∀n∈a,dJ D n)/\(aw D 0 a).1.length<=1000/\∀q qr H',am H H'->H' q=some (.tup [.ref qr,.int (aw D 0 a).2])->H' qr=some (.lst ((aw D 0 a).1.map V.int))->Q (.ref q) H'
theorem yC{D:Kt}{g:Int}:∀us ts:e7,(aw D g ts).1.length<=(aw D g (ts++us)).1.length
 | [],ts=>by rw[TD];exact Tp _
 | n::us,ts=>by
  have h:=yC (D:=D) (g:=g) us (ts++[n]);rw[mm,Tq,T8]at h;exact TH (VJ _ _) h
def MS (T:Txt w K mg t):bz P w K mg base "_law_page" 3 t.xj t.ut ["_law_model_here", "_law_text_here"] (Gm K):=by
 refine⟨T.NW,T.DL.kp,T.Qx,T.DL.okQ ja (λvs H Q E h=>by obtain⟨p,c,M,D,b,rfl,_⟩:=h;rfl) λ_ _ _ _ H vs Q E J h=>?_⟩;obtain⟨p,c,M,D,b,rfl,Y,mt,ok,G,d,lw,k⟩:=h;have hu:=J.units;refine⟨_,(ah (aM (i:=2) ja.nd Z (.inl Z) (bh ae))
  (ah (aM (i:=3) ja.nd rfl (.inl rfl) ag)
  (ah (eI PassesOwn.never rfl (fF (K:=K) rfl (aa 1)) (bn (i:=4) ja.nd rfl (.inl rfl)) (ah (aM (i:=5) ja.nd rfl (.inl rfl) (aP (BW T) J (ad (aa 0) (ad (aa 4) (ad (aa 3) ae)))))
  (ah (aA (av gN (aa 5) bD (aq _)) (aj (ap bD)) aF)
  (ah (aM (i:=2) ja.nd rfl (.inl rfl) (aG (Te K) (aa 2) (aB (Ti K) (aa 5) ag (λ_ _=>rfl))))
  (aj (aM (i:=3) ja.nd rfl (.inl rfl) (aB (Ti K) (aa 5) ag (λ_ _=>rfl))))))))
  (aj (ap (bS (ad (aa 2) (ad (aa 3) ae)))))))),?_⟩
 refine⟨sz Z,λO H1 r=>?_⟩;dsimp only [bP];refine⟨c,rfl,⟨_,r.sm.seq G⟩,l7 (K:=K) (a:=c) (xs:=b.map V.int) (λi σ u=>∃(q:Addr) (m f:Option V),am H u/\u q=some (.lst ((aw D 0 (b.take i)).1.map V.int))/\σ=[some (.ref p),some (.ref c),some (.ref q),some (.int (aw D 0 (b.take i)).2),m,f]) ⟨O,_,_,r.sm,r.at_,rfl⟩ (λi σ u _ z=>by obtain⟨q,m,f,N,_⟩:=z;exact N.seq G) ?_ ?_⟩
 ·rintro i v σ H2 W ⟨q,m,f,o,l,rfl⟩;obtain⟨n,I,rfl⟩:=dY W;have s:=d n (TY I);have pg:=(yB ok.kok (o7 D) i b (RQ d i)).1;refine⟨p,M,D,n,_,Z,Y.mono o,mt,s,pg,λpr q3 C L R y e=>?_⟩;have nx:aw D 0 (b.take (i+1))=((aw D 0 (b.take i)).1++(bM D (aw D 0 (b.take i)).2 n).1,(bM D (aw D 0 (b.take i)).2 n).2):=by rw[fA I,mm]
  have le:=yC (D:=D) (g:=0) (b.drop (i+1)) (b.take (i+1));rw[UQ,nx,Tq]at le;dsimp only [bP];refine aY (.inr (.of e)) (aH (j:=0) Z) ?_;refine fU (.of (L _ _ l)) (.of y) (cD (by rw[To,To];lia)) (λU H4 x=>?_);refine aY (.inr (.of (x.sm _ _ e))) (aH (j:=1) Z) ?_;have F:=x.at_;rw[<- TZ]at F;refine⟨U,_,_,o.trans (L.trans x.sm),by rw[nx];exact F,by rw[nx];rfl⟩
 ·rintro σ H2 ⟨q,m,f,o,l,rfl⟩;rw[To,TK]at l;rw[To,TK];exact⟨sz Z,λS C B=>k S q C (o.trans B.sm) B.at_ (B.sm _ _ l)⟩
def Gz(K:PySem.W.Frag)(t:Adr):Sp:=λvs H Q _=>∃(o p a:Addr) (M:Md) (D:Kt) (b:e7),vs=[.ref o,.ref p,.ref a]/\TN t H o D/\Mod H p M/\Mt M D/\cg D b []/\aE K H a ((aw D 0 b).1.map V.int)/\bj (aw D 0 b).1/\(aw D 0 b).1.length<=900/\∀q qr H',am H H'->H' q=some (.tup [.ref qr,.int (aw D 0 b).2])->Q (.ref q) H'
theorem wY{α:Type}:∀xs:List α,(xs.map λ_=>true).all id=true
 | []=>rfl
 | _::xs=>wY xs
def Fy{D:Kt}{a:e7}(ok:cP D)(h:cg D a []):a.length<=(aw D 0 a).1.length:=by
 have e:=sG h;have:=sN D (aw D 0 a).1 ci;rw[e.2]at this;exact this
def tJ (T:Txt w K mg t):bz P w K mg base "_law_is_text_of" 14 t.xr t.uC ["_law_tongue_here", "_law_model_here", "_law_row_here"] (Gz K t):=by
 refine⟨T.N4,T.DS.kp,T.QH,T.DS.okQ sy (λvs H Q E h=>by obtain⟨o,p,a,M,D,s,rfl,_⟩:=h;rfl) λ_ _ _ _ H vs Q E g h=>?_⟩;obtain⟨o,p,a,M,D,s,rfl,tn,md,mt,rd,I,hb,lr,k⟩:=h;have O:=g.units;have ok:=tn.koS;have lt:=Fy ok rd;obtain⟨S,W⟩:=sG rd;refine⟨_,(ah (aM (i:=3) sy.nd Z (.inl Z) (aP (BV T) g (ad (aa 0) (ad (aa 2) ae))))
  (ah (aA (bG (ck (av (iP (K:=K) rfl O) (aB (Ti K) (aa 3) ag (λ_ _=>rfl)) aW (aq _)) (ck (dM (dH (bq (Tf K) T.n_isinstance Uq (ad (aB (Ti K) (aa 3) ag (λ_ _=>rfl)) (ad (ig rfl T.n_list T5) ae))))) (cE (dM (dH (bq (wS (K:=K) rfl rfl) T.n_all VV (ad (gp rfl (dn.of (fns:=(ao jd).names) (N:=["_law_tongue_here", "_law_model_here", "_law_row_here", "_law_told_here", "_law_found"]) (Nc:=["_law_sign"]) (nv:=1) (caps:=[]) rfl rfl (by decide +kernel)) (fF (K:=K) rfl (aB (Ti K) (aa 3) ag (λ_ _=>rfl))) (λ_ _ _ _=>(bn (i:=0) (show List.Nodup (["_law_sign"]:List Str) by decide +kernel) rfl (Or.inl rfl) (Or.inr rfl))) (λ_ _ _ _=>fW) (λ_ _ _ _=>(aP (pV T) g (ad (aa 0) ae)))) ae)))))))) (aj (ap bD)) aF)
  (ah (aM (i:=4) sy.nd rfl (.inl rfl) (aP (MS T) g (ad (aa 1) (ad (aB (Ti K) (aa 3) ag (λ_ _=>rfl)) ae))))
  (ah (aA (bG (ck (av gN (aa 4) bD (aq _)) (cE (av (iP (K:=K) rfl O) (aB (Ti K) (aa 4) ag (λ_ _=>rfl)) (aa 2) (aq _))))) (aj (ap bD)) aF)
  (aj (ap (aa 4))))))),?_⟩
 refine⟨o,a,D,_,rfl,tn,I,hb,by lia,λq Y s1 tl=>?_⟩;obtain⟨F,f,b⟩:=tl.1 S;rw[W]at b;dsimp only [bP];refine ce (λe l=>am Y l/\e=[some (.ref o),some (.ref p),some (.ref a),some (.ref q),none]) (λnx r=>?_) ?_
 ·refine aY (.inr (.of f)) (aH (j:=0) Z) ?_;refine ez ?_;refine ak (λz=>Wx z (by decide +kernel)) (λ_=>?_);refine aY (.inr (.of f)) (aH (j:=1) Z) ?_;refine aY (.lst b) (by with_unfolding_all rfl) ?_;refine ak (λz=>Wx z (by decide)) (λ_=>?_);refine aY (.inr (.of f)) (aH (j:=1) Z) ?_;refine dL F rfl ⟨_,.of b⟩ (nU ((s.map λ_=>true).map V.bl) (by simp) (.of b) (cD (by rw[To];lia)) (λi x y H7 N hx C s7 hN=>?_) λp8 H8 L=>?_)
  ·obtain⟨n,m,rfl⟩:=dY hx;rw[Tv,Tv,m]at C;cases C;exact⟨n,Z,hN _ (am.refl _)⟩
  refine bc L.lst ?_;rw[wY];exact r _ _ ⟨L.sm,Z⟩
 rintro e H2 ⟨u,rfl⟩;refine aY (.inr (.of (u _ _ f))) (aH (j:=1) Z) ?_;have c:=s1.trans u;refine⟨p,F,M,D,s,rfl,md.mono c,mt,ok,.of (u _ _ b),rd.rd.i,by lia,λJ U G R d B=>?_⟩;dsimp only [bP];refine ce (λe l=>G=l/\e=[some (.ref o),some (.ref p),some (.ref a),some (.ref q),some (.ref J)]) (λnx r=>?_) ?_
 ·refine aY (.inr (.of d)) (aH (j:=0) Z) ?_;refine KJ (v:=.ref a) Z ?_;refine jw (.of B) ((c.trans R).seq I) ?_;rw[WA rfl];exact r _ _ ⟨rfl,rfl⟩
 rintro e _ ⟨rfl,rfl⟩;exact k J U G (c.trans R) d
def GA(K:PySem.W.Frag)(t:Adr):Sp:=λvs H Q _=>∃(o p a:Addr) (M:Md) (D:Kt) (c r:e7),vs=[.ref o,.ref p,.ref a]/\TN t H o D/\Mod H p M/\Mt M D/\cg D c r/\aE K H a (((aw D 0 c).1++r).map V.int)/\bj ((aw D 0 c).1++r)/\((aw D 0 c).1++r).length<=800/\(r=[]\/∀b,D=.pr b->cB b r≠none)/\∀H',am H H'->Q (.bl true) H'
def BY (T:Txt w K mg t):bz P w K mg base "_law_goes_on" 15 t.xu t.uE ["_law_tongue_here", "_law_model_here", "_law_row_here"] (GA K t):=by
 refine⟨T.N6,T.DU.kp,T.QK,T.DU.okQ zT (λvs H Q E h=>by obtain⟨o,p,a,M,D,B,r,rfl,_⟩:=h;rfl) λ_ _ _ _ H vs Q E l h=>?_⟩;obtain⟨o,p,a,M,D,B,r,rfl,tn,md,mt,rd,I,hb,lr,hf,k⟩:=h;have hu:=l.units;have ok:=tn.koS;refine⟨_,(ah (aM (i:=3) zT.nd Z (.inl Z) (aP (lW T) l (ad (aa 0) (ad (cr (Tk K) T.n_list T5 (ad (aa 2) ae)) ae))))
  (ah (aA (bG (ck (dM (dH (bq (Tf K) T.n_isinstance Uq (ad (aa 3) (ad (ig rfl T.n_list T5) ae))))) (cE (dM (dH (bq (wS (K:=K) rfl rfl) T.n_all VV (ad (gp rfl (dn.of (fns:=(ao je).names) (N:=["_law_tongue_here", "_law_model_here", "_law_row_here", "_law_rest"]) (Nc:=["_law_byte"]) (nv:=1) (caps:=[]) rfl rfl (by decide +kernel)) (fF (K:=K) rfl (aa 3)) (λ_ _ _ _=>(bn (i:=0) (show List.Nodup (["_law_byte"]:List Str) by decide +kernel) rfl (Or.inl rfl) (Or.inr rfl))) (λ_ _ _ _=>fW) (λ_ _ _ _=>(aP (pV T) l (ad (aa 0) ae)))) ae))))))) (aj (ap fG)) aF)
  (aj (ap (dG js (aP (tJ T) l (ad (aa 0) (ad (aa 1) (ad (aG (Te K) (aa 2) (aa 3)) ae)))) bD (aq _)))))),?_⟩
 refine⟨_,.inl I,λp1 H1 C=>?_⟩;have s1:=C.sm;refine⟨o,p1,D,_,rfl,tn.mono s1,C.lst,hb,by lia,λW U rt=>?_,λf q W U rt j=>?_⟩
 ·exfalso
  by_cases ne:r=[]
  ·subst ne;rw[TD]at rt;cases oW rd rt
  ·rcases mJ rd ne rt with ⟨f,e,_⟩|⟨_,b,d,e⟩
   ·cases e
   ·rcases hf with hf|hf
    ·exact ne hf
    ·exact hf b d e
 have key:∃us,cg D us []/\(aw D 0 us).1=((aw D 0 B).1++r)++f/\bj f/\f.length<=6:=by
  by_cases ne:r=[]
  ·subst ne;rw[TD]at rt;cases oW rd rt;exact⟨B,rd,by simp,(λ_ h=>nomatch h),TJ _⟩
  ·rcases mJ rd ne rt with ⟨f',e,fl⟩|⟨e,_⟩
   ·cases e;obtain⟨us,h1,h2,h3⟩:=OW ok rd fl;refine⟨us,h1,by rw[h2,T8],h3,?_⟩;obtain⟨⟨n,v,J⟩,_⟩:=fl;obtain⟨x,g',_,ef,_,l6⟩:=so ok.kok rd.rd.pg v;rw[ef]at J;have:=congrArg List.length (show x=r++f from J);rw[Tq]at this;lia
   ·cases e
 obtain⟨us,m,u,bf,lf⟩:=key;dsimp only [bP];refine ce (λG H'=>am W H'/\G=[some (.ref o),some (.ref p),some (.ref a),some (.ref q)]) (λnx v=>?_) ?_
 ·refine aY (.lst j) (by with_unfolding_all rfl) ?_;refine ak (λz=>Wx z (by decide)) (λ_=>?_);refine dL q rfl ⟨_,.of j⟩ (nU ((f.map λ_=>true).map V.bl) (by simp) (.of j) (cD (by rw[To];lia)) (λi x y H7 N hx F s7 hN=>?_) λp8 H8 O=>?_)
  ·obtain⟨n,s,rfl⟩:=dY hx;rw[Tv,Tv,s]at F;cases F;exact⟨n,Z,hN _ (am.refl _)⟩
  refine bc O.lst ?_;rw[wY];exact v _ _ ⟨O.sm,Z⟩
 rintro G H3 ⟨Y,rfl⟩;have g:=s1.trans (U.trans Y);refine fU (g.seq I) (.of (Y _ _ j)) (cD (by rw[To,To];lia)) (λR H4 S=>?_);have L:aE K H4 R _:=S.lst;rw[<- TZ,<- u]at L;have c:=g.trans S.sm;refine⟨o,p,R,M,D,us,rfl,tn.mono c,md.mono c,mt,m,L,by rw[u];exact hb.app bf,by rw[u,Tq];lia,λq5 qr H5 s5 h5=>?_⟩;exact k H5 (c.trans s5)
end
end My
namespace My
open PySem L2
def nj(h:Bool){r f:e7}(hf:f∈gO h)(hs:(ca h (r++f)).isSome=true):cB h r≠none:=λz=>Ue.mp z f hf hs
def A9(h:Bool){x y:Int}(s:Sg (u2 h x y)):(ca h [x,y]).isSome=true:=by
 have e:ca h [x,y]=if dP (.int (u2 h x y))=true then some (u2 h x y) else none:=rfl
 rw[e,Ww ((h8 _).mpr s)]
 rfl
def rZ(h:Bool){x y z v:Int}(a:55296<=u2 h x y/\u2 h x y<56320)(b:56320<=u2 h z v/\u2 h z v<=57343):(ca h [x,y,z,v]).isSome=true:=by
 have e:ca h [x,y,z,v]=if (55296<=u2 h x y/\u2 h x y<56320)/\56320<=u2 h z v/\u2 h z v<=57343 then some (65536+((u2 h x y-55296)*1024+(u2 h z v-56320))) else none:=rfl
 rw[e,Ww ⟨a,b⟩]
 rfl
def CJ{h:Bool}{r:e7}(k:∀f∈gO h,ca h (r++f)=none):cB h r=none:=Ue.mpr λf hf=>by rw[k f hf];decide
def i7{h:Bool}{r:e7}(l:¬(r.length=2\/r.length=4)):ca h r=none:=Wv l
def O2{x:Int}(b:0<=x)(a:x<=255):((220<=x/\x<=223\/x=239)->cB true [x]=none)/\(¬(220<=x/\x<=223\/x=239)->cB true [x]≠none):=by
 constructor
 ·intro z;refine CJ λf hf=>?_;have hf:f∈([[],[0],[0,0],[220,0],[0,220,0]]:List (e7)):=hf;simp only [TF,Va,or_false]at hf;rcases hf with rfl|rfl|rfl|rfl|rfl
  ·exact i7 (by simp)
  ·have e:ca true ([x]++[0])=if dP (.int (u2 true x 0))=true then some (u2 true x 0) else none:=rfl
   rw[e,Wv (λy=>by have y:=(h8 _).mp y;unfold Sg u2 at y;rw[Ww rfl]at y;omega)]
  ·exact i7 (by simp)
  ·exact i7 (by simp)
  ·have e:ca true ([x]++[0,220,0])=if (55296<=u2 true x 0/\u2 true x 0<56320)/\56320<=u2 true 220 0/\u2 true 220 0<=57343 then some (65536+((u2 true x 0-55296)*1024+(u2 true 220 0-56320))) else none:=rfl
   rw[e,Wv (λy=>by have y:=y.1;unfold u2 at y;rw[Ww rfl]at y;omega)]
 ·intro z;by_cases c:216<=x/\x<=219
  ·refine nj true (f:=[0,220,0]) (by decide) (rZ true (x:=x) (y:=0) (z:=220) (v:=0) ?_ ?_)
   ·unfold u2;rw[Ww rfl];omega
   ·unfold u2;rw[Ww rfl];omega
  ·refine nj true (f:=[0]) (by decide) (A9 true (x:=x) (y:=0) ?_);unfold u2 Sg;rw[Ww rfl];omega
def O1{x y z:Int}(a:55296<=u2 true x y/\u2 true x y<56320):(¬(220<=z/\z<=223)->cB true [x,y,z]=none)/\((220<=z/\z<=223)->cB true [x,y,z]≠none):=by
 constructor
 ·intro c;refine CJ λf hf=>?_;have hf:f∈([[],[0],[0,0],[220,0],[0,220,0]]:List (e7)):=hf;simp only [TF,Va,or_false]at hf;rcases hf with rfl|rfl|rfl|rfl|rfl
  ·exact i7 (by simp)
  ·have e:ca true ([x,y,z]++[0])=if (55296<=u2 true x y/\u2 true x y<56320)/\56320<=u2 true z 0/\u2 true z 0<=57343 then some (65536+((u2 true x y-55296)*1024+(u2 true z 0-56320))) else none:=rfl
   rw[e,Wv (λw=>by have w:=w.2;unfold u2 at w;rw[Ww rfl]at w;omega)]
  ·exact i7 (by simp)
  ·exact i7 (by simp)
  ·exact i7 (by simp)
 ·intro c;refine nj true (f:=[0]) (by decide) (rZ true (x:=x) (y:=y) (z:=z) (v:=0) a ?_);unfold u2;rw[Ww rfl];omega
def O0{x:Int}(b:0<=x)(a:x<=255):cB false [x]≠none:=by
 refine nj false (f:=[0]) (by decide) (A9 false (x:=x) (y:=0) ?_);unfold u2 Sg;rw[Wv (by decide)];omega
def OZ{x y z:Int}(a:55296<=u2 false x y/\u2 false x y<56320)(z0:0<=z)(z1:z<=255):cB false [x,y,z]≠none:=by
 refine nj false (f:=[220]) (by decide) (rZ false (x:=x) (y:=y) (z:=z) (v:=220) a ?_);unfold u2;rw[Wv (by decide)];omega
def De{h:Bool}{g:Int}{r:e7}(bg:cn (.pr h) g r)(mo:eX (.pr h) g r)(ne:r≠[]):(r.length%2=0/\cB h r≠none)\/(∃x,r=[x]/\0<=x/\x<=255)\/∃x y z,r=[x,y,z]/\(55296<=u2 h x y/\u2 h x y<56320)/\0<=z/\z<=255:=by
 obtain⟨hb,b⟩:=bg;have head:∀x y s,r=x::y::s->55296<=u2 h x y/\u2 h x y<56320:=λx y s e=>by
  have m:=mo 1 (by decide) (by rw[e];show 1*2<=s.length+1+1;lia);rw[e]at m hb;exact (sO h (g:=g) (hb x (by simp)) (hb y (by simp))).2 m
 match r,ne,b with
 | [x],_,_=>exact .inr (.inl ⟨x,rfl,hb x (by simp)⟩)
 | [x,y],ne,_ =>
  refine .inl ⟨by simp,λz=>?_⟩;have a:=mS mo ne (VX 2);dsimp only [aZ]at a;cases e:ca h [x,y] with
  | some n=>rw[e]at a;cases a
  | none=>rw[e]at a;dsimp only at a;rw[Ww z]at a;cases a
 | [x,y,z],_,_=>exact .inr (.inr ⟨x,y,z,rfl,head x y [z] rfl,hb z (by simp)⟩)
section
variable {P:Program}{w:World}{K:PySem.W.Frag}{mg:Str->Option Value}{base:Heap}{t:Adr}
def ii:e7->Bool
 | [x]=>!decide (220<=x/\x<=223\/x=239)
 | [_,_,z]=>decide (220<=z/\z<=223)
 | _=>false
def Gn(K:PySem.W.Frag):Sp:=λvs H Q _=>∃(p c:Addr) (r:e7),vs=[.ref p,.ref c]/\aE K H c (r.map V.int)/\bj r/\(r.length=1\/r.length=3)/\∀H',am H H'->Q (.bl (ii r)) H'
def MT (T:Txt w K mg t):bz P w K mg base "_law_odd_fits" 1 t.xk t.uu ["_law_model_here", "_law_kept"] (Gn K):=by
 refine⟨T.NX,T.DM.kp,T.Qy,T.DM.okQ mG (λvs H Q E h=>by obtain⟨p,c,r,rfl,_⟩:=h;rfl) λ_ _ _ _ H vs Q E u h=>?_⟩;obtain⟨p,c,r,rfl,g,hb,l,k⟩:=h;have s:=u.units;refine⟨_,(ah (aM (i:=2) mG.nd Z (.inl Z) ag)
  (ah (aM (i:=3) mG.nd rfl (.inl rfl) ag)
  (ah (aA (av (bi (K:=K) rfl s) (bq (Th K) T.n_len Tw (ad (aa 1) ae)) ag (aq _)) (aj (ic (bS (ad ag (ad ag ae))) (ff (K:=K) rfl rfl (bR (bn (i:=2) mG.nd rfl (.inl rfl)) (bR (bn (i:=3) mG.nd rfl (.inl rfl)) fe))))) (aj (aA (bG (ck (mN dE dE ag (aB (Ti K) (aa 1) (sL rX ag) (λ_ _=>rfl)) ag) (cE (av (bi (K:=K) rfl s) (aB (Ti K) (aa 1) (sL rX ag) (λ_ _=>rfl)) ag (aq _))))) (aj (ap fG)) aF)))
  (aj (ap (jm dE dE (aa 2) (aB (Ti K) (aa 1) (sL rX ag) (λ_ _=>rfl)) (aa 3))))))),?_⟩
 refine h9 [some (.ref p),some (.ref c),some (.int 0),none] (λnx d=>d) ?_;refine h9 [some (.ref p),some (.ref c),some (.int 0),some (.int 255)] (λnx d=>d) ?_
 match r,l with
 | [x],_ =>
  have hx:=hb x (by simp);have a:cY ([x].map V.int) (-1)=some (.int x):=rfl;refine ce (λj n=>H=n/\¬(220<=x/\x<=223\/x=239)/\j=[some (.ref p),some (.ref c),some (.int 0),some (.int 255)]) (λnx d=>?_) ?_
  ·have e:(220<=x/\x<=223\/x=239)->Q (.bl false) H:=λz=>by
    have:=k H (am.refl _)
    rwa [show ii [x]=false by show (!decide (220<=x/\x<=223\/x=239))=false;rw[WA z];rfl]at this
   refine bc (.inl g) ?_;refine aY (.inl g) a ?_;refine ak (λb=>?_) (λb=>?_)
   ·have b:220<=x:=Wz b;refine ak (λm=>e (.inl ⟨b,Wz m⟩)) (λm=>?_);refine aY (.inl g) a ?_;exact ak (λf=>e (.inr (Wz f))) (λf=>d _ _ ⟨rfl,λz=>z.elim (λz=>m (WA z.2)) (λz=>f (WA z)),rfl⟩)
   ·refine aY (.inl g) a ?_;exact ak (λf=>e (.inr (Wz f))) (λf=>d _ _ ⟨rfl,λz=>z.elim (λz=>b (WA z.1)) (λz=>f (WA z)),rfl⟩)
  ·rintro j _ ⟨rfl,v,rfl⟩;refine aY (.inl g) a ?_;refine ak (λ_=>?_) (λz=>Wx (WA hx.1) z);have:=k H (am.refl _);rw[show ii [x]=true by show (!decide (220<=x/\x<=223\/x=239))=true;rw[WB v];rfl]at this;show Q (.bl (decide (x<=255))) H;rw[WA hx.2];exact this
 | [x,y,z],_ =>
  have a:cY ([x,y,z].map V.int) (-1)=some (.int z):=rfl;refine ce (λj n=>am H n/\j=[some (.ref p),some (.ref c),some (.int 220),some (.int 223)]) (λnx d=>?_) ?_
  ·refine bc (.inl g) ?_;refine⟨sz Z,λB o q=>?_⟩;exact⟨B,_,Z,q.tup,Z,_,_,Z,_,_,Z,Z,d _ _ ⟨q.sm,Z⟩⟩
  ·rintro j o ⟨s1,rfl⟩;refine aY (.inl (s1.seq g)) a ?_;have k1:=k o s1;refine ak (λb=>?_) (λb=>?_)
   ·show Q (.bl (decide (z<=223))) o
    rwa [show ii [x,y,z]=decide (z<=223) by unfold ii;simp[Wz b]]at k1
   ·rwa [show ii [x,y,z]=false from WB λw=>b (WA w.1)]at k1
def Gc(K:PySem.W.Frag)(t:Adr):Sp:=λvs H Q _=>∃(o p a c:Addr) (M:Md) (D:Kt) (b r:e7),vs=[.ref o,.ref p,.ref a,.ref c]/\TN t H o D/\Mod H p M/\Mt M D/\cg D b r/\r≠[]/\aE K H a (((aw D 0 b).1++r).map V.int)/\aE K H c (r.map V.int)/\bj ((aw D 0 b).1++r)/\((aw D 0 b).1++r).length<=800/\∀H',am H H'->Q (.bl true) H'
def MO (T:Txt w K mg t):bz P w K mg base "_law_short" 16 t.xf t.ul ["_law_tongue_here", "_law_model_here", "_law_row_here", "_law_kept"] (Gc K t):=by
 refine⟨T.NS,T.DH.kp,T.Qt,T.DH.okQ G7 (λvs H Q E h=>by obtain⟨o,p,a,c,M,D,ts,r,rfl,_⟩:=h;rfl) λ_ _ _ _ H vs Q E n h=>?_⟩;obtain⟨o,p,a,c,M,D,ts,r,rfl,tn,O,mt,rd,ne,G,hc,hb,lr,k⟩:=h;have S:=n.units;have ok:=tn.koS;have Y:=yT mt;refine⟨_,(ah (aA (bG (eG (av (bi (K:=K) Z S) (aG m6 (bq (Th K) T.n_len Tw (ad (aa 3) ae)) (aP (BU T) n (ad (aa 1) ae))) ag (aq _)) (eG (av (bi (K:=K) Z S) (aB (Ti K) (aa 1) ag (λ_ _=>rfl)) aW (aq _)) (fD (dM (dH (aP (MT T) n (ad (aa 1) (ad (aa 3) ae))))))))) (aj (ap (dG gN (aP (lW T) n (ad (aa 0) (ad (cr (Tk K) T.n_list T5 (ad (aa 2) ae)) ae))) bD (aq _)))) aF)
  (aj (ap (gv (dG (iP (K:=K) rfl S) (aP (lW T) n (ad (aa 0) (ad (cr (Tk K) T.n_list T5 (ad (aa 2) ae)) ae))) (bh ae) (aq _)) (fX (aP (BY T) n (ad (aa 0) (ad (aa 1) (ad (aa 2) ae))))))))),?_⟩
 refine ce (λV H'=>am H H'/\(∀b,D=.pr b->cB b r≠none)/\V=[some (.ref o),some (.ref p),some (.ref a),some (.ref c)]) (λnx N=>?_) ?_
 ·refine bc (.inl hc) ?_;refine bo p M Z O (λH1 s1=>?_);have a6:=jF D;refine⟨by rw[Y];lia,?_⟩;rw[To,Y];have s:∀h,D=.pr h->(r.length%2=0/\cB h r≠none)\/(∃x,r=[x]/\0<=x/\x<=255)\/∃x y z,r=[x,y,z]/\(55296<=u2 h x y/\u2 h x y<56320)/\0<=z/\z<=255:=λh e=>by
   subst e;exact De rd.rd.bg rd.rd.mo ne
  refine ak (λz=>?_) (λz=>?_)
  ·have z:(r.length:Int)%(ay D:Int)=1:=Wz z;obtain⟨h,rfl⟩:∃h,M=.pr h:=by
    cases M with
    | pr h=>exact⟨h,rfl⟩
    | ld=>obtain rfl:D=.ld:=mt;exact Wx z (by show ¬(r.length:Int)%1=1;lia)
    | br=>obtain rfl:D=.br:=mt;exact Wx z (by show ¬(r.length:Int)%1=1;lia)
    | sh ns ms=>obtain⟨f,rfl⟩:=mt;exact Wx z (by show ¬(r.length:Int)%1=1;lia)
    | tb es=>obtain⟨f,rfl⟩:=mt;exact Wx z (by show ¬(r.length:Int)%1=1;lia)
   obtain rfl:D=.pr h:=mt;have z:(r.length:Int)%2=1:=z;have g:=(s h rfl).resolve_left λy=>by have:=y.1;lia
   obtain⟨ma,mb,hp,_⟩:=id O;refine bo _ (.str (cC (.pr h))) (.inr (.of (s1 _ _ hp))) (aH (j:=0) Z) ?_;cases h with
   | false =>
    refine ez ?_;refine ak (λe=>Wx e (by decide +kernel)) (λ_=>N _ _ ⟨s1,λb e=>?_,rfl⟩);cases e;rcases g with ⟨x,rfl,x01⟩|⟨x,y,v,rfl,hd,v01⟩
    ·exact O0 x01.1 x01.2
    ·exact OZ hd v01.1 v01.2
   | true =>
    refine ez ?_;refine ak (λ_=>?_) (λe=>Wx (by decide +kernel) e);refine⟨p,c,r,Z,s1.seq hc,(λx hx=>hb x (TM _ hx)),?_,λH2 s2=>?_⟩
    ·rcases g with ⟨x,rfl,x01⟩|⟨x,y,v,rfl,hd,v01⟩
     ·exact .inl Z
     ·exact .inr Z
    have U:(ii r=true->cB true r≠none)/\(ii r=false->cB true r=none):=by
     rcases g with ⟨x,rfl,x01⟩|⟨x,y,v,rfl,hd,v01⟩
     ·obtain⟨L,I⟩:=O2 x01.1 x01.2;refine⟨λe=>I λy=>?_,λe=>L ?_⟩
      ·have e:(!decide (220<=x/\x<=223\/x=239))=true:=e;rw[WA y]at e;cases e
      ·have e:(!decide (220<=x/\x<=223\/x=239))=false:=e;exact Decidable.of_not_not λy=>by rw[WB y]at e;cases e
     ·obtain⟨L,I⟩:=O1 (z:=v) hd;exact⟨λe=>I (Wz e),λe=>L (of_decide_eq_false e)⟩
    cases eo:ii r with
    | true=>exact N _ _ ⟨s1.trans s2,λb e=>by cases e;exact U.1 eo,Z⟩
    | false =>
     have l:=s1.trans s2;refine⟨_,.inl (l.seq G),λJ H3 m=>⟨o,J,_,_,rfl,tn.mono (l.trans m.sm),m.lst,hb,by lia,λC u rt=>?_,λf q C u rt W=>?_⟩⟩
     ·exact k C (l.trans (m.sm.trans u))
     ·rcases mJ rd ne rt with ⟨f',e,fl⟩|⟨e,_⟩
      ·have:=fl.2 true rfl;rw[U.2 eo]at this;cases this
      ·cases e
  ·refine N _ _ ⟨s1,λb e=>?_,Z⟩;have z:¬(r.length:Int)%(ay D:Int)=1:=λy=>z (WA y);rcases s b e with y|⟨x,rfl,_⟩|⟨x,y,v,rfl,_⟩
   ·exact y.2
   ·subst e;exact Wx (show ((1:Nat):Int)%2=1 by decide) z
   ·subst e;exact Wx (show ((3:Nat):Int)%2=1 by decide) z
 rintro V H1 ⟨s1,hf,rfl⟩;refine⟨_,.inl (s1.seq G),λJ H3 m=>?_⟩;have B:=s1.trans m.sm;refine⟨o,J,D,_,rfl,tn.mono B,m.lst,hb,by lia,λC u rt=>?_,λf q C u rt W=>?_⟩
 ·rcases mJ rd ne rt with ⟨f',e,fl⟩|⟨_,b,d,e⟩
  ·cases e
  ·exact Wx e (hf b d)
 have R:f≠[]:=by
  rcases mJ rd ne rt with ⟨f',e,fl⟩|⟨e,_⟩
  ·cases e;exact OX ok rd.rd ne fl
  ·cases e
 refine⟨sz Z,λp5 H5 F=>?_⟩;refine jw (ns:=f) (ms:=[]) (.of (F.sm _ _ W)) F.lst ?_;rw[WB R];have i:=B.trans (u.trans F.sm);exact⟨o,p,a,M,D,ts,r,Z,tn.mono i,O.mono i,mt,rd,i.seq G,hb,lr,.inr hf,λH6 s6=>k H6 (i.trans s6)⟩
def GB(K:PySem.W.Frag)(t:Adr):Sp:=λvs H Q _=>∃(o p a q:Addr) (M:Md) (D:Kt) (row:e7) (pl l:Nat) (b:Str),vs=[.ref o,.ref p,.ref a,.ref q]/\TN t H o D/\Mod H p M/\Mt M D/\H a=some (.lst (row.map V.int))/\bj row/\row.length<=400/\H q=some (.tup [.str "fault",.int (pl:Int),.int (l:Int),.str b])/\(eZ D row).f=some (pl,l,b)/\∀H',am H H'->Q (.bl true) H'
def MY (T:Txt w K mg t):bz P w K mg base "_law_faulty" 17 t.xw t.uG ["_law_tongue_here", "_law_model_here", "_law_row_here", "_law_told_here"] (GB K t):=by
 refine⟨T.N8,T.DW.kp,T.QM,T.DW.okQ iG (λvs H Q E h=>by obtain⟨o,p,a,q,M,D,row,pl,l,F,rfl,_⟩:=h;rfl) λ_ _ _ _ H vs Q E S h=>?_⟩;obtain⟨o,p,a,q,M,D,row,pl,l,F,rfl,tn,md,mt,O,hb,lr,hq,ef,k⟩:=h;have hu:=S.units;have ok:=tn.koS;have um:=yT mt;have b6:=jF D;obtain⟨us,h0,G,a4,l1,bd,key⟩:∃us,cg D us []/\pl=(aw D 0 us).1.length/\row.take pl=(aw D 0 us).1/\1<=l/\pl+l<=row.length/\((∃r,cg D us r/\r≠[]/\row=(aw D 0 us).1++r/\l=r.length/\F=("short" : Str))\/∃r v b,Bd D us r v/\row=(aw D 0 us).1++((r++[v])++b)/\(l,F)=gY D (r++[v])):=by
  rcases mK ok row [] [] (sI D) hb with ⟨us,r',h,e⟩|⟨us,r',v,b,h,e⟩
  ·have e:row=(aw D 0 us).1++r':=e;have h0:=h.take (TJ _);rw[VZ]at h0;by_cases ne:r'=[]
   ·subst ne;rw[e,TD,(sG h).1]at ef;cases ef
   ·rw[e,Ap h ne]at ef;cases ef;refine⟨us,h0,rfl,by rw[e,U9],Vv.mpr ne,by rw[e,Tq];exact Tp _,.inl ⟨r',h,ne,e,Z,Z⟩⟩
  ·have e:row=(aw D 0 us).1++((r'++[v])++b):=e;have h0:=h.h.take (TJ _);rw[VZ]at h0;rw[e,Ar h b]at ef
   injection ef with ef
   injection ef with e1 L
   have ln:(r'++[v]).length=r'.length+1:=by rw[Tq];rfl
   have le:1<=l/\l<=(r'++[v]).length:=by
    have L:=congrArg Prod.fst L;unfold gY at L
    split at L<;>(dsimp only at L;lia)
   refine⟨us,h0,e1.symm,by rw[e,<- e1,U9],le.1,?_,.inr ⟨r',v,b,h,e,L.symm⟩⟩;rw[e,<- e1,Tq,Tq (as:=r'++[v])];lia
 have bw:bj (aw D 0 us).1:=λx hx=>hb x (Um (by rw[a4];exact hx));refine⟨_,(ah (ic (dO (tS (K:=K) Z) (aa 3) (da ag) fE) (ff (K:=K) Z Z (bR (bn (i:=4) iG.nd Z (.inl Z)) (bR (bn (i:=5) iG.nd Z (.inl Z)) (bR (bn (i:=6) iG.nd Z (.inl Z)) fe)))))
  (ah (aA (bG (ck (dM (dH (aP (pV T) S (ad (aa 4) ae)))) (ck (dM (dH (aP (pV T) S (ad (aa 5) ae)))) (ck (av c7 (aa 4) ag (aq _)) (cE (av c7 (aa 5) ag (aq _))))))) (aj (ap fG)) aF)
  (ah (aM (i:=7) iG.nd rfl (.inl rfl) (aP (tJ T) S (ad (aa 0) (ad (aa 1) (ad (dO (Tj K) (aa 2) fE (da (aa 4))) ae)))))
  (ah (aA (bG (ck (av gN (aa 7) bD (aq _)) (cE (av eT (aG (Te K) (aa 4) (aa 5)) (bq (Th K) T.n_len Tw (ad (aa 2) ae)) (aq _))))) (aj (ap fG)) aF)
  (ah (aA (av (bi (K:=K) rfl hu) (aa 6) aW (aq _)) (aj (ap (gv (dG (bi (K:=K) rfl hu) (aG (Te K) (aa 4) (aa 5)) (bq (Th K) T.n_len Tw (ad (aa 2) ae)) (aq _)) (fX (aP (MO T) S (ad (aa 0) (ad (aa 1) (ad (aa 2) (ad (dO (Tj K) (aa 2) (da (aa 4)) fE) ae))))))))) aF)
  (ah (aM (i:=8) iG.nd rfl (.inl rfl) (aP (BU T) S (ad (aa 1) ae)))
  (ah (aM (i:=9) iG.nd rfl (.inl rfl) (aG (Te K) (aa 4) (aa 5)))
  (ah (aA (av (bi (K:=K) rfl hu) (aa 6) aW (aq _)) (aj (aM (i:=9) iG.nd rfl (.inl rfl) (aG (Te K) (aa 9) (aa 8)))) aF)
  (ah (aA (bG (ck (av (pZ (K:=K) rfl) (aa 6) (bS (ad aW (ad aW ae))) (by with_unfolding_all rfl)) (ck (av eT (aa 9) (bq (Th K) T.n_len Tw (ad (aa 2) ae)) (aq _)) (cE (bG (eG (av (bi (K:=K) rfl hu) (aa 6) aW (aq _)) (fD (av (iP (K:=K) rfl hu) (aa 5) (aa 8) (aq _))))))))) (aj (ap fG)) aF)
  (ah (aA (bG (ck (dM (dH (aP (BY T) S (ad (aa 0) (ad (aa 1) (ad (dO (Tj K) (aa 2) fE (da (aG dw (aa 9) (aa 8)))) ae)))))) (cE (av js (aP (lW T) S (ad (aa 0) (ad (dO (Tj K) (aa 2) fE (da (aa 9))) ae))) bD (aq _))))) (aj (ap fG)) aF)
  (ah (aA (bG (ck (av (iP (K:=K) rfl hu) (aG m6 (aa 5) (aa 8)) ag (aq _)) (cE (av js (aP (lW T) S (ad (aa 0) (ad (cr (Tk K) T.n_list T5 (ad (aa 2) ae)) ae))) bD (aq _))))) (aj (ap fG)) aF)
  (aj (ap (dG (bi (K:=K) rfl hu) (aP (M0 T) S (ad (aa 1) (ad (dO (Tj K) (aa 2) (da (aa 4)) (da (aa 9))) (ad (aB (Ti K) (aa 7) ag (λ_ _=>rfl)) ae)))) aW (aq _))))))))))))))),?_⟩
 refine ce (λg B=>am H B/\g=[some (.ref o),some (.ref p),some (.ref a),some (.ref q),some (.int (pl:Int)),some (.int (l:Int)),some (.str F),none,none,none]) (λnx s=>?_) ?_
 ·refine⟨_,Z,_,.of hq,hq,λp1 H1 s1 h1=>?_⟩;exact⟨p1,_,Z,.of h1,Z,_,_,Z,_,_,Z,_,_,Z,Z,s _ _ ⟨s1,Z⟩⟩
 rintro g H1 ⟨s1,rfl⟩;refine ce (λg B=>H1=B/\g=[some (.ref o),some (.ref p),some (.ref a),some (.ref q),some (.int (pl:Int)),some (.int (l:Int)),some (.str F),none,none,none]) (λnx s=>?_) ?_
 ·refine gl (pl:Int) Z ?_;refine ak (λz=>Wx z (by decide)) (λ_=>?_);refine gl (l:Int) Z ?_;refine ak (λz=>Wx z (by decide)) (λ_=>?_);exact ak (λz=>Wx (show (l:Int)<1 from Wz z) (by lia)) (λ_=>s _ _ ⟨rfl,rfl⟩)
 rintro g _ ⟨rfl,rfl⟩;refine jO λN eN=>?_;refine⟨_,Z,_,.of (s1 _ _ O),λp2 H2 g2=>?_⟩;rw[l8,a4]at g2;have s2:=s1.trans g2.sm;have lw:(aw D 0 us).1.length<=400:=by have:=congrArg List.length a4;rw[TyZ]at this;lia
 refine⟨o,p,p2,M,D,us,rfl,tn.mono s2,md.mono s2,mt,h0,g2.lst,bw,by lia,λqf qr H3 s3 aQ=>?_⟩;have I:=s2.trans s3;subst eN;dsimp only [bP];refine ce (λg B=>H3=B/\g=[some (.ref o),some (.ref p),some (.ref a),some (.ref q),some (.int (pl:Int)),some (.int (l:Int)),some (.str F),some (.ref qf),none,none]) (λnx s=>?_) ?_
 ·refine bc (.inl (.of (I _ _ O))) ?_;rw[To];exact ak (λz=>Wx (show (row.length:Int)<(pl:Int)+(l:Int) from Wz z) (by lia)) (λ_=>s _ _ ⟨rfl,rfl⟩)
 rintro g _ ⟨rfl,rfl⟩;rcases key with ⟨r,h,ne,e,rfl,rfl⟩|⟨r,v,b,h,e,elk⟩
 ·refine ez ?_;refine ak (λ_=>?_) (λe=>Wx (by decide +kernel) e);refine bc (.inl (.of (I _ _ O))) ?_;have el:(pl:Int)+(r.length:Int)=(row.length:Int):=by rw[e,Tq,<- G];lia
  rw[To];refine ak (λ_=>?_) (λz=>Wx (WA el) z);refine⟨_,Z,_,.of (I _ _ O),λp4 H4 g4=>?_⟩;rw[gP,nS,show row.drop pl=r by rw[e,G,List.drop_left]]at g4;have C:=I.trans g4.sm;exact⟨o,p,a,p4,M,D,us,r,rfl,tn.mono C,md.mono C,mt,h,ne,by rw[<- e];exact .of (C _ _ O),g4.lst,by rw[<- e];exact hb,by rw[<- e];lia,λH5 s5=>k H5 (C.trans s5)⟩
 obtain⟨n,W⟩:∃n,n=(r++[v]).length:=⟨_,rfl⟩;have ln:n=r.length+1:=by rw[W,Tq];rfl
 have dv:=h.dv;rw[<- W]at dv;have un:ay D<=n:=by
  rcases UA n (ay D) with z|z
  ·rw[VW z]at dv;lia
  ·exact z
 have c:(F=("strange" : Str)/\l=n/\n=ay D)\/(F=("broken" : Str)/\l+ay D=n):=by
  unfold gY at elk;rw[<- W]at elk
  split at elk
  ·have e1:=congrArg Prod.fst elk;have L:=congrArg Prod.snd elk;dsimp only at e1 L;exact .inl ⟨L,e1,by lia⟩
  ·have e1:=congrArg Prod.fst elk;have L:=congrArg Prod.snd elk;dsimp only at e1 L;exact .inr ⟨L,by lia⟩
 have b2:row.length=pl+(n+b.length):=by rw[e,Tq,Tq (as:=r++[v]),<- G,<- W]
 have aD:l%ay D=0:=by
  rcases c with ⟨_,z,_⟩|⟨_,z⟩
  ·rw[z];exact dv
  ·rw[<- z,Nat.add_mod_right]at dv;exact dv
 have aL:∀B,am H B->∀x,Rt D row x->x=none:=λ_ _ x z=>by rw[e]at z;exact Al h b z
 refine ce (λg B=>H3=B/\g=[some (.ref o),some (.ref p),some (.ref a),some (.ref q),some (.int (pl:Int)),some (.int (l:Int)),some (.str F),some (.ref qf),none,none]) (λnx s=>?_) ?_
 ·rcases c with ⟨rfl,_⟩|⟨rfl,_⟩
  ·refine ez ?_;exact ak (λe=>Wx e (by decide +kernel)) (λ_=>s _ _ ⟨rfl,rfl⟩)
  ·refine ez ?_;exact ak (λe=>Wx e (by decide +kernel)) (λ_=>s _ _ ⟨rfl,rfl⟩)
 rintro g _ ⟨rfl,rfl⟩;refine jO λN eN=>?_;refine bo p M Z (md.mono I) (λH4 s4=>?_);subst eN;rw[um];have C:=I.trans s4;dsimp only [bP];refine h9 [some (.ref o),some (.ref p),some (.ref a),some (.ref q),some (.int (pl:Int)),some (.int (l:Int)),some (.str F),some (.ref qf),some (.int (ay D:Int)),some (.int ((pl:Int)+(l:Int)))] (λnx s=>s) ?_;refine ce (λg B=>H4=B/\g=[some (.ref o),some (.ref p),some (.ref a),some (.ref q),some (.int (pl:Int)),some (.int (l:Int)),some (.str F),some (.ref qf),some (.int (ay D:Int)),some (.int ((pl+n:Nat):Int))]) (λnx s=>?_) ?_
 ·rcases c with ⟨rfl,z,_⟩|⟨rfl,z⟩
  ·refine ez ?_;refine ak (λe=>Wx e (by decide +kernel)) (λ_=>s _ _ ⟨rfl,?_⟩);rw[show ((pl+n:Nat):Int)=(pl:Int)+(l:Int) by lia]
  ·refine ez ?_;refine ak (λ_=>s _ _ ⟨rfl,?_⟩) (λe=>Wx (by decide +kernel) e);rw[show ((pl+n:Nat):Int)=(pl:Int)+(l:Int)+(ay D:Int) by lia]
   rfl
 rintro g _ ⟨rfl,rfl⟩;refine ce (λg B=>am H4 B/\g=[some (.ref o),some (.ref p),some (.ref a),some (.ref q),some (.int (pl:Int)),some (.int (l:Int)),some (.str F),some (.ref qf),some (.int (ay D:Int)),some (.int ((pl+n:Nat):Int))]) (λnx s=>?_) ?_
 ·refine⟨sz Z,λp6 H6 U=>?_⟩;have aE:bB (.str F) [.str "broken",.str "strange"]=true:=by rcases c with ⟨rfl,_⟩|⟨rfl,_⟩<;>decide +kernel
  refine gk (.inr U.tup) Z Z ?_;refine ak (λz=>Wx z (by rw[Ww rfl,aE];decide)) (λ_=>?_);refine bc (.inl (.of (U.sm _ _ (C _ _ O)))) ?_;rw[To];refine ak (λz=>Wx (show (row.length:Int)<((pl+n:Nat):Int) from Wz z) (by lia)) (λ_=>?_);rcases c with ⟨rfl,z1,z2⟩|⟨rfl,_⟩
  ·refine ez ?_;refine ak (λ_=>?_) (λe=>Wx (by decide +kernel) e);refine ak (λz=>?_) (λ_=>s _ _ ⟨U.sm,Z⟩);have z:(!decide ((l:Int)=(ay D:Int)))=true:=z;rw[WA (by lia)]at z;cases z
  ·refine ez ?_;exact ak (λe=>Wx e (by decide +kernel)) (λ_=>s _ _ ⟨U.sm,rfl⟩)
 rintro g H5 ⟨s5,rfl⟩;have a8:=C.trans s5;have aS:=a8 _ _ O;refine ce (λg B=>am H5 B/\g=[some (.ref o),some (.ref p),some (.ref a),some (.ref q),some (.int (pl:Int)),some (.int (l:Int)),some (.str F),some (.ref qf),some (.int (ay D:Int)),some (.int ((pl+n:Nat):Int))]) (λnx s=>?_) ?_
 ·refine⟨_,Z,_,.of aS,λp6 H6 U=>?_⟩;have em:((pl+n:Nat):Int)-(ay D:Int)=((pl+(n-ay D):Nat):Int):=by lia
  have et:row.take (pl+(n-ay D))=(aw D 0 us).1++r.take (n-ay D):=by rw[e,G,Wt,T8,US (by lia)]
  rw[em,l8,et]at U;have s6:=a8.trans U.sm;have a3:=h.h.take (m:=n-ay D) (by lia);have bt:bj ((aw D 0 us).1++r.take (n-ay D)):=λx hx=>hb x (Um (by rw[et];exact hx));have lt:((aw D 0 us).1++r.take (n-ay D)).length<=400:=by rw[<- et,TyZ];lia
  refine⟨o,p,p6,M,D,us,r.take (n-ay D),rfl,tn.mono s6,md.mono s6,mt,a3,U.lst,bt,by lia,?_,λH7 s7=>?_⟩
  ·by_cases ne:r.take (n-ay D)=[]
   ·exact .inl ne
   refine .inr λhh d=>?_;subst d;have l2:(r.take (n-2)).length=n-2:=by rw[TyZ];lia
   have dv:n%2=0:=dv;rcases De a3.rd.bg a3.rd.mo ne with y|⟨x,y,_⟩|⟨x,y,z,w,_⟩
   ·exact y.2
   ·have y:=congrArg List.length (show r.take (n-2)=_ from y);rw[l2]at y;have y:n-2=1:=y;lia
   ·have w:=congrArg List.length (show r.take (n-2)=_ from w);rw[l2]at w;have w:n-2=3:=w;lia
  refine ak (λz=>Wx z (by decide)) (λ_=>?_);have al:=s6.trans s7;refine⟨_,Z,_,.of (al _ _ O),λp8 H8 J=>?_⟩;have et:row.take (pl+n)=(aw D 0 us).1++(r++[v]):=by rw[e,G,Wt,W,U9]
  rw[l8,et]at J;have s8:=al.trans J.sm;refine⟨o,p8,D,_,rfl,tn.mono s8,J.lst,(λx hx=>hb x (Um (by rw[et];exact hx))),by rw[<- et,TyZ];lia,λH9 Y rt=>?_,λf q' H9 Y rt aN=>?_⟩
  ·exact s _ _ ⟨(U.sm.trans s7).trans (J.sm.trans Y),Z⟩
  ·cases Al h [] (by rw[TD];exact rt)
 rintro g H6 ⟨s6,rfl⟩;have a6:=a8.trans s6;have aI:=a6 _ _ O;refine ce (λg B=>am H6 B/\g=[some (.ref o),some (.ref p),some (.ref a),some (.ref q),some (.int (pl:Int)),some (.int (l:Int)),some (.str F),some (.ref qf),some (.int (ay D:Int)),some (.int ((pl+n:Nat):Int))]) (λnx s=>?_) ?_
 ·refine⟨by lia,?_⟩;refine ak (λz=>?_) (λ_=>?_)
  ·have z:(!decide ((l:Int)%(ay D:Int)=0))=true:=z;rw[WA (by have:=congrArg (Nat.cast (R:=Int)) aD;rw[Int.natCast_emod]at this;exact this)]at z;cases z
  refine⟨_,.inl (.of aI),λp8 H8 J=>?_⟩;have s8:=a6.trans J.sm;refine⟨o,p8,D,row,rfl,tn.mono s8,J.lst,hb,by lia,λH9 Y rt=>?_,λf q' H9 Y rt aN=>?_⟩
  ·exact s _ _ ⟨J.sm.trans Y,Z⟩
  ·cases aL H9 (s8.trans Y) _ rt
 rintro g H7 ⟨s7,rfl⟩;have au:=a6.trans s7;have aK:=au _ _ O;refine⟨_,Z,_,Z,_,.of aK,λp8 H8 J=>?_⟩;have ec:d7 (row.map V.int) (some (pl:Int)) (some ((pl+n:Nat):Int))=(r++[v]).map V.int:=by
  rw[gP,show ((pl+n:Nat):Int)=(pl:Int)+(n:Int) by lia,CY,e,G,List.drop_left,W,U9]
 rw[ec]at J;have s8:=au.trans J.sm;have aJ:=(s4.trans s5).trans ((s6.trans s7).trans J.sm);refine aY (.inr (.of (aJ _ _ aQ))) (aH (j:=1) Z) ?_;have br:bj (r++[v]):=λx hx=>hb x (by rw[e];exact TM _ (Ub _ hx));have aC:mh D (aw D 0 us).2 (r++[v]):=by
  have z:=KF (p:=(r++[v]).take (n-ay D)) (u:=(r++[v]).drop (n-ay D)) ok h.h.rd.pg (by rw[US (by lia)];exact h.h.rd.mo.take _) (λx hx=>br x (Um hx)) (by rw[TyZ,<- W,Ui (by lia)];exact Nat.sub_mod_eq_zero_of_mod_eq (by rw[dv,VX])) (by rw[Uv,<- W];lia) (λx hx=>br x (UZ hx))
  rwa [UQ]at z
 refine⟨p,p8,M,D,_,_,rfl,md.mono s8,mt,ok,h.h.rd.pg,J.lst,aC,by rw[<- W];lia,λH9 Y=>?_⟩;rw[h.no];refine ez ?_;rw[Wv TC,show PyData.eqv (.str (eh .no)) (.str "none")=true by decide +kernel];exact k H9 (s8.trans Y)
def Lo{H:Hp}{p:Addr}{M:Md}(h:Mod H p M):∃D,Mt M D/\cP D:=by
 obtain⟨a,b,_,c⟩:=h;cases M with
 | ld=>exact⟨.ld,rfl,trivial⟩
 | pr b=>exact⟨.pr b,rfl,trivial⟩
 | sh ns ms=>exact⟨.sh ⟨p,p,p,p,p,p,p,p,p,p⟩ ns ms,⟨_,rfl⟩,c.2.2.1,c.2.2.2⟩
 | tb es=>exact⟨.tb ⟨p,p,p,p⟩ es,⟨_,rfl⟩,c.2.2⟩
 | br=>exact⟨.br,rfl,trivial⟩
def sv(K:PySem.W.Frag):Sp:=λvs H Q _=>∃a,vs=[.ref a]/\∃ns:e7,aE K H a (ns.map V.int)/\ns.length<=63/\∀H',Q (.bl true) H'
def M6 (T:Txt w K mg t):bz P w K mg base "law" 18 t.xH t.qi ["_law_script"] (sv K):=by
 refine⟨T.Cp,T.yw.kp,T.Q3,T.yw.okQ mH (λvs H Q E h=>by obtain⟨a,rfl,_⟩:=h;rfl) λ_ _ _ _ H vs Q E k h=>?_⟩;obtain⟨a,rfl,J,h1,hc,kq⟩:=h;have Y:=k.units;refine⟨_,(ah (aM (i:=1) mH.nd Z (.inl Z) (aP (MU T) k (ad (aP (MZ T) k (ad (aa 0) (ad ag ae))) ae)))
  (ah (aM (i:=2) mH.nd rfl (.inl rfl) (aP (MP T) k (ad (aa 1) (ad (dO (Tj K) (aa 0) (da ag) (da ag)) ae))))
  (ah (aM (i:=3) mH.nd rfl (.inl rfl) (aP (ML T) k (ad (aa 1) ae)))
  (ah (aM (i:=4) mH.nd rfl (.inl rfl) (aP (BV T) k (ad (aa 3) (ad (aa 2) ae))))
  (ah (aA (av (bi (K:=K) rfl Y) (aB (Ti K) (aa 4) ag (λ_ _=>rfl)) aW (aq _)) (aj (ap (gv (dG js (aP (tJ T) k (ad (aa 3) (ad (aa 1) (ad (aa 2) ae)))) bD (aq _)) (fX (dG (bi (K:=K) rfl Y) (aP (lW T) k (ad (aa 3) (ad (cr (Tk K) T.n_list T5 (ad (aa 2) ae)) ae))) (bh ae) (aq _)))))) aF)
  (aj (ap (gv (dG (bi (K:=K) rfl Y) (aB (Ti K) (aa 4) ag (λ_ _=>rfl)) aW (aq _)) (fX (aP (MY T) k (ad (aa 3) (ad (aa 1) (ad (aa 2) (ad (aa 4) ae)))))))))))))),?_⟩
 refine jO λN eN=>?_;refine⟨a,J,0,Z,h1,λc0 H1 s1=>?_⟩;refine gl c0 Z (λp M H2 s2 d=>?_);subst eN;dsimp only [bP];refine jO λN eN=>?_;have x:=s1.trans s2;refine⟨_,Z,_,Z,_,x.seq h1,λpc H3 F=>?_⟩;have C:d7 (J.map V.int) (some 1) (some 63)=((J.drop 1).take 62).map V.int:=by rw[gP];exact congrArg _ (CY J 1 62)
 rw[C]at F;refine dB p pc M _ rfl (d.mono F.sm) F.lst (by rw[TyZ];lia) (Lo d) (λc row H4 s4 O g l0=>?_);subst eN;dsimp only [bP];refine jO λN eN=>?_;have m:=d.mono (F.sm.trans s4);refine bo p M Z m (λo D H5 R mt s=>?_);subst eN;dsimp only [bP];refine jO λN eN=>?_;have G:=R _ _ O;have ok:=s.koS;refine⟨o,c,D,row,rfl,s,.of G,g,by lia,λq H6 I tl=>?_⟩;subst eN;dsimp only [bP];have ao:=x.trans (F.sm.trans (s4.trans (R.trans I)));have u:=s.mono I;have n:=m.mono (R.trans I);have r:=I _ _ G;cases ef:(eZ D row).f with
 | some z =>
  obtain⟨pl,l,kd⟩:=z;have B:=tl.2 pl l kd ef;refine ce (λL H'=>H6=H'/\L=[some (.ref a),some (.ref p),some (.ref c),some (.ref o),some (.ref q)]) (λnx hn=>?_) ?_
  ·refine aY (.inr (.of B)) (aH (j:=0) Z) ?_;refine ez ?_;exact ak (λe=>Wx e (by decide +kernel)) (λ_=>hn _ _ ⟨rfl,rfl⟩)
  rintro L _ ⟨rfl,rfl⟩;refine aY (.inr (.of B)) (aH (j:=0) Z) ?_;refine ez ?_;refine ak (λ_=>?_) (λe=>Wx (by decide +kernel) e);exact⟨o,p,c,q,M,D,row,pl,l,kd,Z,u,n,mt,r,g,l0,B,ef,λH7 U=>kq _⟩
 | none =>
  obtain⟨us,h0,e⟩:∃us,cg D us []/\row=(aw D 0 us).1:=by
   rcases mK ok row [] [] (sI D) g with ⟨us,r',h,e⟩|⟨us,r',v,b,h,e⟩
   ·have e:row=(aw D 0 us).1++r':=e;by_cases ne:r'=[]
    ·subst ne;rw[TD]at e;exact⟨us,h,e⟩
    ·rw[e,Ap h ne]at ef;cases ef
   ·have e:row=(aw D 0 us).1++((r'++[v])++b):=e;rw[e,Ar h b]at ef;cases ef
  obtain⟨qt,B,_⟩:=tl.1 ef;refine ce (λL H'=>False) (λnx hn=>?_) (λ_ _ z=>z.elim);refine aY (.inr (.of B)) (aH (j:=0) Z) ?_;refine ez ?_;refine ak (λ_=>?_) (λe=>Wx (by decide +kernel) e);refine⟨o,p,c,M,D,us,rfl,u,n,mt,h0,by rw[<- e];exact .of r,by rw[<- e];exact g,by rw[<- e];lia,λqf qr H7 U ab=>?_⟩;refine⟨_,.inl (.of (U _ _ r)),λp8 H8 g8=>?_⟩;have S:=U.trans g8.sm;refine⟨o,p8,D,row,rfl,u.mono S,g8.lst,g,by lia,λH9 s9 rt=>?_,λf q' H9 s9 rt W=>?_⟩
  ·rw[e]at rt;cases oW h0 rt
  ·rw[e]at rt;cases oW h0 rt;refine⟨sz Z,λp9 a9 y=>?_⟩;refine jw (ns:=[]) (ms:=[]) (.of (y.sm _ _ W)) y.lst ?_;exact kq _
end
end My
namespace My
open PySem L2
theorem LR{Pm:List Value->Prop}(h:∀_:Unit,Pm []):∀us:List Value,us.length=0->Pm us
 | [],_=>h ()
theorem bU{Pm:List Value->Prop}(h:∀a,Pm [a]):∀us:List Value,us.length=1->Pm us
 | a::us,e=>LR (Pm:=λus=>Pm (a::us)) (λ_=>h a) us (Up e)
theorem bN{Pm:List Value->Prop}(h:∀a b,Pm [a,b]):∀us:List Value,us.length=2->Pm us
 | a::us,e=>bU (Pm:=λus=>Pm (a::us)) (λb=>h a b) us (Up e)
theorem df{Pm:List Value->Prop}(h:∀a c b,Pm [a,c,b]):∀us:List Value,us.length=3->Pm us
 | a::us,e=>bN (Pm:=λus=>Pm (a::us)) (λc b=>h a c b) us (Up e)
theorem tm{Pm:List Value->Prop}(h:∀a c b d,Pm [a,c,b,d]):∀us:List Value,us.length=4->Pm us
 | a::us,e=>df (Pm:=λus=>Pm (a::us)) (λc b d=>h a c b d) us (Up e)
def Tl{Pm:List Value->Prop}{ds:List Value}{ps:List Str}(h:∀x0 x1,Pm [x0,x1])(e:ps.length=2+ds.length:=by rfl):∀us:List Value,(us++ds).length=ps.length->Pm us:=λus b=>by
 have a:us.length=2:=(by rw[Tq,e]at b;omega);exact bN h us a
def Tm{Pm:List Value->Prop}{ds:List Value}{ps:List Str}(h:∀x0 x1 x2,Pm [x0,x1,x2])(e:ps.length=3+ds.length:=by rfl):∀us:List Value,(us++ds).length=ps.length->Pm us:=λus b=>by
 have a:us.length=3:=(by rw[Tq,e]at b;omega);exact df h us a
def Tn{Pm:List Value->Prop}{ds:List Value}{ps:List Str}(h:∀x0,Pm [x0])(e:ps.length=1+ds.length:=by rfl):∀us:List Value,(us++ds).length=ps.length->Pm us:=λus b=>by
 have a:us.length=1:=(by rw[Tq,e]at b;omega);exact bU h us a
def txt_mk{w:World}{K:W.Frag}{h:Heap}{mg:Str->Option Value}(X:K.In h)(G:h.Ns mainGlobals mg)
 {fa ha a0 a1 da Yt a2 a3 a4 a5 a6 a7 a8 a9 Dd Ef qf dg Sf cg Rf gg ig Xf bg Zf Gb ga Vb Bc lc Mc nb zc Yf Gf Qf tf lf Md ea Jc xe td Df Oc ca Rd Ae cf ve Kc ic Hd yd Vf xf Ie aa dc oc Cc xc te me Af Hf Bf Ce ba Qd Wc Qc fd Fd Lf Kf If Nf eg yf Of hg ng sf vf ag zf Pf nf mf Uf uf Tf rf Jf Mf Cf Wf pf fg Ff hb eb ta pa Ea sa oa ra qa na ua la Ob rb Ka Wa Ya Qa Fa Kb:Addr}{qu hu Vu Ew Rq Su jv av Ov xw Kw kv Xw zv Zu Tw Xu lx tw iu Dv Aq Jj Ti Zh mh No Tr gq ep Fg ij si Lq Yh Ji il gk Ch Tg Ig sh gm Lk Kj vn ml Zj Ij Nd mo Fh ld Fq ll Rc vm Gg Tq jp fh qr Kk Nn zr pr Kq kn re Jg vo Se Nk Dm rn Hh Sd Oj sj dn Ro Do rl Am fk Jd Iq aq pe Fn Xk Zi Xp Yl Gi Zq Rg yp Mh Vj vs se Xr vj ue dj ns Bg tk em ci up bq ln go ul Wq ke ug qn rd Mm Og sk Tp th ol zh pn oi Hm Qm aj ym qq bi Fm Mg hl tj js Up vq Rp un Ho Qg iq vi Bl Zn Ii uk Om Ep Pn ts ok am Dp el Pj Gm nk om Xj bk nm gr Qo ch rj Eo:Option Addr}{mw fx Qn ix Yv Gw Ev Aw Iw Nw yv Nr ar jn cj ti Cr Um xg eo fp Ni Xo Xm yo Xc lp He oq Oe xp Pq mp Bq en Ik Yd Si af ni Hg Ke po oh lo Qp oe Bn Wb bm Ai Xl Vn Ui Pm qc gl De tn vg Ki im Wp Yn Be bh md Sp Wo Fj fl Bi Wg rk Rk pj Ml On yi Xq Qk Wi Wm yl hn Rr tg uq Wn Gn ms jr zo Hc ie Bb tb ib ob vb xb lb pb Db mb Hi Jb Ub Rb Ib Tb Zl:Array (Option Value)}{Iu zu Eu Cv Us gu Vw Sw Cu kw Zt mu ip Vv Mv Bw cv Lt vu rv Xv Qw Mw Ms lv Bv Mu Uw gx Ht mv Qu tv Hw pu It Uu bx sw Lv Fv Tt ow pv yu Cw iv Gt Rw Gu uv yw Iv Ct Ru Du Pw Kv zw Dt ju jq qo qm wi Ld Qj Xh vk Bp jo yc jl yk Jl Sr Il Ic ck Cp Ln zl Qi qe mm Pg hq xl ws Lc To Kh Ll oj qg kf Vk ak kp Cq Ql ud Fl mq nj lr Sg Te er Xn fm pk xk he Ok Gh tp Cl Lm nc vp rs Lh Yi jk zd Mo bj sm Jr xj bc Xg hj kq nr Gr od Zr vh Vh eh Hk hc Io Td sq Rn mi pp Vc Ug Yb uh np Un yq Re Xi gf cq Jh xm an hf Eg Dk us Ar Qr hd Zm Dr rr Ap xo tc Qh Mj Li ek Dg Zd lk Vl Rl Bm Zg ye Go fq Eh Yo Vi Gc nq gd dk cp Vq zi Je fn Vd Im zs xi Mr cc Gq bs Dn on Op kd Lp ze Wh Oi pg uo Qe dq oo Uj ur yn Fc Tj Nj Oq Bj Ym bf hm tl nn Po Bo Xd rm ce Ur Em ei zk fc Dq Ad Al sn og En ff rg Gj Vo zg xh ee fi Ph Sm sg ik pd Vp nl gn Mp ii Id Yj An mn to Gp ed Uo ah Ul ro Nl Ue Fr We sl cl yr Kg pc Cm Cd mr Ao Gl Ei cd bn Dj di Sq xq be Wl Pp tr dr Fi nd ri bl cn co Kr ae sp Hq Ip Nm Ci xd Mk qp fj qk gi ec ho Ye Tk br ui xn Xb Ej ef ys Fp Rh Hp Ge Jq tq Ek Nq Fk sd Yg Bh dp ej wh Ve rq nh gs ai Ko Xe ih Sk Nh Cj Jk Me Lo qh Ng yj Mq Fe El Rj Sj Rm Hl Ee Jm Er yg Ck hh Ed Dl Wr hk Zp wk de gh wo zn Yq ql Dc hi gp dm Vm Jn Gd So Hr zj os es mc Sn Oo ph cm Jp Uc so no hr ir Qq bd Cn lq Pl Br gj Le Gk qs hp pm cs fe Co rp Kp Oh Km Pd Jo Sh zq Ri Sl Ud qi jm Aj Yk Pk vc Zk Hj Yp mj kk uc yh hs ss Uk io Nc Yr Ah uj dl Uq Zc Th sr Kl op ks Pc xr Fo ap Np Ih Zb Wk bp Ag Ak pq Ec Ir pl Bk xs Mi Yc bo:Value}{Di sc qd Sc gc Ze Kd dd Od Pe Bd Wd Tc Tu Ac vd sb kb Ab qb Cb yb Eb Fb zb ub Ol Vg Lb Qb Sb Hb Mb Lr:Nat}{gb Ja Ta Za Ma Sa Pa Va Ra Xa Ga La Ia u0 u1 u3 u4 u5 u6 u7 u8 u9 Jt xt Ps Fs Ft Ot Hs:Tok}{Ws ad:Array DictEntry}{cb db:Int}{bb fb Aa va Ba Ca ja ma xa Da za ya Pb Ha ab Oa Ua Na Nb:Array Value}
 (lX:W.nsIn K mainGlobals "Faulty"=some (some (.ref fa)))
 (m5:W.nsIn K mainGlobals "TongueError"=some (some (.ref ha)))
 (gB:W.findIn K (.ref fa) "__getattribute__"=some (some (.builtin "BaseException.__getattribute__")))
 (dB:W.findIn K (.ref fa) "__getattr__"=some none)
 (jB:W.mroIn K fa (.type "BaseException")=some true)
 (lB:W.mroIn K fa (.type "object")=some true)
 (rB:W.hasDictIn K fa=true)
 (pB:W.findIn K (.ref fa) "__class__"=some (some (.builtin "object.__class__")))
 (fB:W.specialIn K (.builtin "object.__class__") "__get__"=some (some (.builtin "getset_descriptor.__get__")))
 (cB:W.takesIn K (.builtin "object.__class__")=some true)
 (pA:W.exmOne K (.ref fa) (.ref fa)=some true)
 (jx:fo K fa iB "ValueError.__new__"=true)
 (nP:W.findIn K (.ref fa) "__init__"=some (some (.ref a0)))
 (nO:W.isFn K (.ref a0)=true)
 (nN:W.keepIn K (.ref fa)=true)
 (nL:W.findIn K (.ref fa) "__setattr__"=some (some (.builtin "object.__setattr__")))
 (zA:W.findIn K (.ref fa) "kind"=some none)
 (oA:W.findIn K (.ref fa) "length"=some none)
 (rA:W.findIn K (.ref fa) "place"=some none)
 (gF:W.specialIn K (.ref ha) "__getattribute__"=some (some (.builtin "type.__getattribute__")))
 (uF:W.readsIn K ha (.type "type")=true)
 (dJ:W.findCls K (.ref ha) (.type "type") "__init__"=some (.val (.builtin "ValueError.__init__")))
 (iT:K.lookup a0=some ⟨Iu,qu,.func (W.fnOf "__init__" "Faulty.__init__" (aK lM) (aI lM) (ao lM) .none zu Eu Cv hu Us gu),mw⟩)
 (nR:W.codeIn K Us "Faulty.__init__"=true)
 (vR:W.keepIn K (.ref a0)=true)
 (wO:W.nsIn K mainGlobals "Reader"=some (some (.ref da)))
 (qI:W.plainGet K da Str.empty=true)
 (q8:W.hasDictIn K da=true)
 (qS:W.plainOver K da=true)
 (qB:W.findIn K (.ref da) "__setattr__"=some (some (.builtin "object.__setattr__")))
 (wy:W.makesIn K da=true)
 (wG:W.keepIn K (.ref da)=true)
 (vZ:W.findIn K (.ref da) "__class__"=some (some (.builtin "object.__class__")))
 (vT:W.specialIn K (.builtin "object.__class__") "__get__"=some (some (.builtin "getset_descriptor.__get__")))
 (vM:W.takesIn K (.builtin "object.__class__")=some true)
 (tB:W.mroIn K da (.type "object")=some true)
 (wt:W.findIn K (.ref da) "at_page"=some none)
 (wr:W.findIn K (.ref da) "begun"=some none)
 (wq:W.findIn K (.ref da) "ended"=some none)
 (wp:W.findIn K (.ref da) "many"=some none)
 (wn:W.findIn K (.ref da) "met"=some none)
 (wm:W.findIn K (.ref da) "place"=some none)
 (wl:W.findIn K (.ref da) "tongue"=some none)
 (HS:W.findIn K (.ref da) "__init__"=some (some (.ref a1)))
 (bR:W.isFn K (.ref a1)=true)
 (zR:K.lookup a1=some ⟨Vw,Vu,.func (W.fnOf "__init__" "Reader.__init__" (aK ls) (aI ls) (ao ls) (.ref Yt) Sw Cu kw Ew Zt mu),fx⟩)
 (sS:W.codeIn K Zt "Reader.__init__"=true)
 (RQ:W.keepIn K (.ref a1)=true)
 (BR:K.lookup Yt=some ⟨ip,Rq,.seq ([.int 0 gb]:List Value).toArray Di,Qn⟩)
 (GR:W.findIn K (.ref da) "faults"=some (some (.ref a2)))
 (yS:W.isFn K (.ref a2)=true)
 (JR:K.lookup a2=some ⟨Vv,Su,.func (W.fnOf "faults" "Reader.faults" (aK lD) (aI lD) (ao lD) .none Mv Bw cv jv Lt vu),ix⟩)
 (JT:W.codeIn K Lt "Reader.faults"=true)
 (NQ:W.keepIn K (.ref a2)=true)
 (uR:W.findIn K (.ref da) "ending"=some (some (.ref a3)))
 (XR:W.isFn K (.ref a3)=true)
 (dR:K.lookup a3=some ⟨rv,av,.func (W.fnOf "ending" "Reader.ending" (aK lE) (aI lE) (ao lE) .none Xv Qw Mw Ov Ms lv),Yv⟩)
 (ZQ:W.codeIn K Ms "Reader.ending"=true)
 (KQ:W.keepIn K (.ref a3)=true)
 (KR:W.findIn K (.ref da) "feed"=some (some (.ref a4)))
 (QS:W.isFn K (.ref a4)=true)
 (lR:K.lookup a4=some ⟨Bv,xw,.func (W.fnOf "feed" "Reader.feed" (aK lC) (aI lC) (ao lC) .none Mu Uw gx Kw Ht mv),Gw⟩)
 (WQ:W.codeIn K Ht "Reader.feed"=true)
 (PQ:W.keepIn K (.ref a4)=true)
 (rT:W.findIn K (.ref da) "end"=some (some (.ref a5)))
 (QQ:W.isFn K (.ref a5)=true)
 (DR:K.lookup a5=some ⟨Qu,kv,.func (W.fnOf "end" "Reader.end" (aK lF) (aI lF) (ao lF) .none tv Hw pu Xw It Uu),Ev⟩)
 (YQ:W.codeIn K It "Reader.end"=true)
 (HQ:W.keepIn K (.ref a5)=true)
 (jR:W.findIn K (.ref da) "take"=some (some (.ref a6)))
 (XQ:W.isFn K (.ref a6)=true)
 (wR:K.lookup a6=some ⟨bx,zv,.func (W.fnOf "take" "Reader.take" (aK lg) (aI lg) (ao lg) .none sw Lv Fv Zu Tt ow),Aw⟩)
 (pR:W.codeIn K Tt "Reader.take"=true)
 (GQ:W.keepIn K (.ref a6)=true)
 (ZS:W.findIn K (.ref da) "look_at_begun"=some (some (.ref a7)))
 (FT:W.isFn K (.ref a7)=true)
 (zT:K.lookup a7=some ⟨pv,Tw,.func (W.fnOf "look_at_begun" "Reader.look_at_begun" (aK lm) (aI lm) (ao lm) .none yu Cw iv Xu Gt Rw),Iw⟩)
 (mR:W.codeIn K Gt "Reader.look_at_begun"=true)
 (LQ:W.keepIn K (.ref a7)=true)
 (cT:W.findIn K (.ref da) "meet_none"=some (some (.ref a8)))
 (nT:W.isFn K (.ref a8)=true)
 (XS:K.lookup a8=some ⟨Gu,lx,.func (W.fnOf "meet_none" "Reader.meet_none" (aK li) (aI li) (ao li) .none uv yw Iv tw Ct Ru),Nw⟩)
 (xR:W.codeIn K Ct "Reader.meet_none"=true)
 (FQ:W.keepIn K (.ref a8)=true)
 (WR:W.findIn K (.ref da) "meet"=some (some (.ref a9)))
 (LR:W.isFn K (.ref a9)=true)
 (YS:K.lookup a9=some ⟨Du,iu,.func (W.fnOf "meet" "Reader.meet" (aK lj) (aI lj) (ao lj) .none Pw Kv zw Dv Dt ju),yv⟩)
 (QR:W.codeIn K Dt "Reader.meet"=true)
 (JQ:W.keepIn K (.ref a9)=true)
 (fO:W.findIn K (.ref da) "note"=some (some (.ref Dd)))
 (lN:W.isFn K (.ref Dd)=true)
 (MF:K.lookup Dd=some ⟨jq,Aq,.func (W.fnOf "note" "Reader.note" (aK lh) (aI lh) (ao lh) .none qo qm wi Jj Ld Qj),Nr⟩)
 (GJ:W.codeIn K Ld "Reader.note"=true)
 (bF:W.keepIn K (.ref Dd)=true)
 (mK:W.nsIn K mainGlobals "read"=some (some (.ref Ef)))
 (rI:K.lookup Ef=some ⟨Xh,Ti,.func (W.fnOf "read" "read" (aK kj) (aI kj) (ao kj) .none vk Bp jo Zh yc jl),ar⟩)
 (RL:W.codeIn K yc "read"=true)
 (oF:W.keepIn K (.ref Ef)=true)
 (xQ:W.nsIn K mainGlobals "rest_of"=some (some (.ref qf)))
 (cO:K.lookup qf=some ⟨yk,mh,.func (W.fnOf "rest_of" "rest_of" (aK ki) (aI ki) (ao ki) .none Jl Sr Il No Ic ck),jn⟩)
 (bM:W.codeIn K Ic "rest_of"=true)
 (oH:W.keepIn K (.ref qf)=true)
 (fJ:W.nsIn K mainGlobals "check_room"=some (some (.ref dg)))
 (iQ:K.lookup dg=some ⟨Cp,Tr,.func (W.fnOf "check_room" "check_room" (aK kJ) (aI kJ) (ao kJ) .none Ln zl Qi gq qe mm),cj⟩)
 (mG:W.codeIn K qe "check_room"=true)
 (zP:W.keepIn K (.ref dg)=true)
 (mL:W.nsIn K mainGlobals "together"=some (some (.ref Sf)))
 (gQ:K.lookup Sf=some ⟨Pg,ep,.func (W.fnOf "together" "together" (aK kg) (aI kg) (ao kg) .none hq xl ws Fg Lc To),ti⟩)
 (cL:W.codeIn K Lc "together"=true)
 (zQ:W.keepIn K (.ref Sf)=true)
 (yI:W.nsIn K mainGlobals "is_number"=some (some (.ref cg)))
 (yL:K.lookup cg=some ⟨Kh,ij,.func (W.fnOf "is_number" "is_number" (aK kz) (aI kz) (ao kz) .none Ll oj qg si kf Vk),Cr⟩)
 (rP:W.codeIn K kf "is_number"=true)
 (pF:W.keepIn K (.ref cg)=true)
 (aH:W.nsIn K mainGlobals "is_byte"=some (some (.ref Rf)))
 (aP:K.lookup Rf=some ⟨ak,Lq,.func (W.fnOf "is_byte" "is_byte" (aK kF) (aI kF) (ao kF) .none kp Cq Ql Yh ud Fl),Um⟩)
 (gG:W.codeIn K ud "is_byte"=true)
 (mO:W.keepIn K (.ref Rf)=true)
 (RG:W.nsIn K mainGlobals "is_head"=some (some (.ref gg)))
 (dH:K.lookup gg=some ⟨mq,Ji,.func (W.fnOf "is_head" "is_head" (aK kD) (aI kD) (ao kD) .none nj lr Sg il Te er),xg⟩)
 (YG:W.codeIn K Te "is_head"=true)
 (tH:W.keepIn K (.ref gg)=true)
 (uL:W.nsIn K mainGlobals "is_tail"=some (some (.ref ig)))
 (pL:K.lookup ig=some ⟨Xn,gk,.func (W.fnOf "is_tail" "is_tail" (aK ku) (aI ku) (ao ku) .none fm pk xk Ch he Ok),eo⟩)
 (tK:W.codeIn K he "is_tail"=true)
 (rJ:W.keepIn K (.ref ig)=true)
 (iG:W.nsIn K mainGlobals "is_seen_byte"=some (some (.ref Xf)))
 (JP:K.lookup Xf=some ⟨Gh,Tg,.func (W.fnOf "is_seen_byte" "is_seen_byte" (aK ky) (aI ky) (ao ky) .none tp Cl Lm Ig nc vp),fp⟩)
 (cG:W.codeIn K nc "is_seen_byte"=true)
 (TP:W.keepIn K (.ref Xf)=true)
 (xH:W.nsIn K mainGlobals "is_sign"=some (some (.ref bg)))
 (cQ:K.lookup bg=some ⟨rs,sh,.func (W.fnOf "is_sign" "is_sign" (aK kx) (aI kx) (ao kx) .none Lh Yi jk gm zd Mo),Ni⟩)
 (YJ:W.codeIn K zd "is_sign"=true)
 (jH:W.keepIn K (.ref bg)=true)
 (UJ:W.nsIn K mainGlobals "is_row"=some (some (.ref Zf)))
 (zO:K.lookup Zf=some ⟨bj,Lk,.func (W.fnOf "is_row" "is_row" (aK jg) (aI jg) (ao jg) .none sm Jr xj Kj bc Xg),Xo⟩)
 (iH:W.codeIn K bc "is_row"=true)
 (NP:W.keepIn K (.ref Zf)=true)
 (wL:W.nsIn K mainGlobals "Tongue"=some (some (.ref ga)))
 (qE:W.plainGet K ga Str.empty=true)
 (qX:W.hasDictIn K ga=true)
 (qP:W.plainOver K ga=true)
 (qy:W.findIn K (.ref ga) "__setattr__"=some (some (.builtin "object.__setattr__")))
 (wv:W.makesIn K ga=true)
 (wD:W.keepIn K (.ref ga)=true)
 (wJ:W.findIn K (.ref ga) "__init__"=some (some (.builtin "object.__init__")))
 (vW:W.findIn K (.ref ga) "__class__"=some (some (.builtin "object.__class__")))
 (vP:W.specialIn K (.builtin "object.__class__") "__get__"=some (some (.builtin "getset_descriptor.__get__")))
 (vJ:W.takesIn K (.builtin "object.__class__")=some true)
 (uB:W.mroIn K ga (.type "object")=some true)
 (zF:W.findIn K (.ref ga) "unit"=some (some (.ref Gb)))
 (rD:W.isFn K (.ref Gb)=true)
 (HF:K.lookup Gb=some ⟨hj,vn,.func (W.fnOf "unit" "Tongue.unit" (aK kN) (aI kN) (ao kN) .none kq nr Gr ml od Zr),Xm⟩)
 (aO:W.codeIn K od "Tongue.unit"=true)
 (QC:W.keepIn K (.ref Gb)=true)
 (rO:W.findIn K (.ref ga) "whole"=some (some (.ref Vb)))
 (KJ:W.isFn K (.ref Vb)=true)
 (mJ:K.lookup Vb=some ⟨vh,Zj,.func (W.fnOf "whole" "Tongue.whole" (aK kM) (aI kM) (ao kM) (.ref Bc) Vh eh Hk Ij hc Io),yo⟩)
 (aG:W.codeIn K hc "Tongue.whole"=true)
 (rE:W.keepIn K (.ref Vb)=true)
 (eO:K.lookup Bc=some ⟨Td,Nd,.seq ([.int 0 Ja]:List Value).toArray sc,Xc⟩)
 (cF:W.findIn K (.ref ga) "fill"=some (some (.ref lc)))
 (QH:W.isFn K (.ref lc)=true)
 (ZG:K.lookup lc=some ⟨sq,mo,.func (W.fnOf "fill" "Tongue.fill" (aK kP) (aI kP) (ao kP) (.ref Mc) Rn mi pp Fh Vc Ug),lp⟩)
 (xF:W.codeIn K Vc "Tongue.fill"=true)
 (sE:W.keepIn K (.ref lc)=true)
 (oO:K.lookup Mc=some ⟨Yb,ld,.seq ([.int 0 Ta]:List Value).toArray qd,He⟩)
 (qM:W.findIn K (.ref ga) "look"=some (some (.ref nb)))
 (gD:W.isFn K (.ref nb)=true)
 (rK:K.lookup nb=some ⟨uh,Fq,.func (W.fnOf "look" "Tongue.look" (aK kO) (aI kO) (ao kO) (.ref zc) np Un yq ll Re Xi),oq⟩)
 (fL:W.codeIn K Re "Tongue.look"=true)
 (KC:W.keepIn K (.ref nb)=true)
 (CQ:K.lookup zc=some ⟨gf,Rc,.seq ([.int 0 Za]:List Value).toArray Sc,Oe⟩)
 (zG:W.nsIn K mainGlobals "length_behind"=some (some (.ref Yf)))
 (fK:K.lookup Yf=some ⟨cq,vm,.func (W.fnOf "length_behind" "length_behind" (aK ko) (aI ko) (ao ko) .none Jh xm an Gg hf Eg),xp⟩)
 (PP:W.codeIn K hf "length_behind"=true)
 (xO:W.keepIn K (.ref Yf)=true)
 (JH:W.nsIn K mainGlobals "bounds_behind"=some (some (.ref Gf)))
 (nF:K.lookup Gf=some ⟨Dk,Tq,.func (W.fnOf "bounds_behind" "bounds_behind" (aK kK) (aI kK) (ao kK) .none us Ar Qr jp hd Zm),Pq⟩)
 (WL:W.codeIn K hd "bounds_behind"=true)
 (yG:W.keepIn K (.ref Gf)=true)
 (rM:W.nsIn K mainGlobals "fits_behind"=some (some (.ref Qf)))
 (XH:K.lookup Qf=some ⟨Dr,fh,.func (W.fnOf "fits_behind" "fits_behind" (aK kG) (aI kG) (ao kG) .none rr Ap xo qr tc Qh),mp⟩)
 (PJ:W.codeIn K tc "fits_behind"=true)
 (TF:W.keepIn K (.ref Qf)=true)
 (jN:W.nsIn K mainGlobals "missing"=some (some (.ref tf)))
 (ZP:K.lookup tf=some ⟨Mj,Kk,.func (W.fnOf "missing" "missing" (aK km) (aI km) (ao km) .none Li ek Dg Nn Zd lk),Bq⟩)
 (GF:W.codeIn K Zd "missing"=true)
 (xN:W.keepIn K (.ref tf)=true)
 (vG:W.nsIn K mainGlobals "carried"=some (some (.ref lf)))
 (dI:K.lookup lf=some ⟨Vl,zr,.func (W.fnOf "carried" "carried" (aK jh) (aI jh) (ao jh) .none Rl Bm Zg pr ye Go),en⟩)
 (uH:W.codeIn K ye "carried"=true)
 (MJ:W.keepIn K (.ref lf)=true)
 (wQ:W.nsIn K mainGlobals "LeadTongue"=some (some (.ref ea)))
 (qK:W.plainGet K ea Str.empty=true)
 (rc:W.hasDictIn K ea=true)
 (qU:W.plainOver K ea=true)
 (qD:W.findIn K (.ref ea) "__setattr__"=some (some (.builtin "object.__setattr__")))
 (wA:W.makesIn K ea=true)
 (wI:W.keepIn K (.ref ea)=true)
 (wK:W.findIn K (.ref ea) "__init__"=some (some (.builtin "object.__init__")))
 (wb:W.findIn K (.ref ea) "__class__"=some (some (.builtin "object.__class__")))
 (vV:W.specialIn K (.builtin "object.__class__") "__get__"=some (some (.builtin "getset_descriptor.__get__")))
 (vO:W.takesIn K (.builtin "object.__class__")=some true)
 (bB:W.mroIn K ea (.type "object")=some true)
 (sO:W.findIn K (.ref ea) "whole"=some (some (.ref Md)))
 (gJ:W.isFn K (.ref Md)=true)
 (CG:K.lookup Md=some ⟨fq,Kq,.func (W.fnOf "whole" "LeadTongue.whole" (aK lL) (aI lL) (ao lL) (.ref Jc) Eh Yo Vi kn Gc nq),Ik⟩)
 (VN:W.codeIn K Gc "LeadTongue.whole"=true)
 (VD:W.keepIn K (.ref Md)=true)
 (pK:K.lookup Jc=some ⟨gd,re,.seq ([.int 0 Ma]:List Value).toArray gc,Yd⟩)
 (bI:W.findIn K (.ref ea) "fill"=some (some (.ref xe)))
 (fM:W.isFn K (.ref xe)=true)
 (eQ:K.lookup xe=some ⟨dk,Jg,.func (W.fnOf "fill" "LeadTongue.fill" (aK jj) (aI jj) (ao jj) (.ref td) cp Vq zi vo Je fn),Si⟩)
 (RP:W.codeIn K Je "LeadTongue.fill"=true)
 (aF:W.keepIn K (.ref xe)=true)
 (JM:K.lookup td=some ⟨Vd,Se,.seq ([.int 0 Sa]:List Value).toArray Ze,af⟩)
 (bL:W.nsIn K mainGlobals "sign_of"=some (some (.ref Df)))
 (yO:K.lookup Df=some ⟨Im,Nk,.func (W.fnOf "sign_of" "sign_of" (aK kh) (aI kh) (ao kh) .none zs xi Mr Dm cc Gq),ni⟩)
 (QJ:W.codeIn K cc "sign_of"=true)
 (YL:W.keepIn K (.ref Df)=true)
 (wP:W.nsIn K mainGlobals "PairTongue"=some (some (.ref ca)))
 (qJ:W.plainGet K ca Str.empty=true)
 (q9:W.hasDictIn K ca=true)
 (qT:W.plainOver K ca=true)
 (qC:W.findIn K (.ref ca) "__setattr__"=some (some (.builtin "object.__setattr__")))
 (wz:W.makesIn K ca=true)
 (wH:W.keepIn K (.ref ca)=true)
 (wa:W.findIn K (.ref ca) "__class__"=some (some (.builtin "object.__class__")))
 (vU:W.specialIn K (.builtin "object.__class__") "__get__"=some (some (.builtin "getset_descriptor.__get__")))
 (vN:W.takesIn K (.builtin "object.__class__")=some true)
 (aB:W.mroIn K ca (.type "object")=some true)
 (wu:W.findIn K (.ref ca) "order"=some none)
 (vH:W.findIn K (.ref ca) "__init__"=some (some (.ref Oc)))
 (xK:W.isFn K (.ref Oc)=true)
 (mF:K.lookup Oc=some ⟨bs,rn,.func (W.fnOf "__init__" "PairTongue.__init__" (aK lJ) (aI lJ) (ao lJ) (.ref Rd) Dn on Op Hh kd Lp),Hg⟩)
 (bK:W.codeIn K kd "PairTongue.__init__"=true)
 (XF:W.keepIn K (.ref Oc)=true)
 (bQ:K.lookup Rd=some ⟨ze,Sd,.seq ([.str "high" Pa]:List Value).toArray Kd,Ke⟩)
 (mH:W.findIn K (.ref ca) "unit"=some (some (.ref Ae)))
 (iJ:W.isFn K (.ref Ae)=true)
 (CK:K.lookup Ae=some ⟨Wh,Oj,.func (W.fnOf "unit" "PairTongue.unit" (aK lH) (aI lH) (ao lH) .none Oi pg uo sj Qe dq),po⟩)
 (YM:W.codeIn K Qe "PairTongue.unit"=true)
 (YD:W.keepIn K (.ref Ae)=true)
 (jG:W.findIn K (.ref ca) "turned"=some (some (.ref cf)))
 (DP:W.isFn K (.ref cf)=true)
 (nG:K.lookup cf=some ⟨oo,dn,.func (W.fnOf "turned" "PairTongue.turned" (aK lI) (aI lI) (ao lI) .none Uj ur yn Ro Fc Tj),oh⟩)
 (YF:W.codeIn K Fc "PairTongue.turned"=true)
 (RD:W.keepIn K (.ref cf)=true)
 (jK:W.findIn K (.ref ca) "units_in"=some (some (.ref ve)))
 (FJ:W.isFn K (.ref ve)=true)
 (FN:K.lookup ve=some ⟨Nj,Do,.func (W.fnOf "units_in" "PairTongue.units_in" (aK ji) (aI ji) (ao ji) .none Oq Bj Ym rl bf hm),lo⟩)
 (pG:W.codeIn K bf "PairTongue.units_in"=true)
 (zE:W.keepIn K (.ref ve)=true)
 (lQ:W.findIn K (.ref ca) "whole"=some (some (.ref Kc)))
 (tG:W.isFn K (.ref Kc)=true)
 (VK:K.lookup Kc=some ⟨tl,Am,.func (W.fnOf "whole" "PairTongue.whole" (aK lG) (aI lG) (ao lG) (.ref ic) nn Po Bo fk Xd rm),Qp⟩)
 (tQ:W.codeIn K Xd "PairTongue.whole"=true)
 (uE:W.keepIn K (.ref Kc)=true)
 (TG:K.lookup ic=some ⟨ce,Jd,.seq ([.int 0 Va]:List Value).toArray dd,oe⟩)
 (jQ:W.findIn K (.ref ca) "fill"=some (some (.ref Hd)))
 (TJ:W.isFn K (.ref Hd)=true)
 (XN:K.lookup Hd=some ⟨Ur,Iq,.func (W.fnOf "fill" "PairTongue.fill" (aK lK) (aI lK) (ao lK) (.ref yd) Em ei zk aq fc Dq),Bn⟩)
 (aN:W.codeIn K fc "PairTongue.fill"=true)
 (OD:W.keepIn K (.ref Hd)=true)
 (KH:K.lookup yd=some ⟨Ad,pe,.seq ([.int 0 Ra]:List Value).toArray Od,Wb⟩)
 (sG:W.nsIn K mainGlobals "begins"=some (some (.ref Vf)))
 (jO:K.lookup Vf=some ⟨Al,Fn,.func (W.fnOf "begins" "begins" (aK kL) (aI kL) (ao kL) .none sn og En Xk ff rg),bm⟩)
 (yH:W.codeIn K ff "begins"=true)
 (SJ:W.keepIn K (.ref Vf)=true)
 (XK:W.nsIn K mainGlobals "places_in"=some (some (.ref xf)))
 (ZL:K.lookup xf=some ⟨Gj,Zi,.func (W.fnOf "places_in" "places_in" (aK kl) (aI kl) (ao kl) .none Vo zg xh Xp ee fi),Ai⟩)
 (uJ:W.codeIn K ee "places_in"=true)
 (CP:W.keepIn K (.ref xf)=true)
 (wN:W.nsIn K mainGlobals "ShiftTongue"=some (some (.ref aa)))
 (qH:W.plainGet K aa Str.empty=true)
 (qZ:W.hasDictIn K aa=true)
 (qR:W.plainOver K aa=true)
 (qA:W.findIn K (.ref aa) "__setattr__"=some (some (.builtin "object.__setattr__")))
 (wx:W.makesIn K aa=true)
 (wF:W.keepIn K (.ref aa)=true)
 (vY:W.findIn K (.ref aa) "__class__"=some (some (.builtin "object.__class__")))
 (vS:W.specialIn K (.builtin "object.__class__") "__get__"=some (some (.builtin "getset_descriptor.__get__")))
 (vL:W.takesIn K (.builtin "object.__class__")=some true)
 (vA:W.mroIn K aa (.type "object")=some true)
 (wj:W.findIn K (.ref aa) "lists"=some none)
 (wg:W.findIn K (.ref aa) "places"=some none)
 (wf:W.findIn K (.ref aa) "shifted"=some none)
 (DK:W.findIn K (.ref aa) "__init__"=some (some (.ref Ie)))
 (oG:W.isFn K (.ref Ie)=true)
 (pO:K.lookup Ie=some ⟨Ph,Yl,.func (W.fnOf "__init__" "ShiftTongue.__init__" (aK kY) (aI kY) (ao kY) .none Sm sg ik Gi pd Vp),Xl⟩)
 (VM:W.codeIn K pd "ShiftTongue.__init__"=true)
 (gP:W.keepIn K (.ref Ie)=true)
 (pI:W.findIn K (.ref aa) "row_beyond"=some (some (.ref dc)))
 (RN:W.isFn K (.ref dc)=true)
 (dN:K.lookup dc=some ⟨nl,Zq,.func (W.fnOf "row_beyond" "ShiftTongue.row_beyond" (aK kX) (aI kX) (ao kX) .none gn Mp ii Rg Id Yj),Vn⟩)
 (UG:W.codeIn K Id "ShiftTongue.row_beyond"=true)
 (oE:W.keepIn K (.ref dc)=true)
 (VL:W.findIn K (.ref aa) "sign_of"=some (some (.ref oc)))
 (jM:W.isFn K (.ref oc)=true)
 (cH:K.lookup oc=some ⟨An,yp,.func (W.fnOf "sign_of" "ShiftTongue.sign_of" (aK kW) (aI kW) (ao kW) .none mn to Gp Mh ed Uo),Ui⟩)
 (zL:W.codeIn K ed "ShiftTongue.sign_of"=true)
 (tE:W.keepIn K (.ref oc)=true)
 (fH:W.findIn K (.ref aa) "whole"=some (some (.ref Cc)))
 (ZM:W.isFn K (.ref Cc)=true)
 (rN:K.lookup Cc=some ⟨ah,Vj,.func (W.fnOf "whole" "ShiftTongue.whole" (aK kU) (aI kU) (ao kU) (.ref xc) Ul ro Nl vs Ue Fr),Pm⟩)
 (WK:W.codeIn K Ue "ShiftTongue.whole"=true)
 (ZD:W.keepIn K (.ref Cc)=true)
 (bJ:K.lookup xc=some ⟨We,se,.seq ([.int 0 Xa]:List Value).toArray Pe,qc⟩)
 (cN:W.findIn K (.ref aa) "fill"=some (some (.ref te)))
 (HN:W.isFn K (.ref te)=true)
 (YK:K.lookup te=some ⟨sl,Xr,.func (W.fnOf "fill" "ShiftTongue.fill" (aK kZ) (aI kZ) (ao kZ) (.ref me) cl yr Kg vj pc Cm),gl⟩)
 (JG:W.codeIn K pc "ShiftTongue.fill"=true)
 (jE:W.keepIn K (.ref te)=true)
 (oM:K.lookup me=some ⟨Cd,ue,.seq ([.int 0 Ga]:List Value).toArray Bd,De⟩)
 (VF:W.nsIn K mainGlobals "is_entry"=some (some (.ref Af)))
 (WP:K.lookup Af=some ⟨mr,dj,.func (W.fnOf "is_entry" "is_entry" (aK kE) (aI kE) (ao kE) .none Ao Gl Ei ns cd bn),tn⟩)
 (QG:W.codeIn K cd "is_entry"=true)
 (SM:W.keepIn K (.ref Af)=true)
 (WM:W.nsIn K mainGlobals "collide"=some (some (.ref Hf)))
 (DQ:K.lookup Hf=some ⟨Dj,Bg,.func (W.fnOf "collide" "collide" (aK kH) (aI kH) (ao kH) .none di Sq xq tk be Wl),vg⟩)
 (eN:W.codeIn K be "collide"=true)
 (nQ:W.keepIn K (.ref Hf)=true)
 (JN:W.nsIn K mainGlobals "check_table"=some (some (.ref Bf)))
 (NK:K.lookup Bf=some ⟨Pp,em,.func (W.fnOf "check_table" "check_table" (aK kI) (aI kI) (ao kI) .none tr dr Fi ci nd ri),Ki⟩)
 (uO:W.codeIn K nd "check_table"=true)
 (PK:W.keepIn K (.ref Bf)=true)
 (wM:W.nsIn K mainGlobals "TableTongue"=some (some (.ref ba)))
 (qG:W.plainGet K ba Str.empty=true)
 (qY:W.hasDictIn K ba=true)
 (qQ:W.plainOver K ba=true)
 (qz:W.findIn K (.ref ba) "__setattr__"=some (some (.builtin "object.__setattr__")))
 (ww:W.makesIn K ba=true)
 (wE:W.keepIn K (.ref ba)=true)
 (vX:W.findIn K (.ref ba) "__class__"=some (some (.builtin "object.__class__")))
 (vQ:W.specialIn K (.builtin "object.__class__") "__get__"=some (some (.builtin "getset_descriptor.__get__")))
 (vK:W.takesIn K (.builtin "object.__class__")=some true)
 (uA:W.mroIn K ba (.type "object")=some true)
 (we:W.findIn K (.ref ba) "rest_by_row"=some none)
 (wd:W.findIn K (.ref ba) "row_by_sign"=some none)
 (wc:W.findIn K (.ref ba) "sign_by_row"=some none)
 (tL:W.findIn K (.ref ba) "__init__"=some (some (.ref Ce)))
 (MN:W.isFn K (.ref Ce)=true)
 (eG:K.lookup Ce=some ⟨bl,up,.func (W.fnOf "__init__" "TableTongue.__init__" (aK kR) (aI kR) (ao kR) .none cn co Kr bq ae sp),im⟩)
 (VP:W.codeIn K ae "TableTongue.__init__"=true)
 (sI:W.keepIn K (.ref Ce)=true)
 (bO:W.findIn K (.ref ba) "enter"=some (some (.ref Qd)))
 (lO:W.isFn K (.ref Qd)=true)
 (QK:K.lookup Qd=some ⟨Hq,ln,.func (W.fnOf "enter" "TableTongue.enter" (aK kT) (aI kT) (ao kT) .none Ip Nm Ci go xd Mk),Wp⟩)
 (yK:W.codeIn K xd "TableTongue.enter"=true)
 (eE:W.keepIn K (.ref Qd)=true)
 (yF:W.findIn K (.ref ba) "whole"=some (some (.ref Wc)))
 (GK:W.isFn K (.ref Wc)=true)
 (pQ:K.lookup Wc=some ⟨qp,ul,.func (W.fnOf "whole" "TableTongue.whole" (aK kQ) (aI kQ) (ao kQ) (.ref Qc) fj qk gi Wq ec ho),Yn⟩)
 (jF:W.codeIn K ec "TableTongue.whole"=true)
 (WD:W.keepIn K (.ref Wc)=true)
 (rG:K.lookup Qc=some ⟨Ye,ke,.seq ([.int 0 La]:List Value).toArray Wd,Be⟩)
 (uK:W.findIn K (.ref ba) "fill"=some (some (.ref fd)))
 (yQ:W.isFn K (.ref fd)=true)
 (iM:K.lookup fd=some ⟨Tk,ug,.func (W.fnOf "fill" "TableTongue.fill" (aK kS) (aI kS) (ao kS) (.ref Fd) br ui xn qn Xb Ej),bh⟩)
 (uP:W.codeIn K Xb "TableTongue.fill"=true)
 (QD:W.keepIn K (.ref fd)=true)
 (HH:K.lookup Fd=some ⟨ef,rd,.seq ([.int 0 Ia]:List Value).toArray Tc,md⟩)
 (XM:W.nsIn K mainGlobals "_law_drawn"=some (some (.ref Lf)))
 (dG:K.lookup Lf=some ⟨ys,Mm,.func (W.fnOf "_law_drawn" "_law_drawn" (aK ka) (aI ka) (ao ka) .none Fp Rh Hp Og Ge Jq),Sp⟩)
 (PN:W.codeIn K Ge "_law_drawn"=true)
 (MK:W.keepIn K (.ref Lf)=true)
 (PL:W.nsIn K mainGlobals "_law_is_number"=some (some (.ref Kf)))
 (eF:K.lookup Kf=some ⟨tq,sk,.func (W.fnOf "_law_is_number" "_law_is_number" (aK j7) (aI j7) (ao j7) .none Ek Nq Fk Tp sd Yg),Wo⟩)
 (pJ:W.codeIn K sd "_law_is_number"=true)
 (pM:W.keepIn K (.ref Kf)=true)
 (zJ:W.nsIn K mainGlobals "_law_mixed"=some (some (.ref If)))
 (CN:K.lookup If=some ⟨Bh,th,.func (W.fnOf "_law_mixed" "_law_mixed" (aK j4) (aI j4) (ao j4) .none dp ej wh ol Ve rq),Fj⟩)
 (YH:W.codeIn K Ve "_law_mixed"=true)
 (ZF:W.keepIn K (.ref If)=true)
 (RK:W.nsIn K mainGlobals "_law_gapped"=some (some (.ref Nf)))
 (aM:K.lookup Nf=some ⟨nh,zh,.func (W.fnOf "_law_gapped" "_law_gapped" (aK j8) (aI j8) (ao j8) .none gs ai Ko pn Xe ih),fl⟩)
 (VH:W.codeIn K Xe "_law_gapped"=true)
 (DG:W.keepIn K (.ref Nf)=true)
 (cJ:W.nsIn K mainGlobals "_law_as_sign"=some (some (.ref eg)))
 (UL:K.lookup eg=some ⟨Sk,oi,.func (W.fnOf "_law_as_sign" "_law_as_sign" (aK kc) (aI kc) (ao kc) .none Nh Cj Jk Hm Me Lo),Bi⟩)
 (vI:W.codeIn K Me "_law_as_sign"=true)
 (IK:W.keepIn K (.ref eg)=true)
 (WN:W.nsIn K mainGlobals "_law_lists"=some (some (.ref yf)))
 (iK:K.lookup yf=some ⟨qh,Qm,.func (W.fnOf "_law_lists" "_law_lists" (aK iI) (aI iI) (ao iI) .none Ng yj Mq aj Fe El),Wg⟩)
 (RM:W.codeIn K Fe "_law_lists"=true)
 (xJ:W.keepIn K (.ref yf)=true)
 (pN:W.nsIn K mainGlobals "_law_table"=some (some (.ref Of)))
 (qN:K.lookup Of=some ⟨Rj,ym,.func (W.fnOf "_law_table" "_law_table" (aK jc) (aI jc) (ao jc) .none Sj Rm Hl qq Ee Jm),rk⟩)
 (fG:W.codeIn K Ee "_law_table"=true)
 (HJ:W.keepIn K (.ref Of)=true)
 (uQ:W.nsIn K mainGlobals "_law_model"=some (some (.ref hg)))
 (DN:K.lookup hg=some ⟨Er,bi,.func (W.fnOf "_law_model" "_law_model" (aK j3) (aI j3) (ao j3) .none yg Ck hh Fm Ed Dl),Rk⟩)
 (BP:W.codeIn K Ed "_law_model"=true)
 (oN:W.keepIn K (.ref hg)=true)
 (cP:W.nsIn K mainGlobals "_law_tongue"=some (some (.ref ng)))
 (XJ:K.lookup ng=some ⟨Wr,Mg,.func (W.fnOf "_law_tongue" "_law_tongue" (aK jb) (aI jb) (ao jb) .none hk Zp wk hl de gh),pj⟩)
 (jL:W.codeIn K de "_law_tongue"=true)
 (fP:W.keepIn K (.ref ng)=true)
 (tM:W.nsIn K mainGlobals "_law_unit"=some (some (.ref sf)))
 (jP:K.lookup sf=some ⟨wo,tj,.func (W.fnOf "_law_unit" "_law_unit" (aK jT) (aI jT) (ao jT) .none zn Yq ql js Dc hi),Ml⟩)
 (dM:W.codeIn K Dc "_law_unit"=true)
 (SN:W.keepIn K (.ref sf)=true)
 (JK:W.nsIn K mainGlobals "_law_lead_row"=some (some (.ref vf)))
 (gO:K.lookup vf=some ⟨gp,Up,.func (W.fnOf "_law_lead_row" "_law_lead_row" (aK j5) (aI j5) (ao j5) .none dm Vm Jn vq Gd So),On⟩)
 (pP:W.codeIn K Gd "_law_lead_row"=true)
 (dO:W.keepIn K (.ref vf)=true)
 (WF:W.nsIn K mainGlobals "_law_pair_row"=some (some (.ref ag)))
 (rQ:K.lookup ag=some ⟨Hr,Rp,.func (W.fnOf "_law_pair_row" "_law_pair_row" (aK jY) (aI jY) (ao jY) .none zj os es un mc Sn),yi⟩)
 (BJ:W.codeIn K mc "_law_pair_row"=true)
 (CJ:W.keepIn K (.ref ag)=true)
 (uI:W.nsIn K mainGlobals "_law_spell"=some (some (.ref zf)))
 (GP:K.lookup zf=some ⟨Oo,Ho,.func (W.fnOf "_law_spell" "_law_spell" (aK jV) (aI jV) (ao jV) .none ph cm Jp Qg Uc so),Xq⟩)
 (pH:W.codeIn K Uc "_law_spell"=true)
 (ZK:W.keepIn K (.ref zf)=true)
 (gK:W.nsIn K mainGlobals "_law_text"=some (some (.ref Pf)))
 (oJ:K.lookup Pf=some ⟨no,iq,.func (W.fnOf "_law_text" "_law_text" (aK ia) (aI ia) (ao ia) .none hr ir Qq vi bd Cn),Qk⟩)
 (RJ:W.codeIn K bd "_law_text"=true)
 (uM:W.keepIn K (.ref Pf)=true)
 (gH:W.nsIn K mainGlobals "_law_lead_begun"=some (some (.ref nf)))
 (eH:K.lookup nf=some ⟨lq,Bl,.func (W.fnOf "_law_lead_begun" "_law_lead_begun" (aK j6) (aI j6) (ao j6) .none Pl Br gj Zn Le Gk),Wi⟩)
 (jJ:W.codeIn K Le "_law_lead_begun"=true)
 (oK:W.keepIn K (.ref nf)=true)
 (zH:W.nsIn K mainGlobals "_law_pair_begun"=some (some (.ref mf)))
 (rH:K.lookup mf=some ⟨qs,Ii,.func (W.fnOf "_law_pair_begun" "_law_pair_begun" (aK jZ) (aI jZ) (ao jZ) .none hp pm cs uk fe Co),Wm⟩)
 (MP:W.codeIn K fe "_law_pair_begun"=true)
 (zN:W.keepIn K (.ref mf)=true)
 (nJ:W.nsIn K mainGlobals "_law_begun"=some (some (.ref Uf)))
 (aQ:K.lookup Uf=some ⟨rp,Om,.func (W.fnOf "_law_begun" "_law_begun" (aK jf) (aI jf) (ao jf) .none Kp Oh Km Ep Pd Jo),yl⟩)
 (xG:W.codeIn K Pd "_law_begun"=true)
 (uG:W.keepIn K (.ref Uf)=true)
 (cM:W.nsIn K mainGlobals "_law_row"=some (some (.ref uf)))
 (zK:K.lookup uf=some ⟨Sh,Pn,.func (W.fnOf "_law_row" "_law_row" (aK jX) (aI jX) (ao jX) .none zq Ri Sl ts Ud qi),hn⟩)
 (QF:W.codeIn K Ud "_law_row"=true)
 (xM:W.keepIn K (.ref uf)=true)
 (qO:W.nsIn K mainGlobals "_law_told"=some (some (.ref Tf)))
 (zM:K.lookup Tf=some ⟨jm,ok,.func (W.fnOf "_law_told" "_law_told" (aK jU) (aI jU) (ao jU) .none Aj Yk Pk am vc Zk),Rr⟩)
 (BL:W.codeIn K vc "_law_told"=true)
 (dK:W.keepIn K (.ref Tf)=true)
 (qL:W.nsIn K mainGlobals "_law_page"=some (some (.ref rf)))
 (KN:K.lookup rf=some ⟨Hj,Dp,.func (W.fnOf "_law_page" "_law_page" (aK j1) (aI j1) (ao j1) .none Yp mj kk el uc yh),tg⟩)
 (aL:W.codeIn K uc "_law_page"=true)
 (LK:W.keepIn K (.ref rf)=true)
 (yN:W.nsIn K mainGlobals "_law_is_text_of"=some (some (.ref Jf)))
 (rF:K.lookup Jf=some ⟨hs,Pj,.func (W.fnOf "_law_is_text_of" "_law_is_text_of" (aK jd) (aI jd) (ao jd) .none ss Uk io Gm Nc Yr),uq⟩)
 (yP:W.codeIn K Nc "_law_is_text_of"=true)
 (mQ:W.keepIn K (.ref Jf)=true)
 (yM:W.nsIn K mainGlobals "_law_goes_on"=some (some (.ref Mf)))
 (OJ:K.lookup Mf=some ⟨Ah,nk,.func (W.fnOf "_law_goes_on" "_law_goes_on" (aK je) (aI je) (ao je) .none uj dl Uq om Zc Th),Wn⟩)
 (nH:W.codeIn K Zc "_law_goes_on"=true)
 (yJ:W.keepIn K (.ref Mf)=true)
 (cI:W.nsIn K mainGlobals "_law_odd_fits"=some (some (.ref Cf)))
 (xP:K.lookup Cf=some ⟨sr,Xj,.func (W.fnOf "_law_odd_fits" "_law_odd_fits" (aK j2) (aI j2) (ao j2) .none Kl op ks bk Pc xr),Gn⟩)
 (sJ:W.codeIn K Pc "_law_odd_fits"=true)
 (gM:W.keepIn K (.ref Cf)=true)
 (bG:W.nsIn K mainGlobals "_law_short"=some (some (.ref Wf)))
 (bH:K.lookup Wf=some ⟨Fo,nm,.func (W.fnOf "_law_short" "_law_short" (aK jW) (aI jW) (ao jW) .none ap Np Ih gr Zb Wk),ms⟩)
 (fQ:W.codeIn K Zb "_law_short"=true)
 (ZJ:W.keepIn K (.ref Wf)=true)
 (tO:W.nsIn K mainGlobals "_law_faulty"=some (some (.ref pf)))
 (aJ:K.lookup pf=some ⟨bp,Qo,.func (W.fnOf "_law_faulty" "_law_faulty" (aK j9) (aI j9) (ao j9) .none Ag Ak pq ch Ec Ir),jr⟩)
 (nM:W.codeIn K Ec "_law_faulty"=true)
 (VG:W.keepIn K (.ref pf)=true)
 (uN:W.nsIn K mainGlobals "law"=some (some (.ref fg)))
 (QM:K.lookup fg=some ⟨pl,rj,.func (W.fnOf "law" "law" (aK kr) (aI kr) (ao kr) .none Bk xs Mi Eo Yc bo),zo⟩)
 (qF:W.codeIn K Yc "law"=true)
 (QL:W.keepIn K (.ref fg)=true)
 (lA:W.findIn K (.ref ea) "unit"=some (some (.ref Gb)))
 (jA:W.findIn K (.ref ea) "look"=some (some (.ref nb)))
 (nA:W.findIn K (.ref ca) "look"=some (some (.ref nb)))
 (bA:W.findIn K (.ref aa) "unit"=some (some (.ref Gb)))
 (cA:W.findIn K (.ref aa) "look"=some (some (.ref nb)))
 (gA:W.findIn K (.ref ba) "unit"=some (some (.ref Gb)))
 (aA:W.findIn K (.ref ba) "look"=some (some (.ref nb)))
 (k0:W.nsIn K mainGlobals "BITS"=some (some (.int 6 u0)))
 (k1:W.nsIn K mainGlobals "BYTE_BITS"=some (some (.int 8 u1)))
 (k2:W.nsIn K mainGlobals "FILLS"=some (some (.ref Ff)))
 (yR:K.lookup Ff=some ⟨.type "dict",none,.dict Ws Tu,#[]⟩)
 (cR:iR Ws.toList=some [(cb,("high" : Str),hb),(db,("low" : Str),eb)])
 (aR:(Ff == sysModules)=false)
 (tD:cb=hashStr w "high")
 (GD:db=hashStr w "low")
 (JD:K.lookup hb=some ⟨.type "tuple",none,.seq bb Ac,Hc⟩)
 (yD:gW bb.toList=some [ta,pa,Ea,sa,oa])
 (uD:Nat.ble bb.size 1000=true)
 (GC:K.lookup ta=some ⟨.type "tuple",none,.seq Aa sb,Bb⟩)
 (bC:cV ([]:e7) Aa.toList=true)
 (vC:Nat.ble Aa.size 1000=true)
 (JC:K.lookup pa=some ⟨.type "tuple",none,.seq va kb,tb⟩)
 (mC:cV ([0]:e7) va.toList=true)
 (cC:Nat.ble va.size 1000=true)
 (fC:K.lookup Ea=some ⟨.type "tuple",none,.seq Ba Ab,ib⟩)
 (jC:cV ([0,0]:e7) Ba.toList=true)
 (NB:Nat.ble Ba.size 1000=true)
 (wC:K.lookup sa=some ⟨.type "tuple",none,.seq Ca qb,ob⟩)
 (vB:cV ([220,0]:e7) Ca.toList=true)
 (wB:Nat.ble Ca.size 1000=true)
 (rC:K.lookup oa=some ⟨.type "tuple",none,.seq ja Cb,vb⟩)
 (VB:cV ([0,220,0]:e7) ja.toList=true)
 (zB:Nat.ble ja.size 1000=true)
 (HD:K.lookup eb=some ⟨.type "tuple",none,.seq fb vd,ie⟩)
 (vD:gW fb.toList=some [ra,qa,na,ua,la])
 (KD:Nat.ble fb.size 1000=true)
 (PB:K.lookup ra=some ⟨.type "tuple",none,.seq ma yb,xb⟩)
 (uC:cV ([]:e7) ma.toList=true)
 (JB:Nat.ble ma.size 1000=true)
 (dC:K.lookup qa=some ⟨.type "tuple",none,.seq xa Eb,lb⟩)
 (iC:cV ([0]:e7) xa.toList=true)
 (aC:Nat.ble xa.size 1000=true)
 (tC:K.lookup na=some ⟨.type "tuple",none,.seq Da Fb,pb⟩)
 (YB:cV ([220]:e7) Da.toList=true)
 (nC:Nat.ble Da.size 1000=true)
 (HB:K.lookup ua=some ⟨.type "tuple",none,.seq za zb,Db⟩)
 (QB:cV ([0,0]:e7) za.toList=true)
 (RB:Nat.ble za.size 1000=true)
 (gC:K.lookup la=some ⟨.type "tuple",none,.seq ya ub,mb⟩)
 (pC:cV ([0,220]:e7) ya.toList=true)
 (yC:Nat.ble ya.size 1000=true)
 (k3:W.nsIn K mainGlobals "FIRST_BEHIND"=some (some (.int 128 u3)))
 (k4:W.nsIn K mainGlobals "FIRST_HEAD"=some (some (.int 55296 u4)))
 (k5:W.nsIn K mainGlobals "FIRST_SEEN"=some (some (.int 61184 u5)))
 (k6:W.nsIn K mainGlobals "FIRST_TAIL"=some (some (.int 56320 u6)))
 (k7:W.nsIn K mainGlobals "FIRST_WIDE"=some (some (.int 65536 u7)))
 (k8:W.nsIn K mainGlobals "HALF_BITS"=some (some (.int 10 u8)))
 (k9:W.nsIn K mainGlobals "LAST_BEHIND"=some (some (.int 191 u9)))
 (JS:W.nsIn K mainGlobals "LAST_BYTE"=some (some (.int 255 Jt)))
 (xT:W.nsIn K mainGlobals "LAST_SEEN"=some (some (.int 61439 xt)))
 (oR:W.nsIn K mainGlobals "LAST_SIGN"=some (some (.int 1114111 Ps)))
 (VR:W.nsIn K mainGlobals "LAST_TAIL"=some (some (.int 57343 Fs)))
 (uT:W.nsIn K mainGlobals "LEADS"=some (some (.ref Ob)))
 (yE:K.lookup Ob=some ⟨.type "tuple",none,.seq Pb Ol,Hi⟩)
 (JF:cV ([0,0,192,224,240]:e7) Pb.toList=true)
 (BK:Nat.ble Pb.size 1000=true)
 (bT:W.nsIn K mainGlobals "MOST_BYTES"=some (some (.int 6 Ft)))
 (SQ:W.nsIn K mainGlobals "MOST_SIGNS"=some (some (.int 250 Ot)))
 (HR:W.nsIn K mainGlobals "MOST_TUPLES"=some (some (.int 64 Hs)))
 (tR:W.nsIn K mainGlobals "SECONDS"=some (some (.ref rb)))
 (dF:K.lookup rb=some ⟨.type "dict",none,.dict ad Vg,#[]⟩)
 (VJ:jy ad.toList=some [(224,Ka),(237,Wa),(238,Ya),(240,Qa),(244,Fa)])
 (sH:(rb == sysModules)=false)
 (XC:K.lookup Ka=some ⟨.type "tuple",none,.seq Ha Lb,Jb⟩)
 (LC:cV ([160,191]:e7) Ha.toList=true)
 (cD:Nat.ble Ha.size 1000=true)
 (aD:K.lookup Wa=some ⟨.type "tuple",none,.seq ab Qb,Ub⟩)
 (dD:cV ([128,159]:e7) ab.toList=true)
 (iD:Nat.ble ab.size 1000=true)
 (ZC:K.lookup Ya=some ⟨.type "tuple",none,.seq Oa Sb,Rb⟩)
 (bD:cV ([128,187]:e7) Oa.toList=true)
 (pD:Nat.ble Oa.size 1000=true)
 (mD:K.lookup Qa=some ⟨.type "tuple",none,.seq Ua Hb,Ib⟩)
 (jD:cV ([144,191]:e7) Ua.toList=true)
 (nD:Nat.ble Ua.size 1000=true)
 (YC:K.lookup Fa=some ⟨.type "tuple",none,.seq Na Mb,Tb⟩)
 (RC:cV ([128,143]:e7) Na.toList=true)
 (fD:Nat.ble Na.size 1000=true)
 (gR:W.nsIn K mainGlobals "SHIFTS"=some (some (.ref Kb)))
 (XD:K.lookup Kb=some ⟨.type "tuple",none,.seq Nb Lr,Zl⟩)
 (FP:cV ([254,255]:e7) Nb.toList=true)
 (JL:Nat.ble Nb.size 1000=true)
 (z0:W.nsIn K mainGlobals "all"=some none)
 (z1:W.nsIn K mainGlobals "any"=some none)
 (z2:W.nsIn K mainGlobals "bool"=some none)
 (z3:W.nsIn K mainGlobals "enumerate"=some none)
 (z4:W.nsIn K mainGlobals "int"=some none)
 (z5:W.nsIn K mainGlobals "isinstance"=some none)
 (z6:W.nsIn K mainGlobals "len"=some none)
 (z7:W.nsIn K mainGlobals "list"=some none)
 (z8:W.nsIn K mainGlobals "range"=some none)
 (z9:W.nsIn K mainGlobals "set"=some none)
 (rR:W.nsIn K mainGlobals "str"=some none)
 (ZR:W.nsIn K mainGlobals "sum"=some none)
 (MT:W.nsIn K mainGlobals "tuple"=some none)
 (CT:W.nsIn K mainGlobals "zip"=some none):∃t,Txt w K mg t:=by
  have F0:=aX (st:=lM) iT nR vR;have b0:=F0.binds (ps:=["self", "place", "length", "kind"]) (λ_ _ _ _ _ _=>tm λ_ _ _ _=>rfl);have F1:=fZ (st:=ls) zR sS RQ BR;have ew:=F1.binds (ps:=["self", "tongue", "place"]) (ds:=[.int 0 gb]) (λ_ _ _ _ _ _ _=>Tl λ_ _=>⟨_,rfl,rfl⟩);have b1:=F1.binds (ps:=["self", "tongue", "place"]) (ds:=[]) (λ_ _ _ _ _ _ _=>Tm λ_ _ _=>⟨_,rfl,rfl⟩);have F2:=aX (st:=lD) JR JT NQ;have b2:=F2.binds (ps:=["self"]) (λ_ _ _ _ _ _=>bU λ_=>rfl);have F3:=aX (st:=lE) dR ZQ KQ;have b3:=F3.binds (ps:=["self"]) (λ_ _ _ _ _ _=>bU λ_=>rfl);have F4:=aX (st:=lC) lR WQ PQ;have b4:=F4.binds (ps:=["self", "row"]) (λ_ _ _ _ _ _=>bN λ_ _=>rfl);have F5:=aX (st:=lF) DR YQ HQ;have b5:=F5.binds (ps:=["self"]) (λ_ _ _ _ _ _=>bU λ_=>rfl);have F6:=aX (st:=lg) wR pR GQ;have b6:=F6.binds (ps:=["self", "byte"]) (λ_ _ _ _ _ _=>bN λ_ _=>rfl);have F7:=aX (st:=lm) zT mR LQ;have b7:=F7.binds (ps:=["self"]) (λ_ _ _ _ _ _=>bU λ_=>rfl);have F8:=aX (st:=li) XS xR FQ;have b8:=F8.binds (ps:=["self"]) (λ_ _ _ _ _ _=>bU λ_=>rfl);have F9:=aX (st:=lj) YS QR JQ;have b9:=F9.binds (ps:=["self", "length", "kind"]) (λ_ _ _ _ _ _=>df λ_ _ _=>rfl);have Ys:=aX (st:=lh) MF GJ bF;have Hu:=Ys.binds (ps:=["self", "length", "kind"]) (λ_ _ _ _ _ _=>df λ_ _ _=>rfl);have ut:=aX (st:=kj) rI RL oF;have Qv:=ut.binds (ps:=["tongue", "row"]) (λ_ _ _ _ _ _=>bN λ_ _=>rfl);have Rs:=aX (st:=ki) cO bM oH;have Sv:=Rs.binds (ps:=["tongue", "row"]) (λ_ _ _ _ _ _=>bN λ_ _=>rfl);have jt:=aX (st:=kJ) iQ mG zP;have qv:=jt.binds (ps:=["number", "bits"]) (λ_ _ _ _ _ _=>bN λ_ _=>rfl);have kt:=aX (st:=kg) gQ cL zQ;have xu:=kt.binds (ps:=["parts", "bits"]) (λ_ _ _ _ _ _=>bN λ_ _=>rfl);have et:=aX (st:=kz) yL rP pF;have ou:=et.binds (ps:=["thing"]) (λ_ _ _ _ _ _=>bU λ_=>rfl);have ot:=aX (st:=kF) aP gG mO;have bv:=ot.binds (ps:=["thing"]) (λ_ _ _ _ _ _=>bU λ_=>rfl);have bu:=aX (st:=kD) dH YG tH;have ov:=bu.binds (ps:=["number"]) (λ_ _ _ _ _ _=>bU λ_=>rfl);have Nt:=aX (st:=ku) pL tK rJ;have Wv:=Nt.binds (ps:=["number"]) (λ_ _ _ _ _ _=>bU λ_=>rfl);have Ss:=aX (st:=ky) JP cG TP;have Zv:=Ss.binds (ps:=["thing"]) (λ_ _ _ _ _ _=>bU λ_=>rfl);have Bt:=aX (st:=kx) cQ YJ jH;have Ow:=Bt.binds (ps:=["thing"]) (λ_ _ _ _ _ _=>bU λ_=>rfl);have dt:=aX (st:=jg) zO iH NP;have Rv:=dt.binds (ps:=["thing"]) (λ_ _ _ _ _ _=>bU λ_=>rfl);have Ls:=aX (st:=kN) HF aO QC;have Av:=Ls.binds (ps:=["self"]) (λ_ _ _ _ _ _=>bU λ_=>rfl);have al:=fZ (st:=kM) mJ aG rE eO;have qj:=al.binds (ps:=["self", "row", "page"]) (ds:=[.int 0 Ja]) (λ_ _ _ _ _ _ _=>Tl λ_ _=>⟨_,rfl,rfl⟩);have Ww:=al.binds (ps:=["self", "row", "page"]) (ds:=[]) (λ_ _ _ _ _ _ _=>Tm λ_ _ _=>⟨_,rfl,rfl⟩);have As:=fZ (st:=kP) ZG xF sE oO;have Kn:=As.binds (ps:=["self", "row", "page"]) (ds:=[.int 0 Ta]) (λ_ _ _ _ _ _ _=>Tl λ_ _=>⟨_,rfl,rfl⟩);have vw:=As.binds (ps:=["self", "row", "page"]) (ds:=[]) (λ_ _ _ _ _ _ _=>Tm λ_ _ _=>⟨_,rfl,rfl⟩);have Lg:=fZ (st:=kO) rK fL KC CQ;have zp:=Lg.binds (ps:=["self", "begun", "page"]) (ds:=[.int 0 Za]) (λ_ _ _ _ _ _ _=>Tl λ_ _=>⟨_,rfl,rfl⟩);have Fu:=Lg.binds (ps:=["self", "begun", "page"]) (ds:=[]) (λ_ _ _ _ _ _ _=>Tm λ_ _ _=>⟨_,rfl,rfl⟩);have Is:=aX (st:=ko) fK PP xO;have tu:=Is.binds (ps:=["first"]) (λ_ _ _ _ _ _=>bU λ_=>rfl);have Es:=aX (st:=kK) nF WL yG;have Zw:=Es.binds (ps:=["row", "place"]) (λ_ _ _ _ _ _=>bN λ_ _=>rfl);have eu:=aX (st:=kG) XH PJ TF;have Dw:=eu.binds (ps:=["row"]) (λ_ _ _ _ _ _=>bU λ_=>rfl);have it:=aX (st:=km) ZP GF xN;have hx:=it.binds (ps:=["row"]) (λ_ _ _ _ _ _=>bU λ_=>rfl);have Ds:=aX (st:=jh) dI uH MJ;have aw:=Ds.binds (ps:=["row"]) (λ_ _ _ _ _ _=>bU λ_=>rfl);have cr:=fZ (st:=lL) CG VN VD pK;have rh:=cr.binds (ps:=["self", "row", "page"]) (ds:=[.int 0 Ma]) (λ_ _ _ _ _ _ _=>Tl λ_ _=>⟨_,rfl,rfl⟩);have gv:=cr.binds (ps:=["self", "row", "page"]) (ds:=[]) (λ_ _ _ _ _ _ _=>Tm λ_ _ _=>⟨_,rfl,rfl⟩);have Cg:=fZ (st:=jj) eQ RP aF JM;have Pr:=Cg.binds (ps:=["self", "row", "page"]) (ds:=[.int 0 Sa]) (λ_ _ _ _ _ _ _=>Tl λ_ _=>⟨_,rfl,rfl⟩);have Ku:=Cg.binds (ps:=["self", "row", "page"]) (ds:=[]) (λ_ _ _ _ _ _ _=>Tm λ_ _ _=>⟨_,rfl,rfl⟩);have vt:=aX (st:=kh) yO QJ YL;have hv:=vt.binds (ps:=["units"]) (λ_ _ _ _ _ _=>bU λ_=>rfl);have um:=fZ (st:=lJ) mF bK XF bQ;have Lj:=um.binds (ps:=["self", "order"]) (ds:=[.str "high" Pa]) (λ_ _ _ _ _ _ _=>Tn λ_=>⟨_,rfl,rfl⟩);have dv:=um.binds (ps:=["self", "order"]) (ds:=[]) (λ_ _ _ _ _ _ _=>Tl λ_ _=>⟨_,rfl,rfl⟩);have Wt:=aX (st:=lH) CK YM YD;have Yu:=Wt.binds (ps:=["self"]) (λ_ _ _ _ _ _=>bU λ_=>rfl);have ht:=aX (st:=lI) nG YF RD;have cw:=ht.binds (ps:=["self", "pair"]) (λ_ _ _ _ _ _=>bN λ_ _=>rfl);have fu:=aX (st:=ji) FN pG zE;have qw:=fu.binds (ps:=["self", "row"]) (λ_ _ _ _ _ _=>bN λ_ _=>rfl);have zm:=fZ (st:=lG) VK tQ uE TG;have dh:=zm.binds (ps:=["self", "row", "page"]) (ds:=[.int 0 Va]) (λ_ _ _ _ _ _ _=>Tl λ_ _=>⟨_,rfl,rfl⟩);have ax:=zm.binds (ps:=["self", "row", "page"]) (ds:=[]) (λ_ _ _ _ _ _ _=>Tm λ_ _ _=>⟨_,rfl,rfl⟩);have fr:=fZ (st:=lK) XN aN OD KH;have Vr:=fr.binds (ps:=["self", "row", "page"]) (ds:=[.int 0 Ra]) (λ_ _ _ _ _ _ _=>Tl λ_ _=>⟨_,rfl,rfl⟩);have Lw:=fr.binds (ps:=["self", "row", "page"]) (ds:=[]) (λ_ _ _ _ _ _ _=>Tm λ_ _ _=>⟨_,rfl,rfl⟩);have du:=aX (st:=kL) jO yH SJ;have Gv:=du.binds (ps:=["one", "other"]) (λ_ _ _ _ _ _=>bN λ_ _=>rfl);have Vs:=aX (st:=kl) ZL uJ CP;have iw:=Vs.binds (ps:=["signs", "which"]) (λ_ _ _ _ _ _=>bN λ_ _=>rfl);have cu:=aX (st:=kY) pO VM gP;have su:=cu.binds (ps:=["self", "first", "second"]) (λ_ _ _ _ _ _=>df λ_ _ _=>rfl);have Ts:=aX (st:=kX) dN UG oE;have uw:=Ts.binds (ps:=["self", "page"]) (λ_ _ _ _ _ _=>bN λ_ _=>rfl);have rt:=aX (st:=kW) cH zL tE;have vv:=rt.binds (ps:=["self", "byte", "page"]) (λ_ _ _ _ _ _=>df λ_ _ _=>rfl);have Mn:=fZ (st:=kU) rN WK ZD bJ;have Wj:=Mn.binds (ps:=["self", "row", "page"]) (ds:=[.int 0 Xa]) (λ_ _ _ _ _ _ _=>Tl λ_ _=>⟨_,rfl,rfl⟩);have xv:=Mn.binds (ps:=["self", "row", "page"]) (ds:=[]) (λ_ _ _ _ _ _ _=>Tm λ_ _ _=>⟨_,rfl,rfl⟩);have vr:=fZ (st:=kZ) YK JG jE oM;have Uh:=vr.binds (ps:=["self", "row", "page"]) (ds:=[.int 0 Ga]) (λ_ _ _ _ _ _ _=>Tl λ_ _=>⟨_,rfl,rfl⟩);have bw:=vr.binds (ps:=["self", "row", "page"]) (ds:=[]) (λ_ _ _ _ _ _ _=>Tm λ_ _ _=>⟨_,rfl,rfl⟩);have pt:=aX (st:=kE) WP QG SM;have Fw:=pt.binds (ps:=["thing"]) (λ_ _ _ _ _ _=>bU λ_=>rfl);have bt:=aX (st:=kH) DQ eN nQ;have Tv:=bt.binds (ps:=["one", "other"]) (λ_ _ _ _ _ _=>bN λ_ _=>rfl);have Ut:=aX (st:=kI) NK uO PK;have Pv:=Ut.binds (ps:=["rows"]) (λ_ _ _ _ _ _=>bU λ_=>rfl);have Xs:=aX (st:=kR) eG VP sI;have uu:=Xs.binds (ps:=["self", "rows"]) (λ_ _ _ _ _ _=>bN λ_ _=>rfl);have au:=aX (st:=kT) QK yK eE;have Jv:=au.binds (ps:=["self", "sign", "row"]) (λ_ _ _ _ _ _=>df λ_ _ _=>rfl);have vl:=fZ (st:=kQ) pQ jF WD rG;have Dh:=vl.binds (ps:=["self", "row", "page"]) (ds:=[.int 0 La]) (λ_ _ _ _ _ _ _=>Tl λ_ _=>⟨_,rfl,rfl⟩);have nv:=vl.binds (ps:=["self", "row", "page"]) (ds:=[]) (λ_ _ _ _ _ _ _=>Tm λ_ _ _=>⟨_,rfl,rfl⟩);have Zo:=fZ (st:=kS) iM uP QD HH;have Hn:=Zo.binds (ps:=["self", "row", "page"]) (ds:=[.int 0 Ia]) (λ_ _ _ _ _ _ _=>Tl λ_ _=>⟨_,rfl,rfl⟩);have Bu:=Zo.binds (ps:=["self", "row", "page"]) (ds:=[]) (λ_ _ _ _ _ _ _=>Tm λ_ _ _=>⟨_,rfl,rfl⟩);have ct:=aX (st:=ka) dG PN MK;have sv:=ct.binds (ps:=["_law_script", "_law_at"]) (λ_ _ _ _ _ _=>bN λ_ _=>rfl);have Xt:=aX (st:=j7) eF pJ pM;have Nu:=Xt.binds (ps:=["_law_found"]) (λ_ _ _ _ _ _=>bU λ_=>rfl);have Zs:=aX (st:=j4) CN YH ZF;have jw:=Zs.binds (ps:=["_law_number", "_law_k"]) (λ_ _ _ _ _ _=>bN λ_ _=>rfl);have ft:=aX (st:=j8) aM VH DG;have Yw:=ft.binds (ps:=["_law_number"]) (λ_ _ _ _ _ _=>bU λ_=>rfl);have nt:=aX (st:=kc) UL vI IK;have lw:=nt.binds (ps:=["_law_number"]) (λ_ _ _ _ _ _=>bU λ_=>rfl);have Qt:=aX (st:=iI) iK RM xJ;have fw:=Qt.binds (ps:=["_law_number"]) (λ_ _ _ _ _ _=>bU λ_=>rfl);have Js:=aX (st:=jc) qN fG HJ;have Lu:=Js.binds (ps:=["_law_number"]) (λ_ _ _ _ _ _=>bU λ_=>rfl);have Mt:=aX (st:=j3) DN BP oN;have Ou:=Mt.binds (ps:=["_law_cell"]) (λ_ _ _ _ _ _=>bU λ_=>rfl);have Rt:=aX (st:=jb) XJ jL fP;have dw:=Rt.binds (ps:=["_law_model_here"]) (λ_ _ _ _ _ _=>bU λ_=>rfl);have qt:=aX (st:=jT) jP dM SN;have nw:=qt.binds (ps:=["_law_model_here"]) (λ_ _ _ _ _ _=>bU λ_=>rfl);have Os:=aX (st:=j5) gO pP dO;have lu:=Os.binds (ps:=["_law_sign"]) (λ_ _ _ _ _ _=>bU λ_=>rfl);have Gs:=aX (st:=jY) rQ BJ CJ;have Nv:=Gs.binds (ps:=["_law_sign", "_law_word"]) (λ_ _ _ _ _ _=>bN λ_ _=>rfl);have mt:=aX (st:=jV) GP pH ZK;have ru:=mt.binds (ps:=["_law_model_here", "_law_sign", "_law_page_here"]) (λ_ _ _ _ _ _=>df λ_ _ _=>rfl);have St:=aX (st:=ia) oJ RJ uM;have Pu:=St.binds (ps:=["_law_model_here", "_law_cells"]) (λ_ _ _ _ _ _=>bN λ_ _=>rfl);have zt:=aX (st:=j6) eH jJ oK;have Hv:=zt.binds (ps:=["_law_kept"]) (λ_ _ _ _ _ _=>bU λ_=>rfl);have Pt:=aX (st:=jZ) rH MP zN;have Uv:=Pt.binds (ps:=["_law_kept", "_law_word"]) (λ_ _ _ _ _ _=>bN λ_ _=>rfl);have Bs:=aX (st:=jf) aQ xG uG;have gw:=Bs.binds (ps:=["_law_model_here", "_law_kept", "_law_page_here"]) (λ_ _ _ _ _ _=>df λ_ _ _=>rfl);have Cs:=aX (st:=jX) zK QF xM;have Au:=Cs.binds (ps:=["_law_model_here", "_law_cells"]) (λ_ _ _ _ _ _=>bN λ_ _=>rfl);have Ks:=aX (st:=jU) zM BL dK;have nu:=Ks.binds (ps:=["_law_tongue_here", "_law_row_here"]) (λ_ _ _ _ _ _=>bN λ_ _=>rfl);have Et:=aX (st:=j1) KN aL LK;have ex:=Et.binds (ps:=["_law_model_here", "_law_text_here"]) (λ_ _ _ _ _ _=>bN λ_ _=>rfl);have At:=aX (st:=jd) rF yP mQ;have Jw:=At.binds (ps:=["_law_tongue_here", "_law_model_here", "_law_row_here"]) (λ_ _ _ _ _ _=>df λ_ _ _=>rfl);have Qs:=aX (st:=je) OJ nH yJ;have fv:=Qs.binds (ps:=["_law_tongue_here", "_law_model_here", "_law_row_here"]) (λ_ _ _ _ _ _=>df λ_ _ _=>rfl);have Kt:=aX (st:=j2) xP sJ gM;have cx:=Kt.binds (ps:=["_law_model_here", "_law_kept"]) (λ_ _ _ _ _ _=>bN λ_ _=>rfl);have tt:=aX (st:=jW) bH fQ ZJ;have ev:=tt.binds (ps:=["_law_tongue_here", "_law_model_here", "_law_row_here", "_law_kept"]) (λ_ _ _ _ _ _=>tm λ_ _ _ _=>rfl);have Vt:=aX (st:=j9) aJ nM VG;have Ju:=Vt.binds (ps:=["_law_tongue_here", "_law_model_here", "_law_row_here", "_law_told_here"]) (λ_ _ _ _ _ _=>tm λ_ _ _ _=>rfl);have yt:=aX (st:=kr) QM qF QL;have pw:=yt.binds (ps:=["_law_script"]) (λ_ _ _ _ _ _=>bU λ_=>rfl)
  exact⟨⟨a0,_,a1,_,gb,a2,_,a3,_,a4,_,a5,_,a6,_,a7,_,a8,_,a9,_,Dd,_,Ef,_,qf,_,dg,_,Sf,_,cg,_,Rf,_,gg,_,ig,_,Xf,_,bg,_,Zf,_,Gb,_,Vb,_,Ja,lc,_,Ta,nb,_,Za,Yf,_,Gf,_,Qf,_,tf,_,lf,_,Md,_,Ma,xe,_,Sa,Df,_,Oc,_,Pa,Ae,_,cf,_,ve,_,Kc,_,Va,Hd,_,Ra,Vf,_,xf,_,Ie,_,dc,_,oc,_,Cc,_,Xa,te,_,Ga,Af,_,Hf,_,Bf,_,Ce,_,Qd,_,Wc,_,La,fd,_,Ia,Lf,_,Kf,_,If,_,Nf,_,eg,_,yf,_,Of,_,hg,_,ng,_,sf,_,vf,_,ag,_,zf,_,Pf,_,nf,_,mf,_,Uf,_,uf,_,Tf,_,rf,_,Jf,_,Mf,_,Cf,_,Wf,_,pf,_,fg,_,da,ga,ea,ca,aa,ba,fa,ha,u0,u1,Ff,cb,hb,ta,pa,Ea,sa,oa,db,eb,ra,qa,na,ua,la,u3,u4,u5,u6,u7,u8,u9,Jt,xt,Ps,Fs,Ob,Ft,Ot,Hs,rb,Ka,Wa,Ya,Qa,Fa,Kb⟩,⟨F0,b0,F1,ew,b1,F2,b2,F3,b3,F4,b4,F5,b5,F6,b6,F7,b7,F8,b8,F9,b9,Ys,Hu,ut,Qv,W.mg_of X G mK,Rs,Sv,W.mg_of X G xQ,jt,qv,W.mg_of X G fJ,kt,xu,W.mg_of X G mL,et,ou,W.mg_of X G yI,ot,bv,W.mg_of X G aH,bu,ov,W.mg_of X G RG,Nt,Wv,W.mg_of X G uL,Ss,Zv,W.mg_of X G iG,Bt,Ow,W.mg_of X G xH,dt,Rv,W.mg_of X G UJ,Ls,Av,al,qj,Ww,As,Kn,vw,Lg,zp,Fu,Is,tu,W.mg_of X G zG,Es,Zw,W.mg_of X G JH,eu,Dw,W.mg_of X G rM,it,hx,W.mg_of X G jN,Ds,aw,W.mg_of X G vG,cr,rh,gv,Cg,Pr,Ku,vt,hv,W.mg_of X G bL,um,Lj,dv,Wt,Yu,ht,cw,fu,qw,zm,dh,ax,fr,Vr,Lw,du,Gv,W.mg_of X G sG,Vs,iw,W.mg_of X G XK,cu,su,Ts,uw,rt,vv,Mn,Wj,xv,vr,Uh,bw,pt,Fw,W.mg_of X G VF,bt,Tv,W.mg_of X G WM,Ut,Pv,W.mg_of X G JN,Xs,uu,au,Jv,vl,Dh,nv,Zo,Hn,Bu,ct,sv,W.mg_of X G XM,Xt,Nu,W.mg_of X G PL,Zs,jw,W.mg_of X G zJ,ft,Yw,W.mg_of X G RK,nt,lw,W.mg_of X G cJ,Qt,fw,W.mg_of X G WN,Js,Lu,W.mg_of X G pN,Mt,Ou,W.mg_of X G uQ,Rt,dw,W.mg_of X G cP,qt,nw,W.mg_of X G tM,Os,lu,W.mg_of X G JK,Gs,Nv,W.mg_of X G WF,mt,ru,W.mg_of X G uI,St,Pu,W.mg_of X G gK,zt,Hv,W.mg_of X G gH,Pt,Uv,W.mg_of X G zH,Bs,gw,W.mg_of X G nJ,Cs,Au,W.mg_of X G cM,Ks,nu,W.mg_of X G qO,Et,ex,W.mg_of X G qL,At,Jw,W.mg_of X G yN,Qs,fv,W.mg_of X G yM,Kt,cx,W.mg_of X G cI,tt,ev,W.mg_of X G bG,Vt,Ju,W.mg_of X G tO,yt,pw,W.mg_of X G uN,W.mg_of X G wO,⟨qI,q8,qS,qB⟩,⟨wy,HS,bR,wG⟩,⟨GR,yS,NQ⟩,⟨uR,XR,KQ⟩,⟨KR,QS,PQ⟩,⟨rT,QQ,HQ⟩,⟨jR,XQ,GQ⟩,⟨ZS,FT,LQ⟩,⟨cT,nT,FQ⟩,⟨WR,LR,JQ⟩,⟨fO,lN,bF⟩,wt,wr,wq,wp,wn,wm,wl,λH a dx fs e=>.ins e ⟨qI,q8,qS,qB⟩ vZ vT vM tB,W.mg_of X G wL,⟨qE,qX,qP,qy⟩,⟨wv,wJ,wD⟩,⟨zF,rD,QC⟩,⟨rO,KJ,rE⟩,⟨cF,QH,sE⟩,⟨qM,gD,KC⟩,λH a dx fs e=>.ins e ⟨qE,qX,qP,qy⟩ vW vP vJ uB,W.mg_of X G wQ,⟨qK,rc,qU,qD⟩,⟨wA,wK,wI⟩,⟨sO,gJ,VD⟩,⟨bI,fM,aF⟩,⟨lA,rD,QC⟩,⟨jA,gD,KC⟩,λH a dx fs e=>.ins e ⟨qK,rc,qU,qD⟩ wb vV vO bB,W.mg_of X G wP,⟨qJ,q9,qT,qC⟩,⟨wz,vH,xK,wH⟩,⟨mH,iJ,YD⟩,⟨jG,DP,RD⟩,⟨jK,FJ,zE⟩,⟨lQ,tG,uE⟩,⟨jQ,TJ,OD⟩,⟨nA,gD,KC⟩,wu,λH a dx fs e=>.ins e ⟨qJ,q9,qT,qC⟩ wa vU vN aB,W.mg_of X G wN,⟨qH,qZ,qR,qA⟩,⟨wx,DK,oG,wF⟩,⟨pI,RN,oE⟩,⟨VL,jM,tE⟩,⟨fH,ZM,ZD⟩,⟨cN,HN,jE⟩,⟨bA,rD,QC⟩,⟨cA,gD,KC⟩,wj,wg,wf,λH a dx fs e=>.ins e ⟨qH,qZ,qR,qA⟩ vY vS vL vA,W.mg_of X G wM,⟨qG,qY,qQ,qz⟩,⟨ww,tL,MN,wE⟩,⟨bO,lO,eE⟩,⟨yF,GK,WD⟩,⟨uK,yQ,QD⟩,⟨gA,rD,QC⟩,⟨aA,gD,KC⟩,we,wd,wc,λH a dx fs e=>.ins e ⟨qG,qY,qQ,qz⟩ vX vQ vK uA,W.mg_of X G lX,W.mg_of X G m5,⟨gB,dB,jB,lB,rB,pB,fB,cB⟩,pA,jx,nP,nO,nN,nL,zA,oA,rA,gF,uF,dJ,W.mg_of X G k0,W.mg_of X G k1,W.mg_of X G k2,⟨⟨_,_,yR,cR⟩,Wu.mpr ⟨tD,Wu.mpr ⟨GD,λ_ z=>nomatch z⟩⟩,(show List.Nodup (["high", "low"]:List Str) by decide +kernel),aR⟩,yY JD yD (TQ uD),dU GC bC (TQ vC),dU JC mC (TQ cC),dU fC jC (TQ NB),dU wC vB (TQ wB),dU rC VB (TQ zB),yY HD vD (TQ KD),dU PB uC (TQ JB),dU dC iC (TQ aC),dU tC YB (TQ nC),dU HB QB (TQ RB),dU gC pC (TQ yC),W.mg_of X G k3,W.mg_of X G k4,W.mg_of X G k5,W.mg_of X G k6,W.mg_of X G k7,W.mg_of X G k8,W.mg_of X G k9,W.mg_of X G JS,W.mg_of X G xT,W.mg_of X G oR,W.mg_of X G VR,W.mg_of X G uT,dU yE JF (TQ BK),⟨_,yE,rfl,rfl⟩,W.mg_of X G bT,W.mg_of X G SQ,W.mg_of X G HR,W.mg_of X G tR,⟨⟨_,_,dF,VJ⟩,(show List.Nodup ([224,237,238,240,244]:e7) by decide),sH⟩,dU XC LC (TQ cD),dU aD dD (TQ iD),dU ZC bD (TQ pD),dU mD jD (TQ nD),dU YC RC (TQ fD),W.mg_of X G gR,dU XD FP (TQ JL),⟨_,XD,rfl,rfl⟩,W.mg_none_of X G z0,W.mg_none_of X G z1,W.mg_none_of X G z2,W.mg_none_of X G z3,W.mg_none_of X G z4,W.mg_none_of X G z5,W.mg_none_of X G z6,W.mg_none_of X G z7,W.mg_none_of X G z8,W.mg_none_of X G z9,W.mg_none_of X G rR,W.mg_none_of X G ZR,W.mg_none_of X G MT,W.mg_none_of X G CT⟩⟩
def walk {l:PySem.W.OpenLaw} {q:Program} {b:List Str} {D:(Str->Option Value)->Heap->Prop} {j:World->Heap->Prop} {d:DefRec} {K:Params->PySem.W.Frag} (B:l.most=some 63) (i:d.params.defaults=[]) (g:d.name = "law")
 (hY:∀(w:World) (h:Heap),j w h->(K w.params).In h)
 (F:∀(w:World) (mg:Str->Option Value) (h:Heap),(K w.params).In h->h.Ns mainGlobals mg->∃t,Txt w (K w.params) mg t) :
 PySem.W.WalkO q b D j l.row.toRowW d [] (λf vs=>PySem.call f vs):=by
 refine L2.walk_of (n:=63) (k:=18) (x := "_law_script") (CX:=λ_=>bY) (sp:=λw=>sv (K w.params)) B (by decide) i ⟨rfl,by decide,by decide⟩ hY (λw mg J h y G c=>?_) (λ_ _ a ns v _ hS=>⟨a,rfl,ns,hS,v,λ_=>rfl⟩) λ_ _ _ _ _ z=>z;obtain⟨t,T⟩:=F w mg h y G;rw[g]at c;have e:=c.symm.trans T.Cp;cases e;obtain⟨N,I,kV,C,M,O,p,ct,r,m,L,o⟩:=T.yw.ex;refine⟨t.qi,λs u=>?_,λbase _ _=>(M6 (P:=l.prog) (w:=w) (base:=base) T).ok⟩;rw[m];exact .of_eq Z
end My
structure PySem.W.Fast:Prop where
 (tw10117803129048132062 tw10145200531431591791 tw10239331246912315541 tw10288695819246171567 tw10334695294394177361 tw1041198160386071333 tw10430914342548296255 tw10520230271955964324 tw10568128004524792415 tw10610035190270693059 tw10611193793630035763 tw10938845961545274510 tw10982246076278206574 tw10998636792375619882 tw11105939785632490806 tw11116123822994497946 tw11169999062779468059 tw11251503226796512564 tw1135459085303424863 tw1164551864057984033 tw11690982044459458120 tw11725882770044677325 tw11764721147145267735 tw11832965961348184018 tw11900049793279857093 tw11908675820003964295 tw11938146088230569231 tw11957381622537594637 tw1196215154879397583 tw1197546052733619183 tw11992084407046361538 tw12033961264661544072 tw12043426162174754071 tw12185543816285084613 tw12286622594521863048 tw12457509233940722377 tw1248610245123395119 tw12547173838344507527 tw12752277124062302457 tw12764302051668703689 tw12865813216017491491 tw12939334172604992861 tw12971671423917968030 tw12980639349015086651 tw13007067274806034385 tw1301007632111352126 tw1338260016968008789 tw13475492520977624208 tw13538180298375588264 tw13550448172621316755 tw13628101776519937985 tw13678209921478206759 tw13739002996231429123 tw13845178489730772504 tw13871876758736424492 tw13982045801984221894 tw14024146845617304748 tw14257642947712964912 tw14274327148268940109 tw14349980955226853124 tw14506457664750976552 tw14509730296181040049 tw14665648303146835836 tw14707655600546448754 tw14849840389494778326 tw1495820522984575483 tw15205678369296270846 tw15226802965211808970 tw15260193659150760579 tw15271638358058051256 tw15344260969442117125 tw15380139113998906167 tw15425846449041060306 tw1548102596392829805 tw155251703818827578 tw15535948019284195933 tw15594176033818925535 tw15627126514883033608 tw15655670173977104366 tw15838742717578390977 tw15916674009983923913 tw15961655770706313693 tw16014950102262700903 tw16096567725544994394 tw16241435757275650331 tw16282647669191007926 tw16306590751417216611 tw16334945275734310929 tw1636292891404237753 tw16399380208917670364 tw16412190075320733893 tw1645423485444592007 tw16490477380740980198 tw1650993597739489924 tw16543206291598226262 tw16548963301811669109 tw16693014436625179880 tw167490703333097552 tw16841674201610501468 tw16854058044253477313 tw16969363780343152275 tw17077046466641861863 tw17089292658265239005 tw17122682534621252231 tw17145890477466908684 tw17154067302305295960 tw17160672676482314409 tw17170703245453842836 tw1720548667154754492 tw17211821841518454383 tw17258640336686513251 tw17262403757243831341 tw17279573671476140176 tw17305541895547121093 tw17491310175563116897 tw17551655857960094537 tw17773155337732764476 tw17775901860011125102 tw17886583521399986117 tw17894581601004511015 tw17907529590673530383 tw17951322489982272368 tw18115966219587789726 tw18280267907634081141 tw18285311023016240024 tw18337231033828961576 tw18362021210246261481 tw18384300966462976662 tw18404855154353180878 tw18438863345137691520 tw1886702799742598859 tw1889794674274520798 tw2026463460012582321 tw2096363849619036369 tw2131610422731739521 tw2147988552269351993 tw2177987666658973787 tw2189686266760616972 tw2206681771365619280 tw2295000775088536537 tw2471518093919192899 tw2494307631995849100 tw2527938294317597482 tw2550657352478144421 tw2584805456337055141 tw2664124681017690249 tw2723096011097242492 tw2766687738435363423 tw3021579291946610950 tw3113739136810761766 tw3175790564054878211 tw3270819067746932133 tw3301526013404134978 tw333301488015923127 tw337551344857181220 tw3413643499246704544 tw3417413923612056183 tw3453275105028950150 tw3457097707030025420 tw357600542440427222 tw3582892300338724602 tw3667807625328688828 tw3684953517298457197 tw3711161917141650916 tw3809200649921751683 tw385625029189923842 tw3877100494009897510 tw3885992569609714969 tw3898317962854756606 tw3915148156261282686 tw4044484814391834382 tw4081538419412646352 tw4122806657536341335 tw4275806258030547260 tw4413810371744855588 tw4423152224538995668 tw450457223516785697 tw4635189387634297158 tw46651368274122816 tw4701937610889325528 tw4722081899930631190 tw4799066625031220541 tw4930374780016512640 tw5020918357810350739 tw5039150906684383913 tw5144615349138236931 tw5168292039358918800 tw5213574829359161740 tw5239762571737362484 tw5264276372401489909 tw5280011517729680161 tw5409662679085737645 tw5513086319041605794 tw5618712310595873480 tw5661193435511554158 tw5823872376827531732 tw5867733459979448042 tw5947777271232215013 tw6112574586757267453 tw6177944916364079624 tw6184386017741391666 tw6189698678192798319 tw626428271235511022 tw6274252675086302748 tw6363821720168538938 tw6380868331284130105 tw6419708638201324220 tw6493847968737912216 tw6708474780160750911 tw6748764171883740572 tw6781730513752941232 tw6858993328945564271 tw690335172171387288 tw714202804435042468 tw7160261148797374740 tw7535451075463213023 tw7676786621245761372 tw7822987636659026137 tw7886313099124129914 tw7946035675037649211 tw8000315424300854884 tw8000821359253612958 tw8002679653926282635 tw8041265574870730877 tw8156334228923912892 tw8251881670242902254 tw8360783756516532135 tw8453987716596208275 tw854584708911580300 tw8609561090522466261 tw8652042816437234378 tw8672211837548110926 tw8766121226376131950 tw9004405237132755337 tw9057658868654004848 tw9068428646178349491 tw9072666489293827502 tw9108457315036764664 tw9185174976722684944 tw9395059692020729954 tw9431964769208380168 tw9469849183275187843 tw949518517477495623 tw9609914878357569656 tw9730499486965648579 tw981565337353631722 tw9947666222217467555 tw9956820746081369025 tw9970680888380619285:True)
open PySem PySem.W PyProof.Rows
set_option maxRecDepth 100000 in
set_option maxHeartbeats 0 in
theorem PySem.Challenge.cw_bytetongue_k64_whole_read_or_shown_holds : PySem.Challenge.rw_bytetongue_k64_whole_read_or_shown.Holds := by
 w_on;o_law;k_head;(case hw=>w_witness2)
 k_fill
 refine My.walk (l:=PySem.Challenge.rw_bytetongue_k64_whole_read_or_shown) Z Z Z (λw h Y=>PySem.W.kIn_of Y) ?F
 case F =>
  intro w mg h KX G
  refine' My.txt_mk KX G ?lX ?m5 ?gB ?dB ?jB ?lB ?rB ?pB ?fB ?cB ?pA ?jx ?nP ?nO ?nN ?nL ?zA ?oA ?rA ?gF ?uF ?dJ ?iT ?nR ?vR ?wO ?qI ?q8 ?qS ?qB ?wy ?wG ?vZ ?vT ?vM ?tB ?wt ?wr ?wq ?wp ?wn ?wm ?wl ?HS ?bR ?zR ?sS ?RQ ?BR ?GR ?yS ?JR ?JT ?NQ ?uR ?XR ?dR ?ZQ ?KQ ?KR ?QS ?lR ?WQ ?PQ ?rT ?QQ ?DR ?YQ ?HQ ?jR ?XQ ?wR ?pR ?GQ ?ZS ?FT ?zT ?mR ?LQ ?cT ?nT ?XS ?xR ?FQ ?WR ?LR ?YS ?QR ?JQ ?fO ?lN ?MF ?GJ ?bF ?mK ?rI ?RL ?oF ?xQ ?cO ?bM ?oH ?fJ ?iQ ?mG ?zP ?mL ?gQ ?cL ?zQ ?yI ?yL ?rP ?pF ?aH ?aP ?gG ?mO ?RG ?dH ?YG ?tH ?uL ?pL ?tK ?rJ ?iG ?JP ?cG ?TP ?xH ?cQ ?YJ ?jH ?UJ ?zO ?iH ?NP ?wL ?qE ?qX ?qP ?qy ?wv ?wD ?wJ ?vW ?vP ?vJ ?uB ?zF ?rD ?HF ?aO ?QC ?rO ?KJ ?mJ ?aG ?rE ?eO ?cF ?QH ?ZG ?xF ?sE ?oO ?qM ?gD ?rK ?fL ?KC ?CQ ?zG ?fK ?PP ?xO ?JH ?nF ?WL ?yG ?rM ?XH ?PJ ?TF ?jN ?ZP ?GF ?xN ?vG ?dI ?uH ?MJ ?wQ ?qK ?rc ?qU ?qD ?wA ?wI ?wK ?wb ?vV ?vO ?bB ?sO ?gJ ?CG ?VN ?VD ?pK ?bI ?fM ?eQ ?RP ?aF ?JM ?bL ?yO ?QJ ?YL ?wP ?qJ ?q9 ?qT ?qC ?wz ?wH ?wa ?vU ?vN ?aB ?wu ?vH ?xK ?mF ?bK ?XF ?bQ ?mH ?iJ ?CK ?YM ?YD ?jG ?DP ?nG ?YF ?RD ?jK ?FJ ?FN ?pG ?zE ?lQ ?tG ?VK ?tQ ?uE ?TG ?jQ ?TJ ?XN ?aN ?OD ?KH ?sG ?jO ?yH ?SJ ?XK ?ZL ?uJ ?CP ?wN ?qH ?qZ ?qR ?qA ?wx ?wF ?vY ?vS ?vL ?vA ?wj ?wg ?wf ?DK ?oG ?pO ?VM ?gP ?pI ?RN ?dN ?UG ?oE ?VL ?jM ?cH ?zL ?tE ?fH ?ZM ?rN ?WK ?ZD ?bJ ?cN ?HN ?YK ?JG ?jE ?oM ?VF ?WP ?QG ?SM ?WM ?DQ ?eN ?nQ ?JN ?NK ?uO ?PK ?wM ?qG ?qY ?qQ ?qz ?ww ?wE ?vX ?vQ ?vK ?uA ?we ?wd ?wc ?tL ?MN ?eG ?VP ?sI ?bO ?lO ?QK ?yK ?eE ?yF ?GK ?pQ ?jF ?WD ?rG ?uK ?yQ ?iM ?uP ?QD ?HH ?XM ?dG ?PN ?MK ?PL ?eF ?pJ ?pM ?zJ ?CN ?YH ?ZF ?RK ?aM ?VH ?DG ?cJ ?UL ?vI ?IK ?WN ?iK ?RM ?xJ ?pN ?qN ?fG ?HJ ?uQ ?DN ?BP ?oN ?cP ?XJ ?jL ?fP ?tM ?jP ?dM ?SN ?JK ?gO ?pP ?dO ?WF ?rQ ?BJ ?CJ ?uI ?GP ?pH ?ZK ?gK ?oJ ?RJ ?uM ?gH ?eH ?jJ ?oK ?zH ?rH ?MP ?zN ?nJ ?aQ ?xG ?uG ?cM ?zK ?QF ?xM ?qO ?zM ?BL ?dK ?qL ?KN ?aL ?LK ?yN ?rF ?yP ?mQ ?yM ?OJ ?nH ?yJ ?cI ?xP ?sJ ?gM ?bG ?bH ?fQ ?ZJ ?tO ?aJ ?nM ?VG ?uN ?QM ?qF ?QL ?lA ?jA ?nA ?bA ?cA ?gA ?aA ?k0 ?k1 ?k2 ?yR ?cR ?aR ?tD ?GD ?JD ?yD ?uD ?GC ?bC ?vC ?JC ?mC ?cC ?fC ?jC ?NB ?wC ?vB ?wB ?rC ?VB ?zB ?HD ?vD ?KD ?PB ?uC ?JB ?dC ?iC ?aC ?tC ?YB ?nC ?HB ?QB ?RB ?gC ?pC ?yC ?k3 ?k4 ?k5 ?k6 ?k7 ?k8 ?k9 ?JS ?xT ?oR ?VR ?uT ?yE ?JF ?BK ?bT ?SQ ?HR ?tR ?dF ?VJ ?sH ?XC ?LC ?cD ?aD ?dD ?iD ?ZC ?bD ?pD ?mD ?jD ?nD ?YC ?RC ?fD ?gR ?XD ?FP ?JL ?z0 ?z1 ?z2 ?z3 ?z4 ?z5 ?z6 ?z7 ?z8 ?z9 ?rR ?ZR ?MT ?CT
  case lX|m5|gB|dB|jB|lB|rB|pB|fB|cB=>k_is
  (case pA=>kts_exm)
  (case jx=>kernel_rfl)
  case nP|nO|nN|nL|zA|oA|rA|gF|uF|dJ|iT|nR|vR|wO|qI|q8|qS|qB|wy|wG|vZ|vT|vM|tB|wt|wr|wq|wp|wn|wm|wl|HS|bR|zR|sS|RQ|BR|GR|yS|JR|JT|NQ|uR|XR|dR|ZQ|KQ|KR|QS|lR|WQ|PQ|rT|QQ|DR|YQ|HQ|jR|XQ|wR=>k_is
  case pR|GQ|ZS|FT|zT|mR|LQ|cT|nT|XS|xR|FQ|WR|LR|YS|QR|JQ|fO|lN|MF|GJ|bF|mK|rI|RL|oF|xQ|cO|bM|oH|fJ|iQ|mG|zP|mL|gQ|cL|zQ|yI|yL|rP|pF|aH|aP|gG|mO|RG|dH|YG|tH|uL|pL|tK|rJ|iG|JP|cG|TP|xH|cQ=>k_is
  case YJ|jH|UJ|zO|iH|NP|wL|qE|qX|qP|qy|wv|wD|wJ|vW|vP|vJ|uB|zF|rD|HF|aO|QC|rO|KJ|mJ|aG|rE|eO|cF|QH|ZG|xF|sE|oO|qM|gD|rK|fL|KC|CQ|zG|fK|PP|xO|JH|nF|WL|yG|rM|XH|PJ|TF|jN|ZP|GF|xN|vG|dI|uH=>k_is
  case MJ|wQ|qK|rc|qU|qD|wA|wI|wK|wb|vV|vO|bB|sO|gJ|CG|VN|VD|pK|bI|fM|eQ|RP|aF|JM|bL|yO|QJ|YL|wP|qJ|q9|qT|qC|wz|wH|wa|vU|vN|aB|wu|vH|xK|mF|bK|XF|bQ|mH|iJ|CK|YM|YD|jG|DP|nG|YF|RD|jK|FJ|FN=>k_is
  case pG|zE|lQ|tG|VK|tQ|uE|TG|jQ|TJ|XN|aN|OD|KH|sG|jO|yH|SJ|XK|ZL|uJ|CP|wN|qH|qZ|qR|qA|wx|wF|vY|vS|vL|vA|wj|wg|wf|DK|oG|pO|VM|gP|pI|RN|dN|UG|oE|VL|jM|cH|zL|tE|fH|ZM|rN|WK|ZD|bJ|cN|HN|YK=>k_is
  case JG|jE|oM|VF|WP|QG|SM|WM|DQ|eN|nQ|JN|NK|uO|PK|wM|qG|qY|qQ|qz|ww|wE|vX|vQ|vK|uA|we|wd|wc|tL|MN|eG|VP|sI|bO|lO|QK|yK|eE|yF|GK|pQ|jF|WD|rG|uK|yQ|iM|uP|QD|HH|XM|dG|PN|MK|PL|eF|pJ|pM|zJ=>k_is
  case CN|YH|ZF|RK|aM|VH|DG|cJ|UL|vI|IK|WN|iK|RM|xJ|pN|qN|fG|HJ|uQ|DN|BP|oN|cP|XJ|jL|fP|tM|jP|dM|SN|JK|gO|pP|dO|WF|rQ|BJ|CJ|uI|GP|pH|ZK|gK|oJ|RJ|uM|gH|eH|jJ|oK|zH|rH|MP|zN|nJ|aQ|xG|uG|cM=>k_is
  case zK|QF|xM|qO|zM|BL|dK|qL|KN|aL|LK|yN|rF|yP|mQ|yM|OJ|nH|yJ|cI|xP|sJ|gM|bG|bH|fQ|ZJ|tO|aJ|nM|VG|uN|QM|qF|QL|lA|jA|nA|bA|cA|gA|aA|k0|k1|k2|yR=>k_is
  (case cR=>rfl)
  (case aR=>rfl)
  (case tD=>rfl)
  (case GD=>rfl)
  case JD=>k_is
  (case yD=>rfl)
  (case uD=>rfl)
  case GC=>k_is
  (case bC=>rfl)
  (case vC=>rfl)
  case JC=>k_is
  (case mC=>rfl)
  (case cC=>rfl)
  case fC=>k_is
  (case jC=>rfl)
  (case NB=>rfl)
  case wC=>k_is
  (case vB=>rfl)
  (case wB=>rfl)
  case rC=>k_is
  (case VB=>rfl)
  (case zB=>rfl)
  case HD=>k_is
  (case vD=>rfl)
  (case KD=>rfl)
  case PB=>k_is
  (case uC=>rfl)
  (case JB=>rfl)
  case dC=>k_is
  (case iC=>rfl)
  (case aC=>rfl)
  case tC=>k_is
  (case YB=>rfl)
  (case nC=>rfl)
  case HB=>k_is
  (case QB=>rfl)
  (case RB=>rfl)
  case gC=>k_is
  (case pC=>rfl)
  (case yC=>rfl)
  case k3|k4|k5|k6|k7|k8|k9|JS|xT|oR|VR|uT|yE=>k_is
  (case JF=>rfl)
  (case BK=>rfl)
  case bT|SQ|HR|tR|dF=>k_is
  (case VJ=>rfl)
  (case sH=>rfl)
  case XC=>k_is
  (case LC=>rfl)
  (case cD=>rfl)
  case aD=>k_is
  (case dD=>rfl)
  (case iD=>rfl)
  case ZC=>k_is
  (case bD=>rfl)
  (case pD=>rfl)
  case mD=>k_is
  (case jD=>rfl)
  (case nD=>rfl)
  case YC=>k_is
  (case RC=>rfl)
  (case fD=>rfl)
  case gR|XD=>k_is
  (case FP=>rfl)
  (case JL=>rfl)
  case z0|z1|z2|z3|z4|z5|z6|z7|z8|z9|rR|ZR|MT|CT=>k_is
