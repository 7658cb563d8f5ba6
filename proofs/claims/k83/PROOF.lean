import PyProof.Rows.All
import Wide.All
import Wide.FinOn
import KE.KDictOf
import KE.RegKIsAll
import KE.KEqDeep
import KE.KRevIter
import KE.KEqDict
import KE.RegKTryMore
import KE.KItem
import KE.KTurns
import KE.KFromBytes
import KE.KEqText
import KE.KNestM
import KE.KLam
import KE.KMinKey
import KE.KDictList
import PySem.Challenge.RW_bytetongue_k83_whole_in_step_from_all_sp
set_option Elab.async false
set_option linter.all false
set_option maxRecDepth 100000
theorem Z{α:Sort _}{a:α}:a=a:=rfl
def On:=@List.length_map
def Oo:=@Nat.le_refl
def Op:=@List.mem_singleton
def Oq:=@List.mem_map
def Os:=@List.mem_append
def Ot:=@List.map_append
def Ou:=@List.getElem?_eq_some_iff
def Ov:=@List.getElem?_map
def Ow:=@PySem.Heap.get?_push_of_some
def Ox:=@Nat.zero_le
def Oy:=@PySem.Heap.lt_size
def Oz:=@List.length_append
def OA:=@List.mem_of_getElem?
def OB:=@PySem.Heap.get?_push_size
def OC:=@Nat.ne_of_lt
def OD:=@List.map_cons
def OE:=@List.size_toArray
def OF:=@List.getElem?_eq_getElem
def OG:=@List.length_take
def OH:=@Nat.lt_of_lt_of_le
def OI:=@Option.some.inj
def OJ:=@Nat.le_trans
def OK:=@List.take_length
def OL:=@Bool.false_ne_true
def OM:=@PySem.boot_len
def ON:=@List.mem_append_right
def OO:=@Bool.false_eq_true
def OP:=@List.mem_cons_self
def OQ:=@List.mem_cons_of_mem
def OR:=@List.find?_cons
def OS:=@Option.map_eq_some_iff
def OT:=@List.mem_cons
def OU:=@List.take_add_one
def OV:=@List.length_cons
def OW:=@Bool.not_true
def OX:=@Int.toNat_natCast
def OY:=@List.getElem?_of_mem
def OZ:=@List.mem_append_left
def O0:=@List.length_range
def O1:=@PySem.F.plainAttrs_list
def O2:=@List.mem_range
def O3:=@List.forIn_cons
def O4:=@List.lookup_cons
def O5:=@Nat.lt_irrefl
def O6:=@PySem.Heap.SameBut.update
def O7:=@PySem.F.plain_max_loop
def O8:=@PyProof.Rows.boot_list
def O9:=@PySem.F.slot_list_append
def Pa:=@PySem.F.type_list_append
def Pb:=@Nat.lt_succ_self
def Pc:=@Bool.and_eq_true
def Pd:=@List.nodup_append
def Pe:=@Int.zero_add
def Pf:=@List.find?_eq_none
def Pg:=@List.append_nil
def Ph:=@List.nodup_cons
def Pj:=@List.mem_of_mem_take
def Pk:=@Nat.le_succ
def Pl:=@PySem.F.slot_dict_keyiterator_next
def Pn:=@List.getElem?_toArray
def Po:=@List.pairwise_map
def Pp:=@PySem.Heap.size_push
def Pq:=@List.getElem?_append_left
def Pr:=@List.append_assoc
def Ps:=@List.take_of_length_le
def Pu:=@PyProof.Rows.boot_tuple
def Pw:=@List.map_map
def Px:=@List.mem_of_find?_eq_some
def Py:=@Nat.not_lt_zero
def Pz:=@Array.length_toList
def PB:=@Nat.ne_of_gt
def PC:=@List.getElem?_append_right
def PD:=@List.replicate_succ
def PF:=@Nat.lt_succ_of_lt
def PH:=@PySem.F.slot_dict_itemiterator_next
def PJ:=@PySem.F.slot_tuple_hash
def PK:=@PySem.F.slot_tuple_eq
def PL:=@List.pairwise_iff_getElem
def PM:=@List.find?_some
def PN:=@PySem.mem_of_lookup
def PQ:=@Option.isSome_map
def PR:=@List.nodup_nil
def PU:=@PySem.F.plainAttrs_dict
def PV:=@List.getElem?_eq_none
def PX:=@List.forIn_nil
def PY:=@List.length_pos_iff
def PZ:=@List.range_succ
def P0:=@List.take_append_drop
def P1:=@List.Nodup.length_le_of_subset
def P2:=@Nat.le_of_eq
def P3:=@List.getElem?_take_of_lt
def P4:=@List.any_cons
def P5:=@PyProof.Rows.slot_tuple_getitem
def P6:=@List.all_eq_true
def P7:=@PySem.F.slot_dict_itemiterator_iter
def P8:=@PySem.F.slot_dict_items
def P9:=@Array.forIn_toList
def Qa:=@Bool.not_false
def Qb:=@PySem.F.entry_max_loop
def Qc:=@PyProof.Rows.boot_isinstance
def Qd:=@List.filter_append
def Qe:=@Option.map_eq_none_iff
def Qf:=@Nat.le_of_lt
def Qg:=@PyProof.Rows.callWith_type1
def Qh:=@Bool.eq_iff_iff
def Qi:=@List.length_replicate
def Qj:=@PySem.F.slot_dict_get
def Qk:=@List.length_drop
def Ql:=@List.flatten_cons
def Qm:=@PySem.Heap.get?_update_self
def Qn:=@List.eq_nil_of_length_eq_zero
def Qo:=@List.getD_eq_getElem?_getD
def Qp:=@List.mem_iff_getElem
def Qq:=@List.getElem?_inj
def Qr:=@List.filter_cons
def Qs:=@Bool.eq_false_iff
def Qt:=@Option.map_some
def Qu:=@List.map_nil
def Qv:=@PySem.F.slot_dict_getitem
def Qw:=@Array.getElem?_toList
def Qx:=@Nat.min_eq_left
def Qy:=@PyProof.Rows.evalArgs_none
def Qz:=@PySem.F.slot_dict_iter
def QB:=@PySem.F.entry_dict_keyiterator_next
def QC:=@PySem.F.args_dict_keyiterator_next_1
def QD:=@Array.toArray_toList
def QF:=@PySem.F.slot_dict_len
def QH:=@PyProof.Rows.boot_all
def QJ:=@PySem.W.ke_shaped_ints
def QK:=@Nat.sub_self
def QL:=@Int.emod_nonneg
def QM:=@Int.emod_lt_of_pos
def QN:=@Nat.succ_le_succ
def QP:=@List.take_zero
def QQ:=@List.getElem?_range
def QR:=@List.filterMap_cons
def QU:=@List.of_mem_zip
def QV:=@List.cons_append
def QX:=@List.length_nil
def QY:=@Nat.lt_trans
def QZ:=@PySem.F.entry_dict_get
def Q0:=@PySem.F.slot_tuple_add
def Q1:=@PySem.F.entry_tuple_add
def Q2:=@PySem.F.args_tuple_add_2
def Q3:=@Option.getD_none
def Q4:=@Nat.mul_comm
def Q5:=@List.drop_zero
def Q6:=@Nat.min_eq_right
def Q7:=@List.take_nil
def Q8:=@List.mem_of_mem_drop
def Q9:=@PySem.F.args_dict_itemiterator_iter_1
def Ra:=@PySem.F.type_dict_items
def Rb:=@PySem.F.entry_dict_items
def Rc:=@PySem.F.args_dict_items_1
def Re:=@Array.getElem?_eq_none
def Rf:=@List.filter_eq_nil_iff
def Rg:=@Nat.lt_trichotomy
def Rh:=@List.map_congr_left
def Ri:=@List.pairwise_singleton
def Rj:=@List.append_inj_left'
def Rk:=@List.flatMap_append
def Rl:=@List.prefix_iff_eq_take
def Rm:=@Nat.mul_le_mul
def Rn:=@List.length_filter_le
def Ro:=@List.drop_eq_getElem_cons
def Rp:=@List.nodup_range
def Rq:=@List.ext_getElem?
def Rr:=@Nat.succ.inj
def Rs:=@PySem.Heap.get?_none_of_le
def Rt:=@List.getElem?_set_self
def Ru:=@List.getElem?_set_ne
def Rv:=@PyProof.noPylong_small
def Rx:=@Option.isSome_iff_exists
def Ry:=@List.getElem?_replicate
def Rz:=@PySem.F.args_dict_get_2
def RA:=@PySem.F.type_dict_get
def RB:=@PySem.Heap.get?_update_other
def RC:=@List.length_singleton
def RD:=@Nat.le_of_ble_eq_true
def RE:=@Array.getElem?_eq_some_iff
def RF:=@Nat.add_sub_cancel_left
def RG:=@List.drop_eq_nil_of_le
def RH:=@PySem.F.entry_tuple_hash
def RI:=@PySem.F.args_tuple_hash_1
def RJ:=@PySem.F.entry_tuple_eq
def RK:=@PySem.F.args_tuple_eq_2
def RL:=@PySem.F.entry_dict_iter
def RM:=@PySem.F.args_dict_iter_1
def RN:=@List.getElem?_reverse
def RO:=@PySem.F.slot_dict_valueiterator_iter
def RP:=@PySem.F.slot_dict_values
def RQ:=@PySem.F.entry_dict_itemiterator_next
def RS:=@PySem.F.args_dict_itemiterator_next_1
def RT:=@PySem.F.slot_dict_items_iter
def RU:=@PySem.F.slot_dict_setdefault
def RV:=@PySem.F.slot_tuple_gt
def RW:=@PyProof.Rows.boot_int
def RX:=@List.take_append_of_le_length
def RY:=@List.filter_eq_self
def RZ:=@List.eq_nil_or_concat
def R0:=@List.concat_eq_append
def R1:=@List.drop_of_length_le
def R3:=@List.pairwise_append
def R4:=@List.getElem?_eq_none_iff
def R5:=@Int.toNat_of_nonneg
def R6:=@PySem.F.slot_list_extend
def R7:=@PySem.F.type_list_extend
def R8:=@List.exists_cons_of_ne_nil
def R9:=@List.length_pos_of_mem
def on:=@PySem.wpAny_bind
def Sa:=@PySem.wpAny_pure
def Sb:=@if_neg
def Sc:=@if_pos
def Sd:=@absurd
def Se:=@of_decide_eq_true
def Sf:=@decide_eq_true
def Sh:=@decide_eq_false
namespace L2
open PySem PySem.Spec PyProof.Rows
abbrev aw:=Sum Int Str
def hV:aw->Value->Bool
 | .inl k,v=>Value.isInt k v
 | .inr x,v=>Value.isStrOf x v
def HX(w:World):aw->Int
 | .inl k=>hashInt k
 | .inr x=>hashStr w x
theorem hU:∀ {k:aw} {v:Value},hV k v=true->(∃i t,k=Sum.inl i/\v=Value.int i t)\/(∃x t,k=Sum.inr x/\v=Value.str x t)
 | .inl i,v,h=>by
  obtain⟨t,e⟩:=Value.isInt_shape (k:=i) (v:=v) h;exact .inl ⟨i,t,Z,e⟩
 | .inr x,v,h=>by
  obtain⟨t,e⟩:=Value.isStrOf_shape (x:=x) (v:=v) h;exact .inr ⟨x,t,Z,e⟩
def HW(i:Int)(t:Tok):hV (.inl i) (.int i t)=true:=by simp[hV,Value.isInt]
def HV(x:Str)(t:Tok):hV (.inr x) (.str x t)=true:=by simp[hV,Value.isStrOf]
def HU(a b:Int):decide ((Sum.inl a:aw)=Sum.inl b)=(a == b):=by
 by_cases e:a=b
 ·subst e;simp
 ·have h:¬(Sum.inl a:aw)=Sum.inl b:=λq=>e (Sum.inl.inj q);rw[Sh h];exact (beq_eq_false_iff_ne.mpr e).symm
def HQ(a b:Str):decide ((Sum.inr a:aw)=Sum.inr b)=decide (a=b):=by
 by_cases e:a=b
 ·subst e;simp
 ·have h:¬(Sum.inr a:aw)=Sum.inr b:=λq=>e (Sum.inr.inj q);rw[Sh h,Sh e]
def HS(a:Int)(b:Str):decide ((Sum.inl a:aw)=Sum.inr b)=false:=Sh (λq=>nomatch q)
def HR(a:Str)(b:Int):decide ((Sum.inr a:aw)=Sum.inl b)=false:=Sh (λq=>nomatch q)
def bX(prog:Program)(w:World):PySem.KeyKind prog w aw where
 is:=hV
 hash:=HX w
 inj:=λv a b g d=>by
  rcases hU g with ⟨i,t,rfl,rfl⟩|⟨x,t,rfl,rfl⟩
  ·rcases hU d with ⟨j,u,rfl,e⟩|⟨y,u,rfl,e⟩
   ·injection e with e1 _;rw[e1]
   ·exact nomatch e
  ·rcases hU d with ⟨j,u,rfl,e⟩|⟨y,u,rfl,e⟩
   ·exact nomatch e
   ·injection e with e1 _;rw[e1]
 byValue:=λk v h=>by
  rcases hU h with ⟨i,t,rfl,rfl⟩|⟨x,t,rfl,rfl⟩<;>rfl
 pyHash:=λc h=>by
  rcases hU c with ⟨i,t,rfl,rfl⟩|⟨x,t,rfl,rfl⟩
  ·exact wpAny_pyHash_int h
  ·exact wpAny_pyHash_str h
 eqBool:=λf c h=>by
  rcases hU f with ⟨i,t,rfl,rfl⟩|⟨x,t,rfl,rfl⟩
  ·rcases hU c with ⟨j,u,rfl,rfl⟩|⟨y,u,rfl,rfl⟩
   ·rw[HU]at h;exact wpAny_eqBool_int h
   ·rw[HS]at h;exact SeqAt.EqAt.int_str i t y u _ _ _ _ h
  ·rcases hU c with ⟨j,u,rfl,rfl⟩|⟨y,u,rfl,rfl⟩
   ·rw[HR]at h;exact SeqAt.EqAt.str_int x t j u _ _ _ _ h
   ·rw[HQ]at h;exact wpAny_eqBool_str h
 «strs»:=λk x t v h=>by
  rcases hU h with ⟨i,u,rfl,e⟩|⟨y,u,rfl,e⟩
  ·exact nomatch e
  ·injection e with e1 _
   subst e1;cases v<;>rfl
def G7(prog:Program)(w:World)(k:aw)(v:Value):(bX prog w).is k v=hV k v:=rfl
def G8(prog:Program)(w:World)(i:Int)(t:Tok):(bX prog w).is (.inl i) (.int i t)=true:=HW i t
def G6(prog:Program)(w:World)(x:Str)(t:Tok):(bX prog w).is (.inr x) (.str x t)=true:=HV x t
inductive V where
 | non|bl (b:Bool)|int (i:Int)|str (x:Str)|byt (b:Array UInt8)|flt (b:UInt64)|ref (a:Addr)|ty (n:String)
 deriving DecidableEq
def ax:V->Value->Prop
 | .non,u=>u=Value.none
 | .bl b,u=>u=Value.bool b
 | .int i,u=>∃t,u=Value.int i t
 | .str x,u=>∃t,u=Value.str x t
 | .byt b,u=>∃t,u=Value.bytes b t
 | .flt b,u=>∃t,u=Value.float b t
 | .ref a,u=>u=Value.ref a
 | .ty n,u=>u=Value.type n
abbrev ay:List V->List Value->Prop:=Paired ax
def ay.length{xs:List V}{us:List Value}(r:ay xs us):xs.length=us.length:=Paired.length r
theorem ay.get:∀ {xs:List V} {us:List Value} {i:Nat} {x:V},ay xs us->xs[i]? = some x->∃u,us[i]? = some u/\ax x u
 | _,_,_,_,.nil,e=>by simp at e
 | _,_,0,_,.cons r _,e=>by simp at e;subst e;exact⟨_,Z,r⟩
 | _,_,i+1,x,.cons _ t,e=>by
  obtain⟨u,a,b⟩:=ay.get (i:=i) (x:=x) t (by simpa using e);exact⟨u,by simpa using a,b⟩
theorem ay.append:∀ {xs b:List V} {us a:List Value},ay xs us->ay b a->ay (xs++b) (us++a)
 | _,_,_,_,.nil,s=>s
 | _,_,_,_,.cons r t,s=>.cons r (ay.append t s)
theorem ay.take:∀ {xs:List V} {us:List Value} (n:Nat),ay xs us->ay (xs.take n) (us.take n)
 | _,_,0,_=>.nil
 | _,_,_+1,.nil=>.nil
 | _,_,n+1,.cons r t=>.cons r (ay.take n t)
theorem ay.drop:∀ {xs:List V} {us:List Value} (n:Nat),ay xs us->ay (xs.drop n) (us.drop n)
 | _,_,0,r=>r
 | _,_,_+1,.nil=>.nil
 | _,_,n+1,.cons _ t=>ay.drop n t
def cg:Option V->Option Value->Prop
 | some v,some u=>ax v u
 | none,none=>True
 | _,_=>False
def KV{κ:Type}:List (κ × V)->List (κ × Value)->Prop:=Paired λ(p:κ × V) (q:κ × Value)=>p.1=q.1/\ax p.2 q.2
def kV:aw->V
 | .inl i=>.int i
 | .inr x=>.str x
inductive HO where
 | lst (xs:List V)
 | tup (xs:List V)
 | dK (kvs:List (aw × V))|dT (kvs:List (List aw × V))
 | set (S:Int->Bool) (n:Nat)
 | ins (C dx:Addr) (fs:List (Str × V))
 | own (x:Addr)
 | xd (fs:List (Str × V))
 | met (f x:Addr)
 | rng (lo hi:Int)
 | frz (o:Obj) (u:HO)
 | tbl (ps:Array Value)
 | ext (φ:Heap->Prop)
abbrev Hp:=Addr->Option HO
def upd(H:Hp)(a:Addr)(o:HO):Hp:=λb=>if b=a then some o else H b
def aP{H:Hp}{a:Addr}{o:HO}:upd H a o a=some o:=by unfold upd;rw[Sc rfl]
def am{H:Hp}{a b:Addr}{o:HO}(h:b≠a):upd H a o b=H b:=by unfold upd;rw[Sb h]
def mS{H:Hp}{a b:Addr}{o u:HO}(h:H a=some o)(h':H b=some u)(d:o≠u):a≠b:=by
 intro e;subst e;rw[h]at h';exact d (OI h')
def aO{H:Hp}{a b:Addr}{o:HO}(h:H a=some o)(h':H b=none):a≠b:=by
 intro e;subst e;rw[h]at h';cases h'
section
variable (P:Program)(w:World)
def bd(H:Hp)(h:Heap)(a:Addr):HO->Prop
 | .lst xs=>xs.length<=sizeLine/\∃(b:List Value) (n:Nat),ay xs b/\h.get? a=some { cls:=.type "list",data:=.seq b.toArray n }
 | .tup xs=>xs.length<=sizeLine/\∃b:List Value,ay xs b/\IsTup h a b.toArray
 | .dK kvs=>kvs.length<=sizeLine/\(a == sysModules)=false/\∃vs,KV kvs vs/\h.DictOf (bX P w) a vs
 | .dT kvs=>kvs.length<=sizeLine/\(a == sysModules)=false/\∃xs:List (List aw × Addr × Value),
  Paired (λ(p:List aw × V) (q:List aw × Addr × Value)=>p.1=q.1/\H q.2.1=some (.tup (p.1.map kV))/\ax p.2 q.2.2) kvs xs /\
  ∃o es ep,h.get? a=some o/\o.ExactDict/\o.data=.dict es ep/\es.toList=xs.map (entryOfKey (tupleKind (bX P w)))/\(xs.map (·.1)).Nodup
 | .set S n=>h.SetOf (intKind P w) a S n
 | .ins C dx fs=>H dx=some (.own a)/\fs.length<=1000/\dx≠a/\h.get? a=some (W.instObj C dx) /\
  ∃mA,h.Ns1 dx mA/\(∀f,cg (fs.lookup f) (mA f))/\PySem.Within mA (fs.map (·.1))
 | .own _=>∃o,h.get? a=some o
 | .xd fs=>∃mA,h.Ns1 a mA/\∀f,cg (fs.lookup f) (mA f)
 | .rng lo hi=>∃t u v,h.get? a=some { cls:=.type "range",data:=.fields #[.int lo t,.int hi u,.int 1 v] }
 | .frz o u=>h.get? a=some o/\bd H h a u
 | .tbl ps=>h.get? a=some { cls:=.none,data:=.fields ps }
 | .met f x=>h.get? a=some (W.methodObj (.ref f) (.ref x))
 | .ext φ=>φ h/\(∃o,h.get? a=some o)/\∀h1 h2:Heap,φ h1->(∀o,h1.get? a=some o->h2.get? a=some o)->φ h2
def bn(H:Hp)(h:Heap):Prop:=∀a o,H a=some o->bd P w H h a o
end
section
variable {P:Program}{w:World}{H H':Hp}{h h':Heap}{a:Addr}{o:HO}
def bd.lt(x:bd P w H h a o):a<h.objs.size:=by
 cases o with
 | lst xs=>obtain⟨_,_,_,_,e⟩:=x;exact Oy e
 | tup xs=>obtain⟨_,_,_,p⟩:=x;exact p.lt
 | dK kvs=>obtain⟨_,_,_,_,o,_,_,e,_⟩:=x;exact Oy e
 | dT kvs=>obtain⟨_,_,_,_,o,_,_,e,_⟩:=x;exact Oy e
 | set S n=>obtain⟨o,_,_,_,e,_⟩:=x;exact Oy e
 | ins C dx fs=>obtain⟨_,_,_,e,_⟩:=x;exact Oy e
 | own y=>obtain⟨_,e⟩:=x;exact Oy e
 | xd fs=>obtain⟨_,⟨_,_,_,e,_⟩,_⟩:=x;exact Oy e
 | rng lo hi=>obtain⟨_,_,_,e⟩:=x;exact Oy e
 | frz ob u=>obtain⟨e,_⟩:=x;exact Oy e
 | tbl ps=>exact Oy (show h.get? a=some _ from x)
 | met f y=>exact Oy (show h.get? a=some _ from x)
 | ext φ=>obtain⟨_,⟨_,e⟩,_⟩:=x;exact Oy e
theorem Paired.mapP{α β:Type}{F G:α->β->Prop}:∀ {c:List α} {l₂:List β},Paired F c l₂->(∀a b,F a b->G a b)->Paired G c l₂
 | _,_,.nil,_=>.nil
 | _,_,.cons r t,f=>.cons (f _ _ r) (Paired.mapP t f)
def bd.stay(x:bd P w H h a o)(k:∀b u,(b=a\/H b=some (.own a))->h.get? b=some u->h'.get? b=some u)
 (l:∀b,H b=some (.own a)->H' b=some (.own a)) (s:∀b xs,H b=some (.tup xs)->H' b=some (.tup xs)):bd P w H' h' a o:=by
 induction o with
 | lst xs=>obtain⟨z,i,n,r,e⟩:=x;exact⟨z,i,n,r,k _ _ (.inl Z) e⟩
 | tup xs=>obtain⟨z,i,r,g,e,c⟩:=x;exact⟨z,i,r,g,k _ _ (.inl Z) e,c⟩
 | dK kvs=>obtain⟨z,y,vs,r,g,es,ep,e,c⟩:=x;exact⟨z,y,vs,r,g,es,ep,k _ _ (.inl Z) e,c⟩
 | dT kvs =>
  obtain⟨z,y,xs,r,g,es,ep,e,c⟩:=x;exact⟨z,y,xs,Paired.mapP r λp q z=>⟨z.1,s _ _ z.2.1,z.2.2⟩,g,es,ep,k _ _ (.inl Z) e,c⟩
 | set S n=>obtain⟨g,es,ep,t,e,c⟩:=x;exact⟨g,es,ep,t,k _ _ (.inl Z) e,c⟩
 | ins C dx fs =>
  obtain⟨d,z,ne,e,mA,⟨j,es,ep,m,c⟩,r⟩:=x;exact⟨l _ d,z,ne,k _ _ (.inl Z) e,mA,⟨j,es,ep,k _ _ (.inr d) m,c⟩,r⟩
 | own y=>obtain⟨g,e⟩:=x;exact⟨g,k _ _ (.inl Z) e⟩
 | xd fs=>obtain⟨mA,⟨j,es,ep,e,c⟩,r⟩:=x;exact⟨mA,⟨j,es,ep,k _ _ (.inl Z) e,c⟩,r⟩
 | rng lo hi=>obtain⟨t,u,v,e⟩:=x;exact⟨t,u,v,k _ _ (.inl Z) e⟩
 | frz g u ih=>obtain⟨e,q⟩:=x;exact⟨k _ _ (.inl Z) e,ih q⟩
 | tbl ps =>
  have e:h.get? a=some { cls:=.none,data:=.fields ps }:=x;show h'.get? a=some { cls:=.none,data:=.fields ps };exact k a _ (.inl Z) e
 | met f y =>
  have e:h.get? a=some (W.methodObj (.ref f) (.ref y)):=x;show h'.get? a=some (W.methodObj (.ref f) (.ref y));exact k a _ (.inl Z) e
 | ext φ=>obtain⟨p,⟨o,e⟩,st⟩:=x;exact⟨st _ _ p λo q=>k _ _ (.inl Z) q,⟨o,k _ _ (.inl Z) e⟩,st⟩
def bn.lt(x:bn P w H h)(e:H a=some o):a<h.objs.size:=(x a o e).lt
def bn.fresh(x:bn P w H h)(e:h.objs.size<=a):H a=none:=by
 cases q:H a with
 | none=>rfl
 | some u=>exact Sd (OH (x.lt q) e) (O5 _)
def bn.kept(x:bn P w H h)(k:∀b u,h.get? b=some u->h'.get? b=some u):bn P w H h':=λa o e =>
 (x a o e).stay (λb u _ q=>k b u q) (λ_ q=>q) λ_ _ q=>q
def bn.laid(x:bn P w H h)(k:∀b u,h.get? b=some u->h'.get? b=some u)(f:h.objs.size<=a)(new:bd P w (upd H a o) h' a o):bn P w (upd H a o) h':=λb u e=>by
 have d:=x.fresh f;by_cases hb:b=a
 ·subst hb;rw[aP]at e;cases e;exact new
 ·rw[am hb]at e;exact (x b u e).stay (λc v _ q=>k c v q) (λc q=>by rw[am (aO q d)];exact q) λc xs q=>by rw[am (aO q d)];exact q
end
def Rd(H:Hp)(a:Addr)(u:HO):Prop:=H a=some u\/∃o,H a=some (.frz o u)
def Rd.ok{P:Program}{w:World}{H:Hp}{h:Heap}{a:Addr}{u:HO}(r:Rd H a u)(x:bn P w H h):bd P w H h a u:=by
 rcases r with r|⟨o,r⟩
 ·exact x a u r
 ·obtain⟨_,q⟩:=x a _ r;exact q
def nK:Option HO->Prop
 | some (.lst _)=>True
 | some (.dK _)=>True
 | some (.dT _)=>True
 | some (.set _ _)=>True
 | some (.ins _ _ _)=>True
 | some (.ext _)=>True
 | _=>False
section
variable {P:Program}{w:World}{H:Hp}{h h':Heap}{x e:Addr}{o':HO}
def bn.write(ok:bn P w H h)(g:nK (H x))(j:e=x\/H e=some (.own x))(k:∀b u,b≠e->h.get? b=some u->h'.get? b=some u)(i:∃u,h'.get? e=some u)
 (new:bd P w (upd H x o') h' x o'):bn P w (upd H x o') h':=λb u q=>by
 have a:∀c y,H c=some (.own y)->c≠x:=λc y r z=>by subst z;rw[r]at g;exact g
 have d:∀c xs,H c=some (.tup xs)->c≠x:=λc xs r z=>by subst z;rw[r]at g;exact g
 by_cases hb:b=x
 ·subst hb;rw[aP]at q;cases q;exact new
 ·rw[am hb]at q;by_cases hbe:b=e
  ·have l:H b=some (.own x):=by
    rcases j with z|z
    ·exact Sd (hbe.trans z) hb
    ·rw[hbe];exact z
   rw[q]at l;cases l;obtain⟨v,m⟩:=i;exact⟨v,by rw[hbe];exact m⟩
  ·refine (ok b u q).stay (λc v f r=>k c v ?_ r) (λc r=>by rw[am (a c b r)];exact r) λc xs r=>by rw[am (d c xs r)];exact r
   rcases f with rfl|f
   ·exact hbe
   ·rintro rfl;rcases j with z|z
    ·exact a c b f z
    ·rw[f]at z;cases z;exact hb Z
end
structure Un (fs ex:List Addr) (H H':Hp) (h h':Heap):Prop where
 keep:∀b o,h.get? b=some o->H b=none->b∉fs->b∉ex->h'.get? b=some o
 slot:∀b o,h.get? b=some o->H b=none->b∈fs->b∉ex->∃sl,h'.get? b=some { o with slots:=sl }
 free:∀b o,h.get? b=some o->H b=none->b∉ex->H' b=none
 there:∀b o,h.get? b=some o->b∉ex->∃o',h'.get? b=some o'
 tups:∀b xs,H b=some (.tup xs)->H' b=some (.tup xs)
 frzs:∀b o u,H b=some (.frz o u)->H' b=some (.frz o u)
 tbls:∀b ps,H b=some (.tbl ps)->∃more,H' b=some (.tbl (ps++more))
section
variable {fs fs' ex ex':List Addr}{H H1 H2:Hp}{h h1 h2 h':Heap}{a x e:Addr}{o:HO}
def Un.any(u:Un fs ex H H1 h h1){b:Addr}{a:Obj}(q:h.get? b=some a)(n:H b=none)(hx:b∉ex):∃sl,h1.get? b=some { a with slots:=sl }:=by
 by_cases hb:b∈fs
 ·exact u.slot b a q n hb hx
 ·exact⟨a.slots,u.keep b a q n hb hx⟩
def Un.kept(k:∀b u,h.get? b=some u->h'.get? b=some u):Un fs ex H H h h' :=
 ⟨λb a q _ _ _=>k b a q,λb a q _ _ _=>⟨a.slots,k b a q⟩,λ_ _ _ n _=>n,λb a q _=>⟨a,k b a q⟩,λ_ _ q=>q,λ_ _ _ q=>q,λ_ ps q=>⟨#[],by rw[q];simp⟩⟩
def Un.refl:Un fs ex H H h h:=Un.kept λ_ _ q=>q
def Un.laid(k:∀b u,h.get? b=some u->h'.get? b=some u)(d:h.objs.size<=a)(c:H a=none):Un fs ex H (upd H a o) h h' where
 keep:=λb u q _ _ _=>k b u q
 slot:=λb u q _ _ _=>⟨u.slots,k b u q⟩
 free:=λb u q n _=>by rw[am (OC (OH (Oy q) d))];exact n
 there:=λb u q _=>⟨u,k b u q⟩
 tups:=λb xs q=>by rw[am (aO q c)];exact q
 frzs:=λb u xs q=>by rw[am (aO q c)];exact q
 tbls:=λb ps q=>⟨#[],by rw[am (aO q c),q];simp⟩
def Un.write(a:nK (H x))(i:e=x\/H e=some (.own x))(k:∀b u,b≠e->h.get? b=some u->h'.get? b=some u)(c:∃u,h'.get? e=some u):Un fs ex H (upd H x o) h h':=by
 have hx:∀b,H b=none->b≠x:=λb n z=>by subst z;rw[n]at a;exact a
 have f:∀b,H b=none->b≠e:=λb n z=>by
  subst z;rcases i with r|r
  ·exact hx b n r
  ·rw[n]at r;cases r
 have d:∀b u,H b=some u->¬nK (some u)->b≠x:=λb u q g z=>by subst z;rw[q]at a;exact g a
 refine⟨λb u q n _ _=>k b u (f b n) q,λb u q n _ _=>⟨u.slots,k b u (f b n) q⟩,λb u q n _=>by rw[am (hx b n)];exact n,λb u q _=>?_,
  λb xs q=>by rw[am (d b _ q λz=>z)];exact q,λb u xs q=>by rw[am (d b _ q λz=>z)];exact q,λb ps q=>⟨#[],by rw[am (d b _ q λz=>z),q];simp⟩⟩
 by_cases hbe:b=e
 ·subst hbe;exact c
 ·exact⟨u,k b u hbe q⟩
end
def nT(h:Heap)(H:Hp):List Addr:=(List.range h.objs.size).filter λa=>(H a).isSome
def dZ(h:Heap)(H:Hp):Heap:=W.hideAll h (nT h H)
def zo(h:Heap)(H:Hp):(dZ h H).objs.size=h.objs.size:=W.hideAll_size _ _
def zp{h:Heap}{H:Hp}{b:Addr}{o:Obj}(e:h.get? b=some o)(n:H b=none):(dZ h H).get? b=some o :=
 W.hideAll_get _ e λa=>by
  have q:(H b).isSome=true:=(List.mem_filter.mp a).2;rw[n]at q;simp at q
def yC{h:Heap}{H:Hp}{b:Addr}{o:Obj}(e:(dZ h H).get? b=some o):h.get? b=some o/\H b=none:=by
 have a:h.get? b=some o:=W.of_hideAll (nT h H) e;refine⟨a,?_⟩;cases q:H b with
 | none=>rfl
 | some x =>
  have c:b∈nT h H:=List.mem_filter.mpr ⟨O2.mpr (Oy a),by simp[q]⟩;have z:(dZ h H).get? b=none:=W.hideAll_none (nT h H) c;rw[z]at e;cases e
def M9(g h:Heap)(L:Addr):List (Addr × Obj):=(List.range h.objs.size).filterMap λa=>if a=L\/(g.get? a).isSome=true then none else (h.get? a).map λo=>(a,o)
def rest(g h:Heap)(L d:Addr):List (Addr × Obj):=(M9 g h L).filter λp=>decide (p.1≠d)
structure Mod (K:W.Frag) (mg:Str->Option Value) (base:Heap):Prop where
 kin:K.In base
 glob:base.Ns mainGlobals mg
 blt:∃mb,base.Ns builtinsNs mb/\∀x:Str,x ≠ "__name__"->mb x=bootBuiltins x
 nolimit:base.NoLimit
structure Cx where
 prog:Program
 w:World
 K:W.Frag
 mg:Str->Option Value
 base:Heap
 A:Around
 N:List Str
 s₀:Shared
 H₀:Hp
 env:Env
 outer:List Env
 stack:List Env
 ex:List Addr
 fn:Str->Bool
 calm:Bool
 pn:List (Addr × Obj)
 xe:Value->Shared->Prop
def dg(l:List Env):List Addr:=l.filterMap (·.frame)
abbrev Cx.fs(X:Cx):List Addr:=dg X.outer
def jy(a:Scope)(x:Str):Prop:=a.names.lookup x=some .local\/a.names.lookup x=some .cell\/a.names.lookup x=some .free
def gM(a:Scope)(x:Str):Prop:=a.names.lookup x=some .local\/a.names.lookup x=some .cell
def Nn(env:Env)(h:Heap)(m:Str->Option Value)(x:Str)(u:Value):Prop :=
 (env.kindOf x=some .local/\m x=some u)\/((env.kindOf x=some .cell\/env.kindOf x=some .free)/\∃c,env.cells.lookup x=some c/\h.IsCell c (some u))
structure Cx.Ok (X:Cx):Prop where
 mod:Mod X.K X.mg X.base
 kind:X.env.scope.kind=.function
 glob:X.env.globals=mainGlobals
 blt:X.env.builtins=builtinsNs
 above:X.s₀.heap.objs.size<=X.env.locals
 inj:∀x y c,X.env.cells.lookup x=some c->X.env.cells.lookup y=some c->x=y
 has:∀x,(X.env.kindOf x=some .cell\/X.env.kindOf x=some .free)->∃c,X.env.cells.lookup x=some c
 cab:∀x c,X.fn x=true->X.env.cells.lookup x=some c->X.s₀.heap.objs.size<=c
 hd:X.calm=true->X.A.handled=none
 frames:X.A.frames=some X.stack
 stk:X.stack=X.outer\/(X.stack=X.env::X.outer/\X.env.frame=some X.env.locals)
 exf:∀b∈X.ex,b≠X.env.locals/\∀x c,X.env.cells.lookup x=some c->c≠b
 bs:∀b o,X.base.get? b=some o->X.s₀.heap.get? b=some o/\X.H₀ b=none
 bsz:X.base.objs.size<=X.s₀.heap.objs.size
 noex:∀b o,X.base.get? b=some o->b∉X.ex
 exfs:∀b∈X.ex,b∉X.fs
 funs:X.s₀.heap.FunFrames X.base X.outer
 frf:∀b∈X.fs,X.H₀ b=none
structure ae (X:Cx) (pins:List (Addr × Obj)) (σ:List (Option V)) (H:Hp) (s:Shared):Prop where
 ok:X.Ok
 os:s.os=X.s₀.os
 bare:AllBare s.gens
 base:Un X.fs X.ex X.H₀ H X.s₀.heap s.heap
 loc:∃m,s.heap.Ns X.env.locals m/\∀(i:Nat) (x:Str) (v:V),X.N[i]? = some x->σ[i]? = some (some v)->jy X.env.scope x->∃u,ax v u/\Nn X.env s.heap m x u
 cell:∀x c,X.env.cells.lookup x=some c->∃v,s.heap.IsCell c v
 free:H X.env.locals=none
 freeC:∀x c,X.env.cells.lookup x=some c->H c=none
 pin:∀p∈X.pn++pins,s.heap.get? p.1=some p.2/\H p.1=none/\p.1≠X.env.locals/\p.1∉X.fs/\∀v,p.2.data ≠ .cell v
 hok:bn X.prog X.w H s.heap
 len:σ.length=X.N.length
section
variable {X:Cx}{pins:List (Addr × Obj)}{σ:List (Option V)}{H H':Hp}{s:Shared}{h':Heap}
def Cx.Ok.nofr(ok:X.Ok){b:Addr}{o:Obj}(e:X.base.get? b=some o):b∉X.fs:=λa=>by
 have:=(ok.funs.mem a).1;rw[e]at this;cases this
def ae.bs(I:ae X pins σ H s):∀b o,X.base.get? b=some o->s.heap.get? b=some o/\H b=none:=λb o e =>
 ⟨I.base.keep b o (I.ok.bs b o e).1 (I.ok.bs b o e).2 (I.ok.nofr e) (I.ok.noex b o e),I.base.free b o (I.ok.bs b o e).1 (I.ok.bs b o e).2 (I.ok.noex b o e)⟩
def ae.bk(I:ae X pins σ H s):∀b o,X.base.get? b=some o->s.heap.get? b=some o:=λb o e=>(I.bs b o e).1
def ae.mod(I:ae X pins σ H s):Mod X.K X.mg X.base:=I.ok.mod
def ae.kIn(I:ae X pins σ H s):X.K.In s.heap:=I.ok.mod.kin.keeps I.bk
def ae.lt(I:ae X pins σ H s):X.env.locals<s.heap.objs.size:=let ⟨_,hn,_⟩:=I.loc;hn.lt
def ae.sz(I:ae X pins σ H s):X.s₀.heap.objs.size<=s.heap.objs.size:=OJ I.ok.above (Qf I.lt)
def ae.nofs(I:ae X pins σ H s){a:Addr}(h:s.heap.objs.size<=a):a∉X.fs:=λb=>by
 obtain⟨_,o,c,_⟩:=I.ok.funs.mem b;exact Sd (OH (Oy c) (OJ I.sz h)) (O5 _)
def ae.cne(I:ae X pins σ H s):∀x c,X.env.cells.lookup x=some c->c≠X.env.locals:=λx c e z=>by
 obtain⟨v,o,d,hd⟩:=I.cell x c e;obtain⟨m,⟨f,es,ep,b,a,_⟩,_⟩:=I.loc;rw[z,b]at d;cases d;rw[a]at hd;cases hd
def ae.funs(I:ae X pins σ H s):s.heap.FunFrames X.base X.outer:=by
 have all:∀(l:List Env),(∀b∈dg l,b∈X.fs)->X.s₀.heap.FunFrames X.base l->s.heap.FunFrames X.base l:=by
  intro l
  induction l with
  | nil=>intro _ _;trivial
  | cons env r ih =>
   intro d i;obtain⟨h,⟨L,o,c,g,f,hd⟩,j⟩:=i;have hL:L∈X.fs:=d L (by unfold dg;rw[QR,c];exact OP);obtain⟨k,e⟩:=I.base.slot L o f (I.ok.frf L hL) hL λz=>I.ok.exfs L z hL;exact⟨h,⟨L,_,c,g,e,hd⟩,ih (λb a=>d b (by unfold dg;rw[QR,c];exact OQ _ a)) j⟩
 exact all X.outer (λ_ a=>a) I.ok.funs
def ae.stack(I:ae X pins σ H s):s.heap.FunFrames X.base X.stack:=by
 rcases I.ok.stk with e|⟨e,hf⟩
 ·rw[e];exact I.funs
 ·rw[e];obtain⟨m,a,_⟩:=I.loc;refine .cons (by rw[I.ok.kind];decide) hf a ?_ I.funs;exact Rs (OJ I.ok.bsz I.ok.above)
def ae.stkSub(I:ae X pins σ H s):∀b∈dg X.stack,b∈X.env.locals::X.fs:=λb a=>by
 rcases I.ok.stk with e|⟨e,hf⟩
 ·rw[e]at a;exact OQ _ a
 ·rw[e]at a;unfold dg at a;rw[QR,hf]at a;exact a
def ae.stkFree(I:ae X pins σ H s):∀b∈dg X.stack,H b=none:=λb a=>by
 rcases OT.mp (I.stkSub b a) with e|a
 ·rw[e];exact I.free
 ·obtain⟨_,o,c,_⟩:=I.ok.funs.mem a;exact I.base.free b o c (I.ok.frf b a) λz=>I.ok.exfs b z a
def ae.step{g':Array GenState}{t':Nat}{d':Drawn}{ch:List Addr}(I:ae X pins σ H s)
 (f:∀b∈ch,(b∈X.ex\/X.s₀.heap.objs.size<=b)/\b≠X.env.locals/\(∀x c,X.env.cells.lookup x=some c->c≠b)/\∀p∈X.pn++pins,p.1≠b)
 (keep:∀b o,b≠X.env.locals->b∉X.fs->b∉ch->s.heap.get? b=some o->H b=none->h'.get? b=some o)
 (slot:∀b o,b≠X.env.locals->b∈X.fs->b∉ch->s.heap.get? b=some o->H b=none->∃C,h'.get? b=some { o with slots:=C }) (free:∀b o,b∉ch->s.heap.get? b=some o->H b=none->H' b=none)
 (there:∀b o,b∉ch->s.heap.get? b=some o->∃B,h'.get? b=some B)
 (tups:∀b xs,H b=some (.tup xs)->H' b=some (.tup xs)) (frzs:∀b o u,H b=some (.frz o u)->H' b=some (.frz o u)) (tbls:∀b ps,H b=some (.tbl ps)->∃more,H' b=some (.tbl (ps++more)))
 (ns:∀m,s.heap.Ns X.env.locals m->h'.Ns X.env.locals m) (hok:bn X.prog X.w H' h') (J:AllBare g') :
 ae X pins σ H' { s with heap:=h',gens:=g',drawn:=d',toks:=t' }:=by
 have neL:∀b o,X.s₀.heap.get? b=some o->b≠X.env.locals:=λb o e=>OC (OH (Oy e) I.ok.above);have neC:∀b o,X.s₀.heap.get? b=some o->b∉X.ex->b∉ch:=λb o e hx h=>by
  rcases (f b h).1 with z|z
  ·exact hx z
  ·exact Sd (OH (Oy e) z) (O5 _)
 have cellK:∀x c,X.env.cells.lookup x=some c->∀v,s.heap.IsCell c v->h'.IsCell c v:=λx c e v ⟨o,j,hd⟩=>by
  have a:c∉ch:=λz=>(f c z).2.2.1 x c e rfl;by_cases hc:c∈X.fs
  ·obtain⟨C,q⟩:=slot c o (I.cne x c e) hc a j (I.freeC x c e);exact⟨_,q,hd⟩
  ·exact⟨o,keep c o (I.cne x c e) hc a j (I.freeC x c e),hd⟩
 refine⟨I.ok,I.os,J,⟨λb o e n h hx=>?_,λb o e n h hx=>?_,λb o e n hx=>?_,λb o e hx=>?_,λb xs e=>tups b xs (I.base.tups b xs e),λb o xs e=>frzs b o xs (I.base.frzs b o xs e),λb ps e=>?_⟩,?_,λx c e=>?_,?_,λx c e=>?_,λp G=>?_,hok,I.len⟩
 ·exact keep b o (neL b o e) h (neC b o e hx) (I.base.keep b o e n h hx) (I.base.free b o e n hx)
 ·obtain⟨C,g⟩:=I.base.slot b o e n h hx;obtain⟨D,y⟩:=slot b _ (neL b o e) h (neC b o e hx) g (I.base.free b o e n hx);exact⟨D,y⟩
 ·obtain⟨B,g⟩:=I.base.there b o e hx;exact free b B (neC b o e hx) g (I.base.free b o e n hx)
 ·obtain⟨B,g⟩:=I.base.there b o e hx;exact there b B (neC b o e hx) g
 ·obtain⟨M,g⟩:=I.base.tbls b ps e;obtain⟨N,y⟩:=tbls b _ g;exact⟨M++N,by rw[y,Array.append_assoc]⟩
 ·obtain⟨m,L,R⟩:=I.loc;refine⟨m,ns m L,λi x v g y O=>?_⟩;obtain⟨u,r,l⟩:=R i x v g y O;refine⟨u,r,?_⟩;rcases l with l|⟨k,c,e,z⟩
  ·exact .inl l
  ·exact .inr ⟨k,c,e,cellK x c e _ z⟩
 ·obtain⟨v,z⟩:=I.cell x c e;exact⟨v,cellK x c e v z⟩
 ·obtain⟨m,⟨o,_,_,j,_⟩,_⟩:=I.loc;exact free _ o (λz=>(f _ z).2.1 Z) j I.free
 ·obtain⟨v,o,j,hd⟩:=I.cell x c e;exact free c o (λz=>(f c z).2.2.1 x c e Z) j (I.freeC x c e)
 ·obtain⟨e,n,ne,F,d⟩:=I.pin p G;have a:p.1∉ch:=λz=>(f p.1 z).2.2.2 p G rfl;exact⟨keep p.1 p.2 ne F a e n,free p.1 p.2 a e n,ne,F,d⟩
def ae.un{t':Nat}(I:ae X pins σ H s)(u:Un X.fs [] H H' s.heap h')(hok:bn X.prog X.w H' h'):ae X pins σ H' { s with heap:=h',toks:=t' }:=by
 obtain⟨m,⟨o,es,ep,g,r⟩,_⟩:=id I.loc;obtain⟨j,hL⟩:=u.any g I.free (by simp);exact I.step (g':=s.gens) (d':=s.drawn) (ch:=[]) (λ_ z=>nomatch z) (λb o _ f _ e n=>u.keep b o e n f (by simp)) (λb o _ f _ e n=>u.slot b o e n f (by simp)) (λb o _ e n=>u.free b o e n (by simp)) (λb o _ e=>u.there b o e (by simp)) u.tups u.frzs u.tbls (λk i=>by
  obtain⟨l,d,c,a,h⟩:=i;rw[g]at a;cases a;exact⟨_,d,c,hL,h⟩) hok I.bare
def ae.call{g':Array GenState}{t':Nat}{d':Drawn}{ch:List Addr}(I:ae X pins σ H s)(u:Un (dg X.stack) ch H H' s.heap h')(hok:bn X.prog X.w H' h')(j:AllBare g')
 (f:∀b∈ch,(b∈X.ex\/X.s₀.heap.objs.size<=b)/\b≠X.env.locals/\(∀x c,X.env.cells.lookup x=some c->c≠b)/\∀p∈X.pn++pins,p.1≠b) :
 ae X pins σ H' { s with heap:=h',gens:=g',drawn:=d',toks:=t' }:=by
 obtain⟨m,⟨o,es,ep,i,r⟩,_⟩:=id I.loc;obtain⟨v,hL⟩:=u.any i I.free λz=>(f _ z).2.1 rfl;exact I.step (ch:=ch) f (λb o hL q a e n=>u.keep b o e n (λz=>(OT.mp (I.stkSub b z)).elim hL q) a) (λb o _ _ a e n=>u.any e n a) (λb o a e n=>u.free b o e n a) (λb o a e=>u.there b o e a) u.tups u.frzs u.tbls (λy l=>by
  obtain⟨B,h,g,d,k⟩:=l;rw[i]at d;cases d;exact⟨_,h,g,hL,k⟩) hok j
def ae.turned{t':Nat}{it:Addr}(I:ae X pins σ H s)(k:∀b o,b≠it->s.heap.get? b=some o->h'.get? b=some o)(h:H it=none)(hL:it≠X.env.locals)
 (j:it∈X.ex\/X.s₀.heap.objs.size<=it) (i:∀x c,X.env.cells.lookup x=some c->c≠it) (g:∀p∈X.pn++pins,p.1≠it):ae X pins σ H { s with heap:=h',toks:=t' }:=by
 have d:∀b u,H b=some u->b≠it:=λb u e z=>by rw[z,h]at e;cases e
 refine I.step (g':=s.gens) (d':=s.drawn) (ch:=[it]) (λb y=>?_) (λb o _ _ a e _=>k b o (λz=>a (by simp[z])) e) (λb o _ _ a e _=>⟨o.slots,k b o (λz=>a (by simp[z])) e⟩) (λ_ _ _ _ n=>n)
  (λb o a e=>⟨o,k b o (λz=>a (by simp[z])) e⟩) (λ_ _ e=>e) (λ_ _ _ e=>e) (λb ps e=>⟨#[],by rw[e];simp⟩) (λm l=>?_) (λb u e=>?_) I.bare
 ·have e:b=it:=by simpa using y
  subst e;exact⟨j,hL,i,g⟩
 ·obtain⟨o,es,ep,f,r⟩:=l;exact⟨o,es,ep,k _ o (Ne.symm hL) f,r⟩
 ·refine (I.hok b u e).stay (λc v a q=>k c v ?_ q) (λ_ q=>q) λ_ _ q=>q;rcases a with z|z
  ·rw[z];exact d b u e
  ·exact d c _ z
def ae.tok(I:ae X pins σ H s)(t:Nat):ae X pins σ H { s with toks:=t }:=I.un (h':=s.heap) (t':=t) Un.refl I.hok
def ae.kept{t':Nat}(I:ae X pins σ H s)(k:∀b u,s.heap.get? b=some u->h'.get? b=some u):ae X pins σ H { s with heap:=h',toks:=t' }:=I.un (Un.kept k) (I.hok.kept k)
def ae.laid{a:Addr}{o:HO}{t':Nat}(I:ae X pins σ H s)(k:∀b u,s.heap.get? b=some u->h'.get? b=some u)(c:s.heap.objs.size<=a)(new:bd X.prog X.w (upd H a o) h' a o) :
 ae X pins σ (upd H a o) { s with heap:=h',toks:=t' }:=I.un (Un.laid k c (I.hok.fresh c)) (I.hok.laid k c new)
def ae.write{x e:Addr}{o:HO}{t':Nat}(I:ae X pins σ H s)(d:nK (H x))(c:e=x\/H e=some (.own x))(k:∀b u,b≠e->s.heap.get? b=some u->h'.get? b=some u)(a:∃u,h'.get? e=some u)
 (new:bd X.prog X.w (upd H x o) h' x o):ae X pins σ (upd H x o) { s with heap:=h',toks:=t' }:=I.un (Un.write d c k a) (I.hok.write d c k a new)
def ae.pins_of{a:List (Addr × Obj)}(I:ae X pins σ H s)(h:∀p∈a,s.heap.get? p.1=some p.2/\H p.1=none/\p.1≠X.env.locals/\p.1∉X.fs/\∀v,p.2.data ≠ .cell v):ae X a σ H s :=
 ⟨I.ok,I.os,I.bare,I.base,I.loc,I.cell,I.free,I.freeC,λp b=>(Os.mp b).elim (λz=>I.pin p (OZ _ z)) (h p),I.hok,I.len⟩
def yE{N:List Str}(hN:N.Nodup){i j:Nat}{x:Str}(a:N[i]? = some x)(b:N[j]? = some x):i=j:=by
 obtain⟨f,c⟩:=Ou.mp a;obtain⟨e,d⟩:=Ou.mp b;exact (List.getElem_inj hN).mp (c.trans d.symm)
def xk{M:Model}{A:Around}{E:Value->Shared->Prop}{i:Nat}{x:Str}{v:V}{u:Value}{Q:Unit->Shared->Prop}(I:ae X pins σ H s)(hN:X.N.Nodup)(U:X.N[i]? = some x)(hx:gM X.env.scope x)(r:ax v u)
 (h:∀s',ae X pins (σ.set i (some v)) H s'->(∃a,Heap.SameBut a s.heap s'.heap/\(a=X.env.locals\/X.env.cells.lookup x=some a))->Q () s') (hf:X.fn x=true\/X.env.scope.names.lookup x=some .local:=by first|exact .inl rfl|exact .inr rfl|assumption):wpAny M A (storeName X.env x u) Q E s:=by
 obtain⟨m,hn,hl⟩:=id I.loc;have O:(X.env.scope.kind == .class || (X.env.scope.kind == .module && X.env.locals != X.env.globals))=false:=by rw[I.ok.kind];rfl
 have J:i<σ.length:=by rw[I.len];exact (Ou.mp U).1
 have cne:=I.cne;have l:∀ {a:Addr} {h':Heap},(∃o,s.heap.get? a=some o/\H a=none)->Heap.SameBut a s.heap h'->bn X.prog X.w H h':=λ{a h'} ha f b ob e=>by
  obtain⟨_,_,C⟩:=ha;refine (I.hok b ob e).stay (λc Y B q=>(f.2 c ?_).trans q) (λ_ q=>q) λ_ _ q=>q;rintro rfl;rcases B with rfl|B
  ·rw[C]at e;cases e
  ·rw[C]at B;cases B
 rcases hx with hk|hk
 ·refine wpAny_storeName_local hk hn (λh' a7 f=>?_) O;obtain⟨oL,_,_,hoL,_⟩:=id hn;refine h _ ⟨I.ok,I.os,I.bare,⟨λb o e n G hx=>?_,λb o e n G hx=>?_,I.base.free,λb o e hx=>?_,I.base.tups,I.base.frzs,I.base.tbls⟩,⟨_,a7,λj y v' g D e3=>?_⟩,λy c e=>?_,I.free,I.freeC,λp hp=>?_,l ⟨oL,hoL,I.free⟩ f,by simpa using I.len⟩ ⟨_,f,.inl rfl⟩
  ·exact (f.2 b (OC (OH (Oy e) I.ok.above))).trans (I.base.keep b o e n G hx)
  ·obtain⟨sl,g⟩:=I.base.slot b o e n G hx;exact⟨sl,(f.2 b (OC (OH (Oy e) I.ok.above))).trans g⟩
  ·obtain⟨o',g⟩:=I.base.there b o e hx;exact⟨o',(f.2 b (OC (OH (Oy e) I.ok.above))).trans g⟩
  ·by_cases hj:j=i
   ·subst hj;rw[U]at g;cases g;rw[Rt J]at D;cases D;exact⟨u,r,.inl ⟨hk,by simp⟩⟩
   ·rw[Ru (Ne.symm hj)]at D;obtain⟨u',r',q⟩:=hl j y v' g D e3;refine⟨u',r',?_⟩;rcases q with ⟨k,e⟩|⟨k,c,e,z⟩
    ·refine .inl ⟨k,?_⟩;have:y≠x:=λe=>hj (yE hN g (e ▸ U));simp[this,e]
    ·exact .inr ⟨k,c,e,z.sameBut f (cne y c e)⟩
  ·obtain⟨Y,z⟩:=I.cell y c e;exact⟨Y,z.sameBut f (cne y c e)⟩
  ·obtain⟨e,n,ne,nf,d⟩:=I.pin p hp;exact⟨(f.2 p.1 ne).trans e,n,ne,nf,d⟩
 ·have F:X.fn x=true:=by
   rcases hf with z|z
   ·exact z
   ·rw[z]at hk;cases hk
  obtain⟨c,B⟩:=I.ok.has x (.inl hk);obtain⟨Y,z⟩:=I.cell x c B;refine wpAny_storeName_cell I.ok.kind hk B z (λh' L f=>?_);obtain⟨oc,S,R⟩:=id z;refine h { s with heap:=h' } ⟨I.ok,I.os,I.bare,⟨λb o e n G hx=>?_,λb o e n G hx=>?_,I.base.free,λb o e hx=>?_,I.base.tups,I.base.frzs,I.base.tbls⟩,⟨m,hn.sameBut f (Ne.symm (cne x c B)),λj y v' g D e3=>?_⟩,λy W e=>?_,I.free,I.freeC,λp hp=>?_,l ⟨oc,S,I.freeC x c B⟩ f,by simpa using I.len⟩ ⟨c,f,.inr B⟩
  ·exact (f.2 b (OC (OH (Oy e) (I.ok.cab x c F B)))).trans (I.base.keep b o e n G hx)
  ·obtain⟨sl,g⟩:=I.base.slot b o e n G hx;exact⟨sl,(f.2 b (OC (OH (Oy e) (I.ok.cab x c F B)))).trans g⟩
  ·obtain⟨o',g⟩:=I.base.there b o e hx;exact⟨o',(f.2 b (OC (OH (Oy e) (I.ok.cab x c F B)))).trans g⟩
  ·by_cases hj:j=i
   ·subst hj;rw[U]at g;cases g;rw[Rt J]at D;cases D;exact⟨u,r,.inr ⟨.inl hk,c,B,L⟩⟩
   ·rw[Ru (Ne.symm hj)]at D;obtain⟨u',r',q⟩:=hl j y v' g D e3;refine⟨u',r',?_⟩;rcases q with q|⟨k,W,e,z'⟩
    ·exact .inl q
    ·refine .inr ⟨k,W,e,z'.sameBut f ?_⟩;rintro rfl;exact hj (yE hN g (I.ok.inj _ _ _ e B ▸ U))
  ·by_cases hcc:W=c
   ·subst hcc;exact⟨_,L⟩
   ·obtain⟨w2,z2⟩:=I.cell y W e;exact⟨w2,z2.sameBut f hcc⟩
  ·obtain⟨e,n,ne,nf,d⟩:=I.pin p hp;refine⟨(f.2 p.1 ?_).trans e,n,ne,nf,d⟩;intro q;rw[q,S]at e;have q':oc=p.2:=OI e;exact d Y (by rw[<- q'];exact R)
def qR{M:Model}{A:Around}{E:Value->Shared->Prop}{i:Nat}{x:Str}{v:V}{u:Value}{Q:Unit->Shared->Prop}(I:ae X pins σ H s)(hN:X.N.Nodup)(c:X.N[i]? = some x)(hx:gM X.env.scope x)(r:ax v u)
 (h:∀a,ae X pins (σ.set i (some v)) H a->Q () a) (d:X.fn x=true\/X.env.scope.names.lookup x=some .local:=by first|exact .inl rfl|exact .inr rfl|assumption):wpAny M A (storeName X.env x u) Q E s :=
 xk I hN c hx r (λa b _=>h a b) d
def ae.call'{a:Shared}{ch:List Addr}(I:ae X pins σ H s)(f:a.os=s.os)(u:Un (dg X.stack) ch H H' s.heap a.heap)(hok:bn X.prog X.w H' a.heap)(g:AllBare a.gens)
 (d:∀b∈ch,(b∈X.ex\/X.s₀.heap.objs.size<=b)/\b≠X.env.locals/\(∀x c,X.env.cells.lookup x=some c->c≠b)/\∀p∈X.pn++pins,p.1≠b):ae X pins σ H' a:=by
 obtain⟨h',g',d',t',h⟩:=a;have e:h=s.os:=f;subst e;exact I.call (g':=g') (t':=t') (d':=d') u hok g d
end
abbrev XK:=Value->Option Addr->Hp->Prop
abbrev St:=List (Option V)
abbrev VK:=V->Hp->Prop
abbrev TE:=St->Hp->VK->Prop
abbrev TT:=St->Hp->(Bool->Hp->Prop)->Prop
abbrev TA:=St->Hp->(List V->Hp->Prop)->Prop
structure dG where
 nx:St->Hp->Prop
 rt:VK
 bk:St->Hp->Prop:=λ_ _=>False
 ct:St->Hp->Prop:=λ_ _=>False
abbrev TS:=dG->St->Hp->Prop
def EP(X:Cx)(a:List (Addr × Obj))(σ:St)(Q:VK)(u:Value)(b:Shared):Prop:=∃v H',ae X a σ H' b/\ax v u/\Q v H'
def TP(X:Cx)(a:List (Addr × Obj))(σ:St)(Q:Bool->Hp->Prop)(b:Bool)(c:Shared):Prop:=∃H',ae X a σ H' c/\Q b H'
def AP(X:Cx)(a:List (Addr × Obj))(σ:St)(Q:List V->Hp->Prop)(us:List Value)(b:Shared):Prop:=∃vs H',ae X a σ H' b/\ay vs us/\Q vs H'
def SP(X:Cx)(a:List (Addr × Obj))(D:dG)(f:Flow)(b:Shared):Prop :=
 match f with
 | .next=>∃σ' H',ae X a σ' H' b/\D.nx σ' H'
 | .brk=>∃σ' H',ae X a σ' H' b/\D.bk σ' H'
 | .cont=>∃σ' H',ae X a σ' H' b/\D.ct σ' H'
 | .ret u=>∃v σ' H',ae X a σ' H' b/\ax v u/\D.rt v H'
def PE(X:Cx)(e:Expr)(t:TE):Prop :=
 ∀(a:List (Addr × Obj)) (s:Shared) (σ:St) (H:Hp) (Q:VK),ae X a σ H s->t σ H Q->wpAny (model X.prog X.w) X.A (eval e X.env) (EP X a σ Q) X.xe s
def PT(X:Cx)(e:Expr)(t:TT):Prop :=
 ∀(a:List (Addr × Obj)) (s:Shared) (σ:St) (H:Hp) (Q:Bool->Hp->Prop),ae X a σ H s->t σ H Q->wpAny (model X.prog X.w) X.A (isTrue e X.env (eval e X.env)) (TP X a σ Q) X.xe s
def PW(X:Cx)(e:Expr)(t:TT):Prop :=
 ∀(b:Sem Value) (a:List (Addr × Obj)) (s:Shared) (σ:St) (H:Hp) (Q:Bool->Hp->Prop),ae X a σ H s->t σ H Q->wpAny (model X.prog X.w) X.A (isTrue e X.env b) (TP X a σ Q) X.xe s
def PW.pt{X:Cx}{e:Expr}{t:TT}(h:PW X e t):PT X e t:=h _
def PA(X:Cx)(es:List Expr)(t:TA):Prop :=
 ∀(pos:Pos) (a:List (Addr × Obj)) (s:Shared) (σ:St) (H:Hp) (Q:List V->Hp->Prop),ae X a σ H s->t σ H Q->wpAny (model X.prog X.w) X.A (spliced (backTo pos (starEach es X.env))) (AP X a σ Q) X.xe s
def PS(X:Cx)(st:Stmt)(t:TS):Prop :=
 ∀(a:List (Addr × Obj)) (s:Shared) (σ:St) (H:Hp) (D:dG),ae X a σ H s->t D σ H->wpAny (model X.prog X.w) X.A (exec st X.env) (SP X a D) X.xe s
def eN(X:Cx)(st:List Stmt)(t:TS):Prop :=
 ∀(a:List (Addr × Obj)) (s:Shared) (σ:St) (H:Hp) (D:dG),ae X a σ H s->t D σ H->wpAny (model X.prog X.w) X.A (execs st X.env) (SP X a D) X.xe s
def ap{α:Type}{t:Sem α}{Q b:α->Shared->Prop}{M:Model}{A:Around}{E:Value->Shared->Prop}{s:Shared}(h:wpAny M A t Q E s)(hQ:∀a s,Q a s->b a s):wpAny M A t b E s:=wpAny_mono h hQ λ_ _ x=>x
section
variable {X:Cx}
def Cf(i:Nat):TE:=λσ H Q=>∃v,σ[i]? = some (some v)/\Q v H
def tC(v:V):TE:=λ_ H Q=>Q v H
def FE {i:Nat} {x:Str} {pos:Pos} (hN:X.N[i]? = some x) (g:jy X.env.scope x) (hd:(x == ("__debug__" : Str))=false:=by decide) (d:(x == ("__classdict__" : Str))=false:=by decide):PE X (.Name x pos) (Cf i):=by
 intro b s σ H Q I h;obtain⟨v,e,h⟩:=h;obtain⟨m,f,j⟩:=I.loc;obtain⟨u,r,l⟩:=j i x v hN e g;have a:EP X b σ Q u s:=⟨v,H,I,r,h⟩;rcases l with ⟨hk,hm⟩|⟨hk,c,hc,hcell⟩
 ·exact wpAny_Name (wpAny_loadName_local I.ok.kind hk f hm a) hd
 ·rcases hk with hk|hk
  ·exact wpAny_Name (wpAny_loadName_cell I.ok.kind hk hc hcell a) hd
  ·exact wpAny_Name (wpAny_loadName_free I.ok.kind hk hc hcell a d) hd
def oM{i j pos}:PE X (.Constant (.int i) j pos) (tC (.int i)):=λ_ _ _ H _ I h=>wpAny_Constant_int ⟨.int i,H,I.tok _,⟨_,rfl⟩,h⟩
def yq{b j pos}:PE X (.Constant (.bool b) j pos) (tC (.bl b)):=λ_ _ _ H _ I h=>Constant_bool ⟨.bl b,H,I,rfl,h⟩
def yn{j pos}:PE X (.Constant .none j pos) (tC .non):=λ_ _ _ H _ I h=>Constant_none ⟨.non,H,I,rfl,h⟩
def yj{x j pos}:PE X (.Constant (.str x) j pos) (tC (.str x)):=λ_ _ _ H _ I h=>Calls.Constant_str ⟨.str x,H,I.tok _,⟨_,rfl⟩,h⟩
def Gl(X:Cx)(x:Str):Prop:=X.env.kindOf x=some .globalImplicit
def o6{E:Value->Shared->Prop}{a:List (Addr × Obj)}{s:Shared}{σ:St}{H:Hp}{x:Str}{u:Value}{pos:Pos}{Q:Value->Shared->Prop}(I:ae X a σ H s)(c:Gl X x)(b:X.mg x=some u)(h:Q u s)
 (hd:(x == ("__debug__" : Str))=false:=by decide):wpAny (model X.prog X.w) X.A (eval (.Name x pos) X.env) Q E s :=
 Calls.Name_function_global I.ok.kind c (Calls.loadGlobal_global (by rw[I.ok.glob];exact I.mod.glob.keeps I.bk) b h) hd
def hJ{E:Value->Shared->Prop}{a:List (Addr × Obj)}{s:Shared}{σ:St}{H:Hp}{x:Str}{u:Value}{pos:Pos}{Q:Value->Shared->Prop}(I:ae X a σ H s)(b:Gl X x)(g:X.mg x=none)(e:bootBuiltins x=some u)(h:Q u s)
 (c:x ≠ "__name__":=by decide) (hd:(x == ("__debug__" : Str))=false:=by decide):wpAny (model X.prog X.w) X.A (eval (.Name x pos) X.env) Q E s:=by
 obtain⟨i,f,d⟩:=I.mod.blt;exact Calls.Name_function_global I.ok.kind b (Calls.loadGlobal_builtin (by rw[I.ok.glob];exact I.mod.glob.keeps I.bk) g (by rw[I.ok.blt];exact f.keeps I.bk) ((d x c).trans e) h) hd
def yp {x:Str} {v:V} {u:Value} {pos:Pos} (b:Gl X x) (a:X.mg x=some u) (r:ax v u) (hd:(x == ("__debug__" : Str))=false:=by decide):PE X (.Name x pos) (tC v) :=
 λ_ _ _ H _ I h=>o6 I b a ⟨v,H,I,r,h⟩ hd
def Gb {x:Str} {v:V} {u:Value} {pos:Pos} (d:Gl X x) (a:X.mg x=none) (c:bootBuiltins x=some u) (r:ax v u) (b:x ≠ "__name__":=by decide) (hd:(x == ("__debug__" : Str))=false:=by decide):PE X (.Name x pos) (tC v) :=
 λ_ _ _ H _ I h=>hJ I d a c ⟨v,H,I,r,h⟩ b hd
variable {a b:Expr}{ta tb:TE}{pos:Pos}
variable {tA tB':TT}{rest:List Expr}
def xj(t u:TT):TT:=λσ H Q=>t σ H λc a=>if c=true then u σ a Q else Q false a
def wV(t u:TT):TT:=λσ H Q=>t σ H λc a=>if c=true then Q true a else u σ a Q
def wW(t:TT):TT:=λσ H Q=>t σ H λc a=>Q (!c) a
def EK(d:PT X a tA):PW X (.BoolOp .And [a] pos) tA:=by
 intro f b s σ H Q I h;refine isTrue_and (ap (d b s σ H Q I h) λc s1 e=>?_);cases c with
 | true=>exact isTrue_and_nil e
 | false=>exact e
def EI(d:PT X a tA):PW X (.BoolOp .Or [a] pos) tA:=by
 intro f b s σ H Q I h;refine isTrue_or (ap (d b s σ H Q I h) λc s1 e=>?_);cases c with
 | false=>exact isTrue_or_nil e
 | true=>exact e
def EL(j:PT X a tA)(k:PW X (.BoolOp .And (b::rest) pos) tB'):PW X (.BoolOp .And (a::b::rest) pos) (xj tA tB'):=by
 intro i d s σ H Q I h;refine isTrue_and (ap (j d s σ H _ I h) λc s1 ⟨g,e,f⟩=>?_);cases c with
 | true=>exact k i d s1 σ g Q e f
 | false=>exact⟨g,e,f⟩
def EJ(j:PT X a tA)(k:PW X (.BoolOp .Or (b::rest) pos) tB'):PW X (.BoolOp .Or (a::b::rest) pos) (wV tA tB'):=by
 intro i d s σ H Q I h;refine isTrue_or (ap (j d s σ H _ I h) λc s1 ⟨g,e,f⟩=>?_);cases c with
 | true=>exact⟨g,e,f⟩
 | false=>exact k i d s1 σ g Q e f
def E1(e:PT X a tA):PT X (.UnaryOp .Not a pos) (wW tA):=by
 intro b s σ H Q I h;exact isTrue_not (e b s σ H (λc d=>Q (!c) d) I h)
def FJ{op}{t:TE}(h:PE X a t):PE X (.BoolOp op [a] pos) t:=λb s σ H Q I hw=>BoolOp_one (h b s σ H Q I hw)
def w6(t:TT)(b tb:TE):TE:=λσ H Q=>t σ H λc a=>if c=true then b σ a Q else tb σ a Q
def FN{c:Expr}(j:PT X c tA)(k:PE X a ta)(l:PE X b tb):PE X (.IfExp c a b pos) (w6 tA ta tb):=by
 intro e s σ H Q I h;refine wpAny_IfExp (ap (j e s σ H _ I h) λd s1 ⟨i,f,g⟩=>?_);cases d with
 | true=>exact k e s1 σ i Q f g
 | false=>exact l e s1 σ i Q f g
end
def aJ(K:W.Frag)(H:Hp)(a:Addr)(xs:List V):Prop :=
 Rd H a (.lst xs) \/
  ∃(o:Obj) (b:Array Value) (n:Nat),K.lookup a=some o/\o.cls=.type "list"/\o.dict=none/\o.data=.seq b n/\b.size<=sizeLine/\ay xs b.toList
def bJ(K:W.Frag)(H:Hp)(a:Addr)(xs:List V):Prop :=
 Rd H a (.tup xs) \/
  ∃(o:Obj) (b:Array Value) (n:Nat),K.lookup a=some o/\o.cls=.type "tuple"/\o.data=.seq b n/\b.size<=sizeLine/\ay xs b.toList
def Nd:Value->Option V
 | .none=>some .non
 | .bool b=>some (.bl b)
 | .int i _=>some (.int i)
 | .str x _=>some (.str x)
 | .bytes b _=>some (.byt b)
 | .float b _=>some (.flt b)
 | .ref a=>some (.ref a)
 | .type n=>some (.ty n)
 | _=>none
def ax.abs{x:V}{u:Value}(r:ax x u):Nd u=some x:=by
 cases x with
 | non=>cases r;rfl
 | bl _=>cases r;rfl
 | int _=>obtain⟨t,rfl⟩:=r;rfl
 | str _=>obtain⟨t,rfl⟩:=r;rfl
 | byt _=>obtain⟨t,rfl⟩:=r;rfl
 | flt _=>obtain⟨t,rfl⟩:=r;rfl
 | ref _=>cases r;rfl
 | ty _=>cases r;rfl
def ax.inj{x y:V}{u:Value}(r:ax x u)(q:ax y u):x=y:=OI (r.abs.symm.trans q.abs)
theorem ay.inj:∀ {xs a:List V} {us:List Value},ay xs us->ay a us->xs=a
 | _,_,_,.nil,.nil=>rfl
 | _,_,_,.cons r t,.cons r' t'=>by rw[r.inj r',ay.inj t t']
section
variable {X:Cx}{pins:List (Addr × Obj)}{σ:St}{H:Hp}{s:Shared}{a:Addr}{xs ys:List V}
def aJ.of{K:W.Frag}(h:H a=some (.lst xs)):aJ K H a xs:=.inl (.inl h)
def bJ.of{K:W.Frag}(h:H a=some (.tup xs)):bJ K H a xs:=.inl (.inl h)
def ae.list(I:ae X pins σ H s)(h:aJ X.K H a xs):∃b:List Value,ay xs b/\PlainL s.heap a b.toArray/\xs.length<=sizeLine:=by
 rcases h with h|⟨o,b,n,hk,hc,hd,hs,hz,r⟩
 ·obtain⟨z,b,n,r,e⟩:=h.ok I.hok;exact⟨b,r,⟨_,n,e,Z,Z,Z⟩,z⟩
 ·refine⟨b.toList,r,⟨o,n,I.kIn a o hk,hc,hd,by simpa using hs⟩,?_⟩;have e:=r.length;simp only [Pz]at e;omega
def ae.tuple(I:ae X pins σ H s)(h:bJ X.K H a xs):∃b:List Value,ay xs b/\IsTup s.heap a b.toArray/\xs.length<=sizeLine:=by
 rcases h with h|⟨o,b,n,hk,hc,hs,hz,r⟩
 ·obtain⟨z,b,r,p⟩:=h.ok I.hok;exact⟨b,r,p,z⟩
 ·refine⟨b.toList,r,⟨o,I.kIn a o hk,hc,n,by simpa using hs⟩,?_⟩;have e:=r.length;simp only [Pz]at e;omega
def ae.list_inj(I:ae X pins σ H s)(h:aJ X.K H a xs)(h':aJ X.K H a ys):xs=ys:=by
 obtain⟨b,r,⟨o,n,e,_,_,d⟩,_⟩:=I.list h;obtain⟨its',f,⟨i,g,c,_,_,d'⟩,_⟩:=I.list h';rw[e]at c;cases c;rw[d]at d'
 injection d' with d1 _
 have:b=its':=by simpa using congrArg Array.toList d1
 subst this;exact r.inj f
def ae.tuple_inj(I:ae X pins σ H s)(h:bJ X.K H a xs)(h':bJ X.K H a ys):xs=ys:=by
 obtain⟨b,r,⟨o,e,_,n,d⟩,_⟩:=I.tuple h;obtain⟨its',f,⟨i,c,_,g,d'⟩,_⟩:=I.tuple h';rw[e]at c;cases c;rw[d]at d'
 injection d' with d1 _
 have:b=its':=by simpa using congrArg Array.toList d1
 subst this;exact r.inj f
end
abbrev Cx.wish(X:Cx)(E:Value->Shared->Prop):Cx:={ X with xe:=E }
abbrev Cx.nox(X:Cx):Cx:=X.wish λ_ _=>False
def Cx.Ok.wish{X:Cx}(ok:X.Ok)(E:Value->Shared->Prop):(X.wish E).Ok :=
 ⟨ok.mod,ok.kind,ok.glob,ok.blt,ok.above,ok.inj,ok.has,ok.cab,ok.hd,ok.frames,ok.stk,ok.exf,ok.bs,ok.bsz,ok.noex,ok.exfs,ok.funs,ok.frf⟩
def Cx.Ok.unwish{X:Cx}{E:Value->Shared->Prop}(ok:(X.wish E).Ok):X.Ok :=
 ⟨ok.mod,ok.kind,ok.glob,ok.blt,ok.above,ok.inj,ok.has,ok.cab,ok.hd,ok.frames,ok.stk,ok.exf,ok.bs,ok.bsz,ok.noex,ok.exfs,ok.funs,ok.frf⟩
section
variable {X:Cx}{pins:List (Addr × Obj)}{σ:St}{H:Hp}{s:Shared}{E:Value->Shared->Prop}
def ae.wish(I:ae X pins σ H s)(E:Value->Shared->Prop):ae (X.wish E) pins σ H s:=⟨I.ok.wish E,I.os,I.bare,I.base,I.loc,I.cell,I.free,I.freeC,I.pin,I.hok,I.len⟩
def ae.unwish(I:ae (X.wish E) pins σ H s):ae X pins σ H s:=⟨I.ok.unwish,I.os,I.bare,I.base,I.loc,I.cell,I.free,I.freeC,I.pin,I.hok,I.len⟩
def SP.unwish{D:dG}{f:Flow}{b:Shared}(h:SP (X.wish E) pins D f b):SP X pins D f b:=by
 cases f with
 | next=>obtain⟨a,H',I,q⟩:=h;exact⟨a,H',I.unwish,q⟩
 | brk=>obtain⟨a,H',I,q⟩:=h;exact⟨a,H',I.unwish,q⟩
 | cont=>obtain⟨a,H',I,q⟩:=h;exact⟨a,H',I.unwish,q⟩
 | ret u=>obtain⟨v,a,H',I,r,q⟩:=h;exact⟨v,a,H',I.unwish,r,q⟩
def eN.nox{st:List Stmt}{t:TS}(h:eN X.nox st t):eN X st t:=λa s σ H D I hw =>
 wpAny_mono (h a s σ H D (I.wish _) hw) (λ_ _ q=>q.unwish) λ_ _ z=>False.elim z
end
section
variable {X:Cx}{st:Stmt}{rest:List Stmt}{t u:TS}{e:Expr}{te:TE}{pos:Pos}
def jM:TS:=λD σ H=>D.nx σ H
def nW(t u:TS):TS:=λD σ H=>t { D with nx:=u D } σ H
def E3:eN X [] jM:=λ_ _ σ H _ I h=>wpAny_execs_nil ⟨σ,H,I,h⟩
def E4(e:PS X st t)(c:eN X rest u):eN X (st::rest) (nW t u):=by
 intro a s σ H D I h;refine wpAny_execs_cons (ap (e a s σ H { D with nx:=u D } I h) λf s1 q=>?_);cases f with
 | next =>
  obtain⟨b,H',d,q⟩:=q;exact c a s1 b H' D d q
 | ret v=>exact q
 | brk=>exact q
 | cont=>exact q
def E2(b:PS X st t):eN X [st] t:=by
 intro a s σ H D I h;refine wpAny_execs_cons (ap (b a s σ H D I h) λf s1 q=>?_);cases f with
 | next=>exact wpAny_execs_nil q
 | ret v=>exact q
 | brk=>exact q
 | cont=>exact q
def ae.quiet{a:List (Addr × Obj)}{σ:St}{H:Hp}{s:Shared}(I:ae X a σ H s):interactive X.env=false:=by simp[interactive,I.ok.kind]
def xb(b:TE):TS:=λD σ H=>b σ H λ_ a=>D.nx σ a
def Fd(c:PE X e te)(d:swapsWith e none pos.line X.env=pure false:=by rfl):PS X (.Expr e pos) (xb te):=by
 intro a s σ H D I h;exact wpAny_Expr_any (ap (c a s σ H _ I h) λv s1 ⟨x,g,b,i,f⟩=>⟨σ,g,b,f⟩) I.quiet d
def wT(a:TE):TS:=λD σ H=>a σ H D.rt
def E8(c:PE X e te):PS X (.Return (some e) pos) (wT te):=by
 intro a s σ H D I h;exact wpAny_Return_some (ap (c a s σ H _ I h) λv s1 ⟨x,g,b,d,f⟩=>⟨x,σ,g,b,d,f⟩)
def iW(c:TT)(t u:TS):TS:=λD σ H=>c σ H λb a=>if b=true then t D σ a else u D σ a
def Fa{c:Expr}{a b:List Stmt}{g:TT}(k:PT X c g)(l:eN X a t)(m:eN X b u):PS X (.If c a b pos) (iW g t u):=by
 intro e s σ H D I h;refine wpAny_If (ap (k e s σ H _ I h) λd s1 ⟨j,f,i⟩=>?_);cases d with
 | true=>exact l e s1 σ j D f i
 | false=>exact m e s1 σ j D f i
def wY:TS:=λ_ _ _=>False
def E9:PS X st wY:=λ_ _ _ _ _ _ h=>h.elim
end
abbrev TG:=V->St->Hp->(St->Hp->Prop)->Prop
abbrev gG:=List V->St->Hp->(St->Hp->Prop)->Prop
def PG(X:Cx)(a:Expr)(t:TG):Prop :=
 ∀(b:List (Addr × Obj)) (s:Shared) (σ:St) (H:Hp) (v:V) (u:Value) (Q:St->Hp->Prop),ae X b σ H s->ax v u->t v σ H Q ->
  wpAny (model X.prog X.w) X.A (assign a X.env u) (λ_ c=>∃σ' H',ae X b σ' H' c/\Q σ' H') X.xe s
def nJ(X:Cx)(c:List Expr)(t:gG):Prop :=
 ∀(a:List (Addr × Obj)) (s:Shared) (σ:St) (H:Hp) (vs:List V) (us:List Value) (Q:St->Hp->Prop),ae X a σ H s->ay vs us->t vs σ H Q ->
  wpAny (model X.prog X.w) X.A (assignInOrder ((assignEach c X.env).map (·.2)) us) (λ_ b=>∃σ' H',ae X a σ' H' b/\Q σ' H') X.xe s
abbrev wr:=V->V->Hp->VK->Prop
def Nm(X:Cx)(op:Operator)(t:wr):Prop :=
 ∀(a:List (Addr × Obj)) (s:Shared) (σ:St) (H:Hp) (x y:V) (v u:Value) (Q:VK),ae X a σ H s->ax x v->ax y u->t x y H Q ->
  wpAny (model X.prog X.w) X.A (inplaceOp op v u) (EP X a σ Q) X.xe s
section
variable {X:Cx}{pos:Pos}
def bT(i:Nat):TG:=λv σ H Q=>Q (σ.set i (some v)) H
def FC{i:Nat}{x:Str}(hN:X.N.Nodup)(d:X.N[i]? = some x)(hx:gM X.env.scope x)(b:X.fn x=true\/X.env.scope.names.lookup x=some .local:=by first|exact .inl rfl|exact .inr rfl|assumption):PG X (.Name x pos) (bT i):=by
 intro a s σ H v u Q I r h;exact wpAny_assign_Name (qR I hN d hx r (λe c=>⟨_,H,c,h⟩) b)
def lX:gG:=λvs σ H Q=>vs=[]/\Q σ H
def gC(t:TG)(u:gG):gG:=λvs σ H Q=>∃v r,vs=v::r/\t v σ H λa H'=>u r a H' Q
def Fz:nJ X [] lX:=by
 intro a s σ H vs us Q I r h;obtain⟨e,h⟩:=h;subst e;cases r;exact assignInOrder_nil ⟨σ,H,I,h⟩
def FA{e:Expr}{es:List Expr}{t:TG}{u:gG}(i:PG X e t)(c:nJ X es u)
 (d:(assignEach (e::es) X.env).map (·.2)=assign e X.env::(assignEach es X.env).map (·.2):=by rfl):nJ X (e::es) (gC t u):=by
 intro a s σ H vs us Q I r h;obtain⟨v,l,g,h⟩:=h;subst g;cases r with
 | cons r rr =>
  rw[d];refine assignInOrder_cons (ap (i a s σ H _ _ _ I r h) λ_ s1 ⟨f,k,b,j⟩=>?_);exact c a s1 f k _ _ Q b rr j
def jp(K:W.Frag)(n:Nat)(t:gG):TG:=λv σ H Q=>∃a xs,v=.ref a/\bJ K H a xs/\xs.length=n/\t xs σ H Q
def FB{es:List Expr}{k:Nat}{t:gG}{n:Nat}(l:X.calm=true)(h:nJ X es t)
 (j:(assignEach es X.env).length=n:=by rfl) (d:(assignEach es X.env).findIdx? (·.1)=none:=by rfl):PG X (.Tuple es k pos) (jp X.K n t):=by
 intro c s σ H v u Q I r hw;obtain⟨a,xs,p,m,x,hw⟩:=hw;subst p;cases r;obtain⟨g,f,q,hz⟩:=I.tuple m;refine assign_Tuple_tuple (I.ok.hd l) q (by simp[j,<- x,f.length]) d λh' hx=>?_;have i:ae X c σ H { s with heap:=h' }:=I.kept (t':=s.toks) λb o e=>hx b o (OC (Oy e)) e;exact h c _ σ H xs _ Q i (by simpa using f) hw
def jO(b:TE)(g:TG):TS:=λD σ H=>b σ H λx a=>g x σ a D.nx
def Fg{b e:Expr}{c:TE}{g:TG}(i:PE X e c)(d:PG X b g)(j:swapsWithSole [b] e pos.line X.env=pure false:=by rfl)(hw:swappedStores [b] e X.env=pure none:=by rfl)
 (k:(assignEach [b] X.env).map (·.2)=[assign b X.env]:=by rfl):PS X (.Assign [b] e pos) (jO c g):=by
 intro a s σ H D I h;refine wpAny_Assign_stores (ap (i a s σ H _ I h) λv s1 ⟨x,n,f,l,m⟩=>?_) j hw;rw[k];exact ap (d a s1 σ n x v _ f l m) λ_ o q=>q
def E7{i:Nat}{x:Str}{e:Expr}{c:TE}{a:Pos}(hN:X.N.Nodup)(o:X.N[i]? = some x)(hx:gM X.env.scope x)(j:PE X e c)(k:swapsWith e (some (.Name x a)) pos.line X.env=pure false:=by rfl)(g:X.fn x=true\/X.env.scope.names.lookup x=some .local:=by first|exact .inl rfl|exact .inr rfl|assumption) :
 PS X (.Assign [.Name x a] e pos) (jO c (bT i)):=by
 intro b s σ H D I h;refine wpAny_Assign_Name (ap (j b s σ H _ I h) λv s1 ⟨y,n,f,l,m⟩=>?_) k;exact qR f hN o hx l (λp d=>⟨_,n,d,m⟩) g
def xi(i:Nat)(d:TE)(a:wr):TS:=λD σ H=>∃x,σ[i]? = some (some x)/\d σ H λy b=>a x y b λz c=>D.nx (σ.set i (some z)) c
def Ff{i:Nat}{x:Str}{e:Expr}{g:TE}{op:Operator}{f:wr}{b:Pos}(hN:X.N.Nodup)(j:X.N[i]? = some x)(hx:gM X.env.scope x)(V:PE X e g)(J:Nm X op f)(O:X.fn x=true\/X.env.scope.names.lookup x=some .local:=by first|exact .inl rfl|exact .inr rfl|assumption) :
 PS X (.AugAssign (.Name x b) op e pos) (xi i g f):=by
 intro a s σ H D I h;obtain⟨v,n,h⟩:=h;obtain⟨m,q,F⟩:=I.loc;have d:jy X.env.scope x:=by rcases hx with k|k;exact .inl k;exact .inr (.inl k)
 obtain⟨u,r,l⟩:=F i x v j n d;refine wpAny_AugAssign_Name ?_;have go:wpAny (model X.prog X.w) X.A (eval e X.env) (λw W=>wpAny (model X.prog X.w) X.A (inplaceOp op u w) (λr B=>wpAny (model X.prog X.w) X.A (storeName X.env x r) (λ_=>SP X a D .next) X.xe B) X.xe W) X.xe s:=by
  refine ap (V a s σ H _ I h) λw s1 ⟨y,C,p,R,S⟩=>?_;refine ap (J a s1 σ C v y u w _ p r R S) λz s2 ⟨zv,U,G,M,o⟩=>?_;exact qR G hN j hx M (λY L=>⟨_,U,L,o⟩) O
 rcases l with ⟨hk,hm⟩|⟨hk,c,hc,hcell⟩
 ·exact wpAny_loadName_local I.ok.kind hk q hm go
 ·rcases hk with hk|hk
  ·exact wpAny_loadName_cell I.ok.kind hk hc hcell go
  ·rcases hx with k|k
   ·have:X.env.scope.names.lookup x=some .free:=hk;rw[k]at this;cases this
   ·have:X.env.scope.names.lookup x=some .free:=hk;rw[k]at this;cases this
end
section
variable {X:Cx}{pos:Pos}
def wP(c:TT)(tb:TS):TS:=λD σ H=>∃W:Nat->St->Hp->Prop,(∃m,W m σ H)/\∀m σ H,W m σ H ->
 c σ H λb a=>if b=true then ∃N:St->Hp->Prop,(∀σ' H',N σ' H'->∃m',m'<m/\W m' σ' H')/\tb { D with nx:=N,ct:=N,bk:=D.nx } σ a else D.nx σ a
def E5{c:Expr}{body:List Stmt}{u:TT}{tb:TS}(r:PassesOwn (model X.prog X.w) X.A X.env X.xe)(M:PT X c u)(J:eN X body tb):PS X (.While c body [] pos) (wP u tb):=by
 intro a s σ H D I h;obtain⟨W,⟨O,L⟩,g⟩:=h;refine wpAny_While (codeAny_whileLoop (λn B=>∃σ' H',ae X a σ' H' B/\W n σ' H') ?_ O ⟨σ,H,I,L⟩);rintro n s1 ⟨k,x,C,G⟩;refine wpAny_passesOwn r (ap (M a s1 k x _ C (g n k x G)) λb F ⟨z,y,j⟩=>?_);cases b with
 | true =>
  obtain⟨N,hN,j⟩:=j;rw[Sc rfl];refine wpAny_passesOwn r (ap (J a F k z _ y j) λf R i=>?_);cases f with
  | next =>
   obtain⟨d,e,o,l⟩:=i;obtain⟨p,q,m⟩:=hN d e l;exact⟨p,q,d,e,o,m⟩
  | cont =>
   obtain⟨d,e,o,l⟩:=i;obtain⟨p,q,m⟩:=hN d e l;exact⟨p,q,d,e,o,m⟩
  | brk=>exact i
  | ret v=>exact i
 | false =>
  rw[Sb OL];exact wpAny_execs_nil ⟨k,z,y,j⟩
end
structure It where
 go:Nat->Hp->Prop
 yld:Nat->Hp->V->Hp->Prop
 stop:Nat->Hp->Prop
def fj(X:Cx)(a:List (Addr × Obj))(H:Hp)(b:Addr):Prop :=
 H b=none/\b≠X.env.locals/\b∉X.fs/\(b∈X.ex\/X.s₀.heap.objs.size<=b)/\(∀x c,X.env.cells.lookup x=some c->c≠b)/\∀p∈X.pn++a,p.1≠b
def ae.fpOk{X:Cx}{a:List (Addr × Obj)}{σ:St}{H H':Hp}{s:Shared}{b:Addr}(I:ae X a σ H s)(d:s.heap.objs.size<=b)(f:H' b=none):fj X a H' b:=by
 refine⟨f,PB (OH I.lt d),I.nofs d,.inr (OJ I.sz d),λx c e z=>?_,λp g z=>?_⟩
 ·obtain⟨v,q⟩:=I.cell x c e;exact Sd (OH q.lt (by rw[z];exact d)) (O5 _)
 ·exact Sd (OH (Oy (I.pin p g).1) (by rw[z];exact d)) (O5 _)
structure d7 (P:Program) (w:World) (K:W.Frag) (tg:Expr) (J:It) (fp:List Addr) (it:Addr) (tn:Nat->Heap->Prop):Prop where
 mem:it∈fp
 obj:∀i h,tn i h->∀b∈fp,∃o,h.get? b=some o/\∀v,o.data ≠ .cell v
 keep:∀i h h',tn i h->(∀b∈fp,∀o,h.get? b=some o->h'.get? b=some o)->tn i h'
 item:∀(X:Cx),X.prog=P->X.w=w->X.K=K->X.calm=true->∀(i:Nat) (pins:List (Addr × Obj)) (s:Shared) (σ:St) (H:Hp) (E:Value->Shared->Prop),ae X pins σ H s->(∀b∈fp,fj X pins H b)->tn i s.heap->J.go i H ->
  wpAny (model P w) X.A (pyNext (.ref it)) (λr s1=>∃u,r=some u /\
   wpAny (model P w) X.A (letOwnedTupleGo tg (.ref it) u) (λ_ s2=>∃x H',ae X pins σ H' s2/\ax x u/\J.yld i H x H'/\tn (i+1) s2.heap/\∀b∈fp,H' b=none) E s1) E s
 done:∀(X:Cx),X.prog=P->X.w=w->X.K=K->X.calm=true->∀(i:Nat) (pins:List (Addr × Obj)) (s:Shared) (σ:St) (H:Hp) (E:Value->Shared->Prop),ae X pins σ H s->(∀b∈fp,fj X pins H b)->tn i s.heap->J.stop i H ->
  wpAny (model P w) X.A (pyNext (.ref it)) (λr s1=>r=none/\ae X pins σ H s1) E s
 self:∀(A:Around) (i:Nat) (s:Shared) (Q:Value->Shared->Prop) (E:Value->Shared->Prop),tn i s.heap->Q (.ref it) s->wpAny (model P w) A (pyIter (.ref it)) Q E s
abbrev TI:=St->Hp->(It->Hp->Prop)->Prop
def AR(X:Cx)(a:List (Addr × Obj))(σ:St)(f:Expr)(R:It->Hp->Prop)(c:Value)(e:Shared):Prop :=
 ∃(it:Addr) (fp:List Addr) (d:Nat->Heap->Prop) (J:It) (H':Hp),c=.ref it/\ae X a σ H' e/\d7 X.prog X.w X.K f J fp it d/\d 0 e.heap/\(∀b∈fp,fj X a H' b)/\R J H'
def PI(X:Cx)(d b:Expr)(c:TI):Prop :=
 ∀(a:List (Addr × Obj)) (s:Shared) (σ:St) (H:Hp) (R:It->Hp->Prop),ae X a σ H s->c σ H R ->
  wpAny (model X.prog X.w) X.A (eval b X.env) (λv s1=>wpAny (model X.prog X.w) X.A (pyIter v) (AR X a σ d R) X.xe s1) X.xe s
def hX{M:Model}{A:Around}{E:Value->Shared->Prop}{s:Shared}{a:Expr}{it:Addr}{u:Value}{o:Obj}{n:String}{vs:Array Value}{Q:Unit->Shared->Prop}(d:s.heap.get? it=some o)(c:o.cls=.type n)(hd:o.data=.fields vs)
 (b:["enumerate", "zip", "dict_itemiterator", "dict_reverseitemiterator", "odict_iterator", "itertools.zip_longest", "itertools.pairwise"].contains n=false) (hQ:Q () s):wpAny M A (letOwnedTupleGo a (.ref it) u) Q E s:=by
 unfold letOwnedTupleGo;cases a<;>first
  | exact Sa hQ
  | (cases u<;>first
      | exact Sa hQ
      | (refine on (wpAny_load d ?_)
         rw[c,hd];show wpAny M A (if (["enumerate", "zip", "dict_itemiterator", "dict_reverseitemiterator", "odict_iterator", "itertools.zip_longest", "itertools.pairwise"].contains n && vs[0]? == some (rawInt _))=true then _ else _) Q E s;rw[Sb (by intro h;rw[b,Bool.false_and]at h;cases h)];exact Sa hQ))
def jG(K:W.Frag)(a:Addr):It :=
 ⟨λi H=>∃xs x,aJ K H a xs/\xs[i]? = some x,λi H x H'=>H'=H/\∀xs,aJ K H a xs->xs[i]? = some x,λi H=>∃xs,aJ K H a xs/\xs.length<=i⟩
def wz(K:W.Frag)(a:Addr):It :=
 ⟨λi H=>∃xs x,bJ K H a xs/\xs[i]? = some x,λi H x H'=>H'=H/\∀xs,bJ K H a xs->xs[i]? = some x,λi H=>∃xs,bJ K H a xs/\xs.length<=i⟩
def jC(lo:Int)(n:Nat):It:=⟨λi _=>i<n,λi H x H'=>H'=H/\x=.int (lo+i),λi _=>n<=i⟩
def BW{P:Program}{w:World}{K:W.Frag}{R:Expr}(a it:Addr):d7 P w K R (jG K a) [it] it (λi h=>h.IsListIter it a i) where
 mem:=by simp
 obj:=λi h st b g=>by
  have e:b=it:=by simpa using g
  subst e;obtain⟨o,e,c,d⟩:=st;exact⟨o,e,λv z=>by rw[d]at z;cases z⟩
 keep:=λi h h' st k=>st.at λo e=>k it (by simp) o e
 item:=by
  intro X hP hw hK G i f s σ H E I l st C;subst hP hw hK;obtain⟨xs,x,m,hx⟩:=C;obtain⟨n,r,p,hz⟩:=I.list m;obtain⟨u,O,N⟩:=r.get hx;obtain⟨D,B,J,q,F,y⟩:=l it (by simp);refine wpAny_pyNext_list_item st p.isList (x:=u) (by simpa using O) λh' j M=>?_;have L:ae X f σ H { s with heap:=h' }:=I.turned (t':=s.toks) (λb o g e=>(M.2 b g).trans e) D B q F y;obtain⟨o,e,c,d⟩:=id j;exact⟨u,rfl,hX (s:={ s with heap:=h' }) e c d (by decide) ⟨x,H,L,N,⟨rfl,λU hy=>by rw[I.list_inj hy m];exact hx⟩,j,λb g=>(l b g).1⟩⟩
 done:=by
  intro X hP hw hK G i f s σ H E I l st C;subst hP hw hK;obtain⟨xs,m,hx⟩:=C;obtain⟨n,r,p,hz⟩:=I.list m;obtain⟨D,B,J,q,F,y⟩:=l it (by simp);have V:=r.length;exact wpAny_pyNext_list_end (I.ok.hd G) st p.isList (by simp;omega) λh' S=>⟨rfl,I.turned (t':=s.toks) (λb o g e=>S b o g e) D B q F y⟩
 self:=λ_ _ _ _ _ st h=>wpAny_pyIter_listiter st h
def BS{P:Program}{w:World}{K:W.Frag}{R:Expr}(a it:Addr):d7 P w K R (wz K a) [it] it (λi h=>h.IsTupleIter it a i) where
 mem:=by simp
 obj:=λi h st b j=>by
  have e:b=it:=by simpa using j
  subst e;obtain⟨o,e,c,d⟩:=st;exact⟨o,e,λv z=>by rw[d]at z;cases z⟩
 keep:=λi h h' st k=>st.at λo e=>k it (by simp) o e
 item:=by
  intro X hP hw hK G i f s σ H E I m st C;subst hP hw hK;obtain⟨xs,x,n,hx⟩:=C;obtain⟨g,r,p,hz⟩:=I.tuple n;obtain⟨u,O,N⟩:=r.get hx;obtain⟨D,B,J,q,F,y⟩:=m it (by simp);refine wpAny_pyNext_tuple_item st (show s.heap.IsTuple a g.toArray from p) (x:=u) (by simpa using O) λh' l M=>?_;have L:ae X f σ H { s with heap:=h' }:=I.turned (t':=s.toks) (λb o j e=>(M.2 b j).trans e) D B q F y;obtain⟨o,e,c,d⟩:=id l;exact⟨u,rfl,hX (s:={ s with heap:=h' }) e c d (by decide) ⟨x,H,L,N,⟨rfl,λU hy=>by rw[I.tuple_inj hy n];exact hx⟩,l,λb j=>(m b j).1⟩⟩
 done:=by
  intro X hP hw hK G i f s σ H E I m st C;subst hP hw hK;obtain⟨xs,n,hx⟩:=C;obtain⟨g,r,p,hz⟩:=I.tuple n;obtain⟨D,B,J,q,F,y⟩:=m it (by simp);have V:=r.length;exact wpAny_pyNext_tuple_end (I.ok.hd G) st (show s.heap.IsTuple a g.toArray from p) (by simp;omega) λh' S=>⟨rfl,I.turned (t':=s.toks) (λb o j e=>S b o j e) D B q F y⟩
 self:=λ_ _ _ _ _ st h=>wpAny_pyIter_tupleiter st h
def BV{P:Program}{w:World}{K:W.Frag}{F:Expr}(it:Addr)(lo:Int)(n:Nat):d7 P w K F (jC lo n) [it] it (λi h=>IsRangeIter h it (lo+(i:Nat)*1) ((n:Int)-(i:Nat)) 1) where
 mem:=by simp
 obj:=λi h st b c=>by
  have e:b=it:=by simpa using c
  subst e;exact⟨_,st,λv z=>by
   have C:Data.fields _=Data.cell v:=z;cases C⟩
 keep:=λi h h' st k=>k it (by simp) _ st
 item:=by
  intro X hP hw hK q i a s σ H E I f st m;subst hP hw hK;obtain⟨p,l,x,g,r,j⟩:=f it (by simp);have W:=Walks.range (prog:=X.prog) (w:=X.w) (I.ok.hd q) it lo 1 n;refine W.item i s _ _ m st λv h' u B d D=>?_;obtain⟨t,rfl⟩:=B;have y:ae X a σ H { s with heap:=h',toks:=u }:=I.turned (λb o c e=>D b o (by simpa using c) e) p l g r j;refine⟨_,rfl,hX (s:={ s with heap:=h',toks:=u }) (n := "range_iterator") d rfl rfl (by decide) ⟨.int (lo+i),H,y,⟨t,?_⟩,⟨rfl,rfl⟩,d,λb c=>(f b c).1⟩⟩;rw[Int.mul_one]
 done:=by
  intro X hP hw hK q i a s σ H E I f st m;subst hP hw hK;obtain⟨p,l,x,g,r,j⟩:=f it (by simp);exact wpAny_pyNext_range_end (I.ok.hd q) st (by have:n<=i:=m;omega) λh' G=>⟨rfl,I.turned (t':=s.toks) (λb o c e=>G b o c e) p l g r j⟩
 self:=λ_ _ _ _ _ st h=>wpAny_pyIter_rangeiter st h
section
variable {X:Cx}{tg:Expr}
def sj(K:W.Frag)(c:TE):TI:=λσ H R=>c σ H λx b=>∃a,x=.ref a/\(∃xs,aJ K b a xs)/\R (jG K a) b
def si(K:W.Frag)(c:TE):TI:=λσ H R=>c σ H λx b=>∃a,x=.ref a/\(∃xs,bJ K b a xs)/\R (wz K a) b
def Fv{l:Expr}{f:TE}(r:PE X l f):PI X tg l (sj X.K f):=by
 intro c s σ H R I h;refine ap (r c s σ H _ I h) λv s1 ⟨x,n,d,k,m⟩=>?_;obtain⟨a,e,⟨xs,j⟩,q⟩:=m;subst e;cases k;obtain⟨g,u,p,hz⟩:=d.list j;refine wpAny_pyIter_list p.isList ?_;refine⟨s1.heap.objs.size,[s1.heap.objs.size],_,_,n,Z,d.kept (t':=s1.toks) λb o e=>Ow _ e,BW a _,⟨_,OB _ Z,Z,Z⟩,λb i=>?_,q⟩;have e:b=s1.heap.objs.size:=by simpa using i
 subst e;exact d.fpOk (Oo _) (d.hok.fresh (Oo _))
def Fr{l:Expr}{g:TE}(r:PE X l g):PI X tg l (si X.K g):=by
 intro c s σ H R I h;refine ap (r c s σ H _ I h) λv s1 ⟨x,n,d,k,m⟩=>?_;obtain⟨a,e,⟨xs,j⟩,q⟩:=m;subst e;cases k;obtain⟨f,u,p,hz⟩:=d.tuple j;refine wpAny_pyIter_tuple (show s1.heap.IsTuple a f.toArray from p) ?_;refine⟨s1.heap.objs.size,[s1.heap.objs.size],_,_,n,Z,d.kept (t':=s1.toks) λb o e=>Ow _ e,BS a _,⟨_,OB _ Z,Z,Z⟩,λb i=>?_,q⟩;have e:b=s1.heap.objs.size:=by simpa using i
 subst e;exact d.fpOk (Oo _) (d.hok.fresh (Oo _))
def D2{c:List (Addr × Obj)}{σ:St}{H:Hp}{s:Shared}{R:It->Hp->Prop}{E:Value->Shared->Prop}{lo a:Int}{t u v:Tok}{f:Nat}(I:ae X c σ H s)(l : -(2 ^ 62)<=lo)(h:lo<2 ^ 62)(g : -(2 ^ 62)<=a)(i:a<2 ^ 62)
 (q:R (jC lo (a-lo).toNat) H):wpAny (model X.prog X.w) X.A (pyIter (.ref s.heap.objs.size)) (AR X c σ tg R) E { s with heap:=s.heap.push { cls:=.type "range",data:=.fields #[.int lo t,.int a u,.int 1 v] },toks:=f }:=by
 refine wpAny_pyIter_range (IsRange.new ..) (small_one l h g i) ?_;have d:ae X c σ H { s with heap:=s.heap.push { cls:=.type "range",data:=.fields #[.int lo t,.int a u,.int 1 v] },toks:=f }:=I.kept λb o e=>Ow _ e;refine⟨(s.heap.push { cls:=.type "range",data:=.fields #[.int lo t,.int a u,.int 1 v] }).objs.size,[(s.heap.push { cls:=.type "range",data:=.fields #[.int lo t,.int a u,.int 1 v] }).objs.size],_,_,H,Z,
  d.kept (t':=f) λb o e=>Ow _ e,BV _ lo (a-lo).toNat,?_,λb m=>?_,q⟩
 ·have k:lo+((0:Nat):Int)*1=lo:=by simp
  have j:(((a-lo).toNat:Nat):Int)-((0:Nat):Int)=Builtin.Range.rangeSize lo a 1:=by rw[rangeSize_one];split<;>omega
  show IsRangeIter _ _ (lo+((0:Nat):Int)*1) ((((a-lo).toNat:Nat):Int)-((0:Nat):Int)) 1;rw[k,j];exact OB _ Z
 ·have e:b=(s.heap.push { cls:=.type "range",data:=.fields #[.int lo t,.int a u,.int 1 v] }).objs.size:=by simpa using m
  subst e;exact d.fpOk (Oo _) (d.hok.fresh (Oo _))
def zi(a:TA):TI:=λσ H R=>a σ H λvs b=>∃j:Int,vs=[.int j]/\-(2 ^ 62)<=j/\j<2 ^ 62/\R (jC 0 j.toNat) b
def Fu {a:Expr} {d:TA} {p pos:Pos} (g:Gl X "range") (m:X.mg "range" = none) (l:PA X [a] d) (k:starEach [a] X.env=[(false,eval a X.env)]:=by rfl):PI X tg (.Call (.Name "range" p) [a] [] pos) (zi d):=by
 intro b s σ H R I h;refine Call_ (hJ I g m boot_range (Qg (ap (l pos b s σ H _ I h) λus s1 ⟨vs,o,i,n,c⟩=>?_) k Z));obtain⟨j,e,c,f,q⟩:=c;subst e;cases n with
 | cons r rr =>
  cases rr;obtain⟨t,rfl⟩:=r;exact call_range_1 (D2 i (by omega) (by omega) c f (by simpa using q))
def w9(a:TI)(g:TG)(tb:TS):TS:=λD σ H=>a σ H λJ b=>∃W:Nat->Nat->St->Hp->Prop,(∃m,W 0 m σ b)/\∀i m σ H,W i m σ H ->
 (J.stop i H/\D.nx σ H)\/(J.go i H/\∃N:St->Hp->Prop,(∀σ' H',N σ' H'->∃m',m'<m/\W (i+1) m' σ' H')/\∀x H',J.yld i H x H'->g x σ H' λd c=>tb { D with nx:=N,ct:=N,bk:=D.nx } d c)
def mR(fp:List Addr)(h:Heap):List (Addr × Obj):=fp.filterMap λb=>(h.get? b).map λo=>(b,o)
def oV{fp:List Addr}{h:Heap}{b:Addr}{o:Obj}(a:b∈fp)(e:h.get? b=some o):(b,o)∈mR fp h:=List.mem_filterMap.mpr ⟨b,a,by rw[e];rfl⟩
def GC{fp:List Addr}{h:Heap}{p:Addr × Obj}(c:p∈mR fp h):p.1∈fp/\h.get? p.1=some p.2:=by
 obtain⟨b,a,e⟩:=List.mem_filterMap.mp c;cases q:h.get? b with
 | none=>rw[q]at e;cases e
 | some o =>
  rw[q]at e;have d:(b,o)=p:=OI e;subst d;exact⟨a,q⟩
def ae.pinned{a:List (Addr × Obj)}{σ:St}{H:Hp}{s:Shared}{fp:List Addr}(I:ae X a σ H s)(j:∀b∈fp,fj X a H b)(i:∀b∈fp,∃o,s.heap.get? b=some o/\∀v,o.data ≠ .cell v):ae X (a++mR fp s.heap) σ H s :=
 I.pins_of λp l=>(Os.mp l).elim (λz=>I.pin p (ON _ z)) λz=>by
  obtain⟨c,e⟩:=GC z;obtain⟨k,g,h,_⟩:=j p.1 c;obtain⟨o,f,d⟩:=i p.1 c;rw[e]at f;cases f;exact⟨e,k,g,h,d⟩
def ae.unpinned{a pl:List (Addr × Obj)}{σ:St}{H:Hp}{s:Shared}(I:ae X (a++pl) σ H s):ae X a σ H s:=I.pins_of λp b=>I.pin p (ON _ (OZ _ b))
def Fb{c:Expr}{body:List Stmt}{wi:TI}{g:TG}{tb:TS}{pos:Pos}(C:PassesOwn (model X.prog X.w) X.A X.env X.xe)(hc:X.calm=true)(hi:PI X tg c wi)(hg:PG X tg g)(p:eN X body tb)
 (hs:∀x,foldedSetIterable c X.env x=pure x:=by intro _;rfl):PS X (.For tg c body [] pos) (w9 wi g tb):=by
 intro a s σ H D I h;refine wpAny_For (ap (hi a s σ H _ I h) λv s1 h1=>ap h1 λad s2 h2=>?_) hs;obtain⟨it,fp,tn,J,H2,e,I2,T,V,f2,W,⟨m0,w0⟩,L⟩:=h2;subst e;have j:∀ {H':Hp},(∀b∈fp,H' b=none)->∀b∈fp,fj X a H' b:=λhn b p=>⟨hn b p,(f2 b p).2⟩;refine codeAny_forLoop_any (λn s'=>∃i σ' H',ae X a σ' H' s'/\tn i s'.heap/\(∀b∈fp,H' b=none)/\W i n σ' H') ?_ m0 ⟨0,σ,H2,I2,V,λb p=>(f2 b p).1,w0⟩;rintro n s3 ⟨i,F,R,I3,G,M,w3⟩;rcases L i n F R w3 with ⟨stop,qn⟩|⟨go,N,hN,step⟩
 ·refine wpAny_passesOwn C (ap (T.done X Z Z Z hc i a s3 F R X.xe I3 (j M) G stop) λr s4 ⟨U,I4⟩=>?_);subst U;exact wpAny_execs_nil ⟨F,R,I4,qn⟩
 ·refine wpAny_passesOwn C (ap (T.item X Z Z Z hc i a s3 F R X.xe I3 (j M) G go) λr s4 ⟨u,U,h4⟩=>?_);subst U;refine wpAny_passesOwn C (ap h4 λ_ s5 ⟨x,H5,I5,r5,y5,B,Y⟩=>?_);have a0:=I5.pinned (j Y) (T.obj _ _ B);refine wpAny_passesOwn C (ap (hg _ s5 F H5 x u _ a0 r5 (step x H5 y5)) λ_ s6 ⟨σ6,H6,I6,q6⟩=>?_);refine wpAny_passesOwn C (ap (p _ s6 σ6 H6 _ I6 q6) λf S z=>?_);have l:∀ {k:St} {y:Hp},ae X (a++mR fp s5.heap) k y S->N k y->∃m,m<n/\∃i σ' H',ae X a σ' H' S/\tn i S.heap/\(∀b∈fp,H' b=none)/\W i m σ' H':=λ{k y} q O=>by
   obtain⟨m',hm,w7⟩:=hN k y O;refine⟨m',hm,i+1,k,y,q.unpinned,T.keep _ _ _ B λb p o e=>(q.pin (b,o) (ON _ (ON _ (oV p e)))).1,λb p=>?_,w7⟩;obtain⟨o,e,d⟩:=T.obj _ _ B b p;exact (q.pin (b,o) (ON _ (ON _ (oV p e)))).2.1
  cases f with
  | next=>obtain⟨k,y,q,O⟩:=z;exact l q O
  | cont=>obtain⟨k,y,q,O⟩:=z;exact l q O
  | brk=>obtain⟨k,y,q,z⟩:=z;exact⟨k,y,q.unpinned,z⟩
  | ret v=>obtain⟨x7,k,y,q,r7,z⟩:=z;exact⟨x7,k,y,q.unpinned,r7,z⟩
end
def eG{K:W.Frag}{a:Addr}{xs:List V}{g:TG}{tb:TS}{D:dG}{σ:St}{H:Hp}(b:Nat->St->Hp->Prop)(h:b 0 σ H)(l:∀i σ H,i<=xs.length->b i σ H->aJ K H a xs)
 (k:∀i x σ H,xs[i]? = some x->b i σ H->g x σ H λf c=>tb { D with nx:=b (i+1),ct:=b (i+1),bk:=D.nx } f c) (hd:∀σ H,b xs.length σ H->D.nx σ H) :
 ∃W:Nat->Nat->St->Hp->Prop,(∃m,W 0 m σ H)/\∀i m σ H,W i m σ H ->
  ((jG K a).stop i H/\D.nx σ H)\/((jG K a).go i H/\∃N:St->Hp->Prop,(∀d H',N d H'->∃m',m'<m/\W (i+1) m' d H')/\∀x H',(jG K a).yld i H x H'->g x σ H' λf c=>tb { D with nx:=N,ct:=N,bk:=D.nx } f c):=by
 refine⟨λi m σ H=>m=xs.length-i/\i<=xs.length/\b i σ H,⟨xs.length,by simp,Ox _,h⟩,?_⟩;rintro i m σ H ⟨rfl,n,p⟩;have q:=l i σ H n p;by_cases hlt:i<xs.length
 ·refine .inr ⟨⟨xs,xs[i],q,by simp[hlt]⟩,b (i+1),λd H' j=>⟨xs.length-(i+1),by omega,rfl,hlt,j⟩,λx H' y=>?_⟩;obtain⟨e,y⟩:=y;subst e;exact k i x σ _ (y xs q) p
 ·have e:i=xs.length:=by omega
  subst e;exact .inl ⟨⟨xs,q,Oo _⟩,hd σ H p⟩
def jr{lo:Int}{n:Nat}{g:TG}{tb:TS}{D:dG}{σ:St}{H:Hp}(a:Nat->St->Hp->Prop)(f:a 0 σ H)
 (j:∀i σ H,i<n->a i σ H->g (.int (lo+i)) σ H λd b=>tb { D with nx:=a (i+1),ct:=a (i+1),bk:=D.nx } d b) (hd:∀σ H,a n σ H->D.nx σ H) :
 ∃W:Nat->Nat->St->Hp->Prop,(∃m,W 0 m σ H)/\∀i m σ H,W i m σ H ->
  ((jC lo n).stop i H/\D.nx σ H)\/((jC lo n).go i H/\∃N:St->Hp->Prop,(∀c H',N c H'->∃m',m'<m/\W (i+1) m' c H')/\∀x H',(jC lo n).yld i H x H'->g x σ H' λd b=>tb { D with nx:=N,ct:=N,bk:=D.nx } d b):=by
 refine⟨λi m σ H=>m=n-i/\i<=n/\a i σ H,⟨n,by simp,Ox _,f⟩,?_⟩;rintro i m σ H ⟨rfl,k,p⟩;by_cases hlt:i<n
 ·refine .inr ⟨hlt,a (i+1),λc H' h=>⟨n-(i+1),by omega,rfl,hlt,h⟩,λx H' y=>?_⟩;obtain⟨e,y⟩:=y;subst e y;exact j i σ _ hlt p
 ·have e:i=n:=by omega
  subst e;exact .inl ⟨Oo _,hd σ H p⟩
abbrev R2:=V->V->Hp->VK->Prop
def aM(X:Cx)(f:Value->Value->Sem Value)(r:R2):Prop :=
 ∀(a:List (Addr × Obj)) (s:Shared) (σ:St) (H:Hp) (x y:V) (v u:Value) (Q:VK),ae X a σ H s->ax x v->ax y u->r x y H Q ->
  wpAny (model X.prog X.w) X.A (f v u) (EP X a σ Q) X.xe s
def nG(X:Cx)(f:Value->Sem Value)(r:V->Hp->VK->Prop):Prop :=
 ∀(a:List (Addr × Obj)) (s:Shared) (σ:St) (H:Hp) (x:V) (v:Value) (Q:VK),ae X a σ H s->ax x v->r x H Q ->
  wpAny (model X.prog X.w) X.A (f v) (EP X a σ Q) X.xe s
def bV(X:Cx)(f:Value)(r:List V->Hp->VK->Prop):Prop :=
 ∀(a:List (Addr × Obj)) (s:Shared) (σ:St) (H:Hp) (xs:List V) (us:List Value) (Q:VK),ae X a σ H s->ay xs us->r xs H Q ->
  wpAny (model X.prog X.w) X.A (call f us) (EP X a σ Q) X.xe s
def Nh(X:Cx)(r:V->Hp->(Bool->Hp->Prop)->Prop):Prop :=
 ∀(a:List (Addr × Obj)) (s:Shared) (σ:St) (H:Hp) (x:V) (v:Value) (Q:Bool->Hp->Prop),ae X a σ H s->ax x v->r x H Q ->
  wpAny (model X.prog X.w) X.A (truthy v) (TP X a σ Q) X.xe s
def fW(r:R2)(a tb:TE):TE:=λσ H Q=>a σ H λx b=>tb σ b λy c=>r x y c Q
def wQ(r:V->Hp->VK->Prop)(a:TE):TE:=λσ H Q=>a σ H λx b=>r x b Q
def rI(C:Int->Int->Prop)(g:Int->Int->V):R2:=λx y H Q=>∃i j,x=.int i/\y=.int j/\C i j/\Q (g i j) H
def gc(g:Int->Int->V):R2:=λx y H Q=>∃i j,x=.int i/\y=.int j/\Q (g i j) H
def rU(g:Int->V):V->Hp->VK->Prop:=λx H Q=>∃i,x=.int i/\Q (g i) H
section
variable {X:Cx}{a b c:Expr}{ta tb tc:TE}{pos:Pos}
def uW(p:PE X a ta)(z:PE X b tb){c:List (Addr × Obj)}{s:Shared}{σ:St}{H:Hp}{R:V->V->Hp->Prop}(I:ae X c σ H s)
 (h:ta σ H λx g=>tb σ g λy d=>R x y d) {Q:Value->Shared->Prop} {f:Value->Value->Sem Value}
 (o:∀v u e x y d,ae X c σ d e->ax x v->ax y u->R x y d->wpAny (model X.prog X.w) X.A (f v u) Q X.xe e) :
 wpAny (model X.prog X.w) X.A (eval a X.env) (λv k=>wpAny (model X.prog X.w) X.A (eval b X.env) (λu l=>wpAny (model X.prog X.w) X.A (f v u) Q X.xe l) X.xe k) X.xe s:=by
 refine ap (p c s σ H _ I h) λv s1 ⟨x,g,m,r,q⟩=>?_;refine ap (z c s1 σ g _ m q) λu e ⟨y,d,j,n,i⟩=>?_;exact o v u e x y d j r n i
def FI{op:Operator}{r:R2}(f:aM X (binaryOp op) r)(j:PE X a ta)(l:PE X b tb):PE X (.BinOp a op b pos) (fW r ta tb):=by
 intro c s σ H Q I h;exact wpAny_BinOp (uW j l I h λv u g x y e d i k q=>f c g σ e x y v u Q d i k q)
def FF{op:UnaryOp}{r:V->Hp->VK->Prop}(c:nG X (unaryOp op) r)(e:PE X a ta):PE X (.UnaryOp op a pos) (wQ r ta):=by
 intro b s σ H Q I h;exact UnaryOp_ (ap (e b s σ H _ I h) λv s1 ⟨x,i,d,g,f⟩=>c b s1 σ i x v Q d g f)
def rF{f:Value->Value->Sem Value}{C:Int->Int->Prop}{g:Int->Int->Int}
 (a:∀(i j:Int) (t u:Tok) (s:Shared) (Q:Value->Shared->Prop) (E:Value->Shared->Prop),C i j->Q (.int (g i j) s.toks) { s with toks:=s.toks+1 }->wpAny (model X.prog X.w) X.A (f (.int i t) (.int j u)) Q E s) :
 aM X f (rI C λi j=>.int (g i j)):=by
 intro b s σ H x y v u Q I d e h;obtain⟨i,j,rfl,rfl,c,q⟩:=h;obtain⟨t,rfl⟩:=d;obtain⟨t',rfl⟩:=e;exact a i j t t' s _ _ c ⟨.int (g i j),H,I.tok _,⟨_,Z⟩,q⟩
def rE{f:Value->Value->Sem Value}{g:Int->Int->Int}
 (a:∀(i j:Int) (t u:Tok) (s:Shared) (Q:Value->Shared->Prop) (E:Value->Shared->Prop),Q (.int (g i j) s.toks) { s with toks:=s.toks+1 }->wpAny (model X.prog X.w) X.A (f (.int i t) (.int j u)) Q E s) :
 aM X f (gc λi j=>.int (g i j)):=by
 intro b s σ H x y v u Q I d c h;obtain⟨i,j,rfl,rfl,q⟩:=h;obtain⟨t,rfl⟩:=d;obtain⟨t',rfl⟩:=c;exact a i j t t' s _ _ ⟨.int (g i j),H,I.tok _,⟨_,Z⟩,q⟩
def rG{f:Value->Value->Sem Value}{g:Int->Int->Bool}
 (a:∀(i j:Int) (t u:Tok) (s:Shared) (Q:Value->Shared->Prop) (E:Value->Shared->Prop),Q (.bool (g i j)) s->wpAny (model X.prog X.w) X.A (f (.int i t) (.int j u)) Q E s) :
 aM X f (gc λi j=>.bl (g i j)):=by
 intro b s σ H x y v u Q I d c h;obtain⟨i,j,rfl,rfl,q⟩:=h;obtain⟨t,rfl⟩:=d;obtain⟨t',rfl⟩:=c;exact a i j t t' s _ _ ⟨.bl (g i j),H,I,Z,q⟩
def NL(i j:Int):Prop:=0<j/\j<1073741824
def qF(i j:Int):Prop:=(-(2 ^ 64)<i/\i<2 ^ 64)\/(-(2 ^ 64)<j/\j<2 ^ 64)
def qF.ok{i j:Int}(h:qF i j):IntMulOk i j:=by
 rcases h with ⟨h1,h2⟩|⟨h1,h2⟩
 ·exact .of_left (intBits_le_64 h1 h2)
 ·exact .of_right (intBits_le_64 h1 h2)
def Gv:aM X (binaryOp .Add) (gc λi j=>.int (i+j)):=rE λ_ _ _ _ _ _ _ q=>add_int q
def Gh:aM X (binaryOp .Sub) (gc λi j=>.int (i-j)):=rE λ_ _ _ _ _ _ _ q=>sub_int q
def Gm:aM X (binaryOp .Mult) (rI qF λi j=>.int (i*j)):=rF λ_ _ _ _ _ _ _ a q=>mul_int q a.ok
def Gs:aM X (binaryOp .FloorDiv) (rI NL λi j=>.int (i/j)):=rF λi j _ _ _ _ _ a q=>by
 have b:(0:Int)<j:=a.1;have c:j<1073741824:=a.2;exact floordiv_int (by omega) (by rw[Int.fdiv_eq_ediv_of_nonneg i (by omega)];exact q) (.inl (Rv (by omega)))
def yz:aM X (binaryOp .Mod) (rI (λ_ j=>0<j) λi j=>.int (i%j)):=rF λi j _ _ _ _ _ a q=>by
 have b:(0:Int)<j:=a;exact mod_int' (by omega) (by rw[Int.fmod_eq_emod_of_nonneg i (by omega)];exact q)
def zd:aM X (inplaceOp .Sub) (gc λi j=>.int (i-j)):=rE λ_ _ _ _ _ _ _ q=>isub_int q
def BG{f:Value->Sem Value}{g:Int->Int}
 (a:∀(i:Int) (t:Tok) (s:Shared) (Q:Value->Shared->Prop) (E:Value->Shared->Prop),Q (.int (g i) s.toks) { s with toks:=s.toks+1 }->wpAny (model X.prog X.w) X.A (f (.int i t)) Q E s) :
 nG X f (rU λi=>.int (g i)):=by
 intro b s σ H x v Q I c h;obtain⟨i,rfl,q⟩:=h;obtain⟨t,rfl⟩:=c;exact a i t s _ _ ⟨.int (g i),H,I.tok _,⟨_,Z⟩,q⟩
def BF:nG X (unaryOp .USub) (rU λi=>.int (-i)):=BG λ_ _ _ _ _ q=>neg_int q
end
def xB:V->V->Bool
 | .non,.non=>true|.non,.int _=>true|.int _,.non=>true|.non,.bl _=>true|.bl _,.non=>true|.non,.str _=>true|.str _,.non=>true
 | .int _,.int _=>true|.bl _,.bl _=>true|.str _,.str _=>true|.byt _,.byt _=>true
 | .int _,.str _=>true|.str _,.int _=>true|.bl _,.str _=>true|.str _,.bl _=>true
 | _,_=>false
def Ee:R2:=λx y H Q=>xB x y=true/\Q (.bl (decide (x=y))) H
def D9:R2:=λx y H Q=>xB x y=true/\Q (.bl (!decide (x=y))) H
def Ah{i j:Int}:decide (V.int i=V.int j)=(i == j):=by
 rw[Qh];simp
def pK{i j:Bool}:decide (V.bl i=V.bl j)=(i == j):=by
 rw[Qh];simp
def Af{i j:Str}:decide (V.str i=V.str j)=(i == j):=by
 rw[Qh];simp
def Ai{i j:Array UInt8}:decide (V.byt i=V.byt j)=(i.toList == j.toList):=by
 rw[Qh];cases i;cases j;simp
section
variable {X:Cx}{a b c:Expr}{ta tb tc:TE}{pos:Pos}
def bF{a:List (Addr × Obj)}{σ:St}{H:Hp}{s:Shared}{Q:VK}{k b:Bool}(I:ae X a σ H s)(q:Q (.bl k) H)(e:k=b):EP X a σ Q (.bool b) s:=by
 subst e;exact⟨.bl k,H,I,Z,q⟩
def yA:aM X (compareOp .Eq) Ee:=by
 intro d s σ H x y v u Q I c a h;obtain⟨b,q⟩:=h;cases x with
 | non =>
  cases c;cases y with
  | non=>cases a;exact PySem.EqNone.eq_none_none (bF I q (by simp))
  | bl j=>cases a;exact PySem.EqNone.eq_none_bool (bF I q (by simp))
  | int j=>obtain⟨t',rfl⟩:=a;exact PySem.EqNone.eq_none_int (bF I q (by simp))
  | str j=>obtain⟨t',rfl⟩:=a;exact PySem.EqNone.eq_none_str (bF I q (by simp))
  | _=>exact Sd (show false=true from b) OL
 | bl i =>
  cases c;cases y with
  | non=>cases a;exact PySem.EqNone.eq_bool_none (bF I q (by simp))
  | bl j=>cases a;exact eq_bool (bF I q pK)
  | str j=>obtain⟨t',rfl⟩:=a;exact PySem.EqMixed.eq_bool_str (bF I q (by simp))
  | _=>exact Sd (show false=true from b) OL
 | int i =>
  obtain⟨t,rfl⟩:=c;cases y with
  | non=>cases a;exact PySem.EqNone.eq_int_none (bF I q (by simp))
  | int j=>obtain⟨t',rfl⟩:=a;exact eq_int (bF I q Ah)
  | str j=>obtain⟨t',rfl⟩:=a;exact PySem.EqMixed.eq_int_str (bF I q (by simp))
  | _=>exact Sd (show false=true from b) OL
 | str i =>
  obtain⟨t,rfl⟩:=c;cases y with
  | non=>cases a;exact PySem.EqNone.eq_str_none (bF I q (by simp))
  | bl j=>cases a;exact PySem.EqMixed.eq_str_bool (bF I q (by simp))
  | int j=>obtain⟨t',rfl⟩:=a;exact PySem.EqMixed.eq_str_int (bF I q (by simp))
  | str j=>obtain⟨t',rfl⟩:=a;exact eq_str (bF I q Af)
  | _=>exact Sd (show false=true from b) OL
 | byt i =>
  obtain⟨t,rfl⟩:=c;cases y with
  | byt j=>obtain⟨t',rfl⟩:=a;exact W.eq_bytes (bF I q Ai)
  | _=>exact Sd (show false=true from b) OL
 | _=>cases y<;>exact Sd (show false=true from b) OL
def yy:aM X (compareOp .NotEq) D9:=by
 intro d s σ H x y v u Q I c a h;obtain⟨b,q⟩:=h;cases x with
 | non =>
  cases c;cases y with
  | non=>cases a;exact PySem.EqNone.ne_none_none (bF I q (by simp))
  | bl j=>cases a;exact PySem.EqNone.ne_none_bool (bF I q (by simp))
  | int j=>obtain⟨t',rfl⟩:=a;exact PySem.EqNone.ne_none_int (bF I q (by simp))
  | str j=>obtain⟨t',rfl⟩:=a;exact PySem.EqNone.ne_none_str (bF I q (by simp))
  | _=>exact Sd (show false=true from b) OL
 | bl i =>
  cases c;cases y with
  | non=>cases a;exact PySem.EqNone.ne_bool_none (bF I q (by simp))
  | bl j=>cases a;exact ne_bool (bF I q (congrArg not pK))
  | str j=>obtain⟨t',rfl⟩:=a;exact PySem.EqMixed.ne_bool_str (bF I q (by simp))
  | _=>exact Sd (show false=true from b) OL
 | int i =>
  obtain⟨t,rfl⟩:=c;cases y with
  | non=>cases a;exact PySem.EqNone.ne_int_none (bF I q (by simp))
  | int j=>obtain⟨t',rfl⟩:=a;exact ne_int (bF I q (congrArg not Ah))
  | str j=>obtain⟨t',rfl⟩:=a;exact PySem.EqMixed.ne_int_str (bF I q (by simp))
  | _=>exact Sd (show false=true from b) OL
 | str i =>
  obtain⟨t,rfl⟩:=c;cases y with
  | non=>cases a;exact PySem.EqNone.ne_str_none (bF I q (by simp))
  | bl j=>cases a;exact PySem.EqMixed.ne_str_bool (bF I q (by simp))
  | int j=>obtain⟨t',rfl⟩:=a;exact PySem.EqMixed.ne_str_int (bF I q (by simp))
  | str j=>obtain⟨t',rfl⟩:=a;exact ne_str (bF I q (congrArg not Af))
  | _=>exact Sd (show false=true from b) OL
 | byt i =>
  obtain⟨t,rfl⟩:=c;cases y with
  | byt j=>obtain⟨t',rfl⟩:=a;exact W.ne_bytes (bF I q (congrArg not Ai))
  | _=>exact Sd (show false=true from b) OL
 | _=>cases y<;>exact Sd (show false=true from b) OL
def Gn:aM X (compareOp .Lt) (gc λi j=>.bl (decide (i<j))):=rG λ_ _ _ _ _ _ _ q=>lt_int q
def Go:aM X (compareOp .LtE) (gc λi j=>.bl (decide (i<=j))):=rG λ_ _ _ _ _ _ _ q=>le_int q
def Gq:aM X (compareOp .Gt) (gc λi j=>.bl (decide (j<i))):=rG λ_ _ _ _ _ _ _ q=>gt_int q
def Gp:aM X (compareOp .Is) (λx y H Q=>y=.non/\Q (.bl (decide (x=.non))) H):=by
 intro b s σ H x y v u Q I a c h;obtain⟨rfl,q⟩:=h;cases c;refine is_none_gen (bF I q ?_);cases x<;>first
  | (cases a;rfl)
  | (obtain⟨t,rfl⟩:=a;rfl)
def Gj:aM X (compareOp .IsNot) (λx y H Q=>y=.non/\Q (.bl (!decide (x=.non))) H):=by
 intro b s σ H x y v u Q I a c h;obtain⟨rfl,q⟩:=h;cases c;refine isnot_none_gen (bF I q ?_);cases x<;>first
  | (cases a;rfl)
  | (obtain⟨t,rfl⟩:=a;rfl)
def aV(b:Expr){op:CmpOp}(h:op ≠ .In:=by decide)(c:op ≠ .NotIn:=by decide):behindInMarks op b=false:=by
 have a:(op == CmpOp.In)=false:=by cases op<;>first|rfl|exact Sd rfl h
 have d:(op == CmpOp.NotIn)=false:=by cases op<;>first|rfl|exact Sd rfl c
 cases b<;>simp[behindInMarks,a,d]
def FV{op:CmpOp}{r:R2}(f:aM X (compareOp op) r)(j:PE X a ta)(m:PE X b tb)(k:behindInMarks op b=false):PE X (.Compare a [op] [b] pos) (fW r ta tb):=by
 intro c s σ H Q I h;exact wpAny_Compare1 (uW j m I h λv u g x y e d i l q=>f c g σ e x y v u Q d i l q) k
def Ng(K:W.Frag)(x:V)(H:Hp)(k:Bool):Prop :=
 match x with
 | .non=>k=false
 | .bl b=>k=b
 | .int i=>k=(i != 0)
 | .str y=>y.length<=sizeLine/\k=((y.length:Int) != 0)
 | .byt y=>y.size<=sizeLine/\k=((y.size:Int) != 0)
 | .ref p=>(∃xs,aJ K H p xs/\k = !xs.isEmpty)\/(∃xs,bJ K H p xs/\k = !xs.isEmpty)\/∃kvs,H p=some (.dK kvs)/\k = !kvs.isEmpty
 | _=>False
def Id{κ:Type}{kvs:List (κ × V)}{vs:List (κ × Value)}(r:KV kvs vs):(!vs.isEmpty) = !kvs.isEmpty:=by
 cases r<;>rfl
def zb{xs:List V}{a:List Value}(r:ay xs a):(!a.toArray.isEmpty) = !xs.isEmpty:=by
 cases r<;>simp
def oZ:(sizeLine:Nat)<2 ^ 63:=by rw[sizeLine_eq];decide
def mD:Nh X (λx H Q=>∃k,Ng X.K x H k/\Q k H):=by
 intro g s σ H x v Q I d h;obtain⟨k,e,q⟩:=h;have l:=oZ;have j:sizeLine=16777216:=sizeLine_eq;cases x with
 | non =>
  cases d;have a:k=false:=e;subst a;exact truthy_none ⟨H,I,q⟩
 | bl b =>
  cases d;have a:k=b:=e;subst a;exact wpAny_truthy_bool ⟨H,I,q⟩
 | int i =>
  obtain⟨t,rfl⟩:=d;have a:k=(i != 0):=e;subst a;exact PySem.P.truthy_int ⟨H,I,q⟩
 | str y =>
  obtain⟨t,rfl⟩:=d;obtain⟨hy,a⟩:y.length<=sizeLine/\k=((y.length:Int) != 0):=e;subst a;exact PySem.P.truthy_str (by omega) ⟨H,I.tok _,q⟩
 | byt y =>
  obtain⟨t,rfl⟩:=d;obtain⟨hy,a⟩:y.size<=sizeLine/\k=((y.size:Int) != 0):=e;subst a;exact W.truthy_bytes (by omega) ⟨H,I.tok _,q⟩
 | ref p =>
  cases d;have a:(∃xs,aJ X.K H p xs/\k = !xs.isEmpty)\/(∃xs,bJ X.K H p xs/\k = !xs.isEmpty)\/∃kvs,H p=some (.dK kvs)/\k = !kvs.isEmpty:=e;rcases a with ⟨xs,hx,a⟩|⟨xs,hx,a⟩|⟨kvs,hx,a⟩
  ·subst a;obtain⟨f,r,pl,hz⟩:=I.list hx;have c:=r.length;exact wpAny_truthy_list pl.isList (by simp only [OE];omega) ⟨H,I.tok _,by rw[zb r];exact q⟩
  ·subst a;obtain⟨f,r,pl,hz⟩:=I.tuple hx;have c:=r.length;exact truthy_tuple pl (by simp only [OE];omega) ⟨H,I.tok _,by rw[zb r];exact q⟩
  ·subst a;obtain⟨hz,hS,vs,r,m⟩:kvs.length<=sizeLine/\(p == sysModules)=false/\∃vs,KV kvs vs/\s.heap.DictOf (bX X.prog X.w) p vs:=I.hok p _ hx;have c:kvs.length=vs.length:=Paired.length r;exact wpAny_truthy_dict hS m (by omega) ⟨H,I.tok _,by rw[Id r];exact q⟩
 | _=>exact (show False from e).elim
def jJ{x:V}{us:List Value}(r:ay [x] us):∃u,us=[u]/\ax x u:=by
 cases r with
 | cons r1 r2=>cases r2;exact⟨_,Z,r1⟩
def wH{x y:V}{us:List Value}(r:ay [x,y] us):∃u w',us=[u,w']/\ax x u/\ax y w':=by
 cases r with
 | cons r1 r2 =>
  cases r2 with
  | cons r3 r4=>cases r4;exact⟨_,_,Z,r1,r3⟩
end
structure jB (h:Heap) (x dx C:Addr) (mA:Str->Option Value):Prop where
 obj:h.get? x=some (W.instObj C dx)
 ns:h.Ns1 dx mA
 ne:dx≠x
def Hz{h:Heap}{dx:Addr}{mA:Str->Option Value}(n:h.Ns1 dx mA):∃od,h.get? dx=some od/\∀name,W.lookIn name od=some (mA name):=by
 obtain⟨o,es,ep,d,hd,c,_,f⟩:=n;refine⟨o,d,λname=>?_⟩;have e:=f name;unfold nsFind findBy at e;rw[<- Array.find?_toList]at e;unfold W.lookIn;rw[hd];dsimp only
 split
 ·rename_i y q;rw[q]at e;exact congrArg some e
 ·rename_i q;rw[q]at e;have a:es.toList.any (·.refKey)=false:=by
   rw[List.any_eq_false];intro y hy;obtain⟨z,t,b⟩:=c y (Array.mem_toList_iff.mp hy);simp[DictEntry.refKey,b]
  have g:¬es.toList.any (·.refKey)=true:=by rw[a];exact OL
  rw[Sb g];exact congrArg some e
def jB.look{h:Heap}{x dx C:Addr}{mA:Str->Option Value}(I:jB h x dx C mA):∃od,W.InstAt h x (W.instObj C dx) C (some od)/\∀name,W.lookIn name od=some (mA name) :=
 let ⟨od,ho,hl⟩:=Hz I.ns
 ⟨od,⟨I.obj,rfl,rfl,ho⟩,hl⟩
section
variable {prog:Program}{w:World}{A:Around}{E:Value->Shared->Prop}{s:Shared}{K:W.Frag}{x dx C f:Addr}{mA:Str->Option Value}{name:Str}{v:Value}
def JD{expr:Bool}{Q:Value->Shared->Prop}(X:K.In s.heap)(I:jB s.heap x dx C mA)(b:W.plainGet K C name=true)(d:W.hasDictIn K C=true)
 (e:W.findIn K (.ref C) name=some none) (c:mA name=some v) (a:W.handedIn v=true) (h:Q v { s with toks:=s.toks+1 }) :
 wpAny (model prog w) A (getAttr (.ref x) name expr) Q E s:=by
 obtain⟨g,J,f⟩:=I.look;exact W.get_value X J (W.plainGet_of b).1 (W.findObj_own d e rfl (by rw[f,c])) a h
def JC{pl:Sem Bool}{Q:Value × List Value->Shared->Prop}(X:K.In s.heap)(I:jB s.heap x dx C mA)(a:W.plainGet K C name=true)
 (d:W.findIn K (.ref C) name=some (some (.ref f))) (e:W.isFn K (.ref f)=true) (c:mA name=none) (h:Q (.ref f,[.ref x]) s) :
 wpAny (model prog w) A (getMethod (.ref x) name pl) Q E s:=by
 obtain⟨b,J,g⟩:=I.look;exact W.method_fn X J (W.plainGet_of a).1 (W.plainGet_of a).2 d (beq_iff_eq.mp e) (by show (W.lookIn name b).map (·.isSome)=some false;rw[g,c];rfl) h
def Dk{ns:List Str}{Q:Unit->Shared->Prop}(X:K.In s.heap)(I:jB s.heap x dx C mA)
 (g:W.findIn K (.ref C) "__setattr__" = some (some (.builtin "object.__setattr__"))) (k:W.plainOver K C=true) (j:W.takerIn K C name=some none) (i:W.hasDictIn K C=true)
 (hw:PySem.Within mA ns) (hsz:ns.length<=sizeLine)
 (h:∀h',jB h' x dx C (λy=>if y=name then some v else mA y)->Heap.SameBut dx s.heap h'->Q () { s with heap:=h',toks:=s.toks+2 }) :
 wpAny (model prog w) A (setAttr (.ref x) name v) Q E s:=by
 obtain⟨l,J,m⟩:=I.look;refine W.set_plain X J g (W.osa_open (s:={ s with toks:=s.toks+1 }) (r:=none) X J k j λb=>?_);obtain⟨cd,f,e⟩:=W.any_some i;have hx:s.heap.get? x=some ⟨.ref C,some dx,.plain,#[]⟩:=I.obj;refine on (Sa (on (on (wpAny_loadPart hx (on (W.Looks.here (s:={ s with toks:=s.toks+1 }) (W.looks_clsIn X f) ?_))))));rw[e];refine Sa (a:=some dx) (on (Sa (on ?_)));refine wpAny_nsSet1 (s:={ s with toks:=s.toks+1 }) I.ns λh' d c=>?_;obtain⟨oD,esD,epD,hoD,hdD,hcD⟩:=d.count (PySem.Within.cons name v hw);refine on (wpAny_lookBehind hoD (by rw[hdD];exact pastItsLine_dict (OJ hcD (by rw[OV];omega))) ?_);exact Sa (h _ ⟨(c.2 _ (Ne.symm I.ne)).trans I.obj,d,I.ne⟩ c)
def Hs{R:Result->Shared->Prop}{vs:List Value}{a:List (Str × Value)}(X:K.In s.heap)(c:W.makesIn K C=true)
 (e:W.findIn K (.ref C) "__init__" = some (some (.ref f))) (b:W.typeIn K (.ref f)=some (.type "function"))
 (h:codeAny (model prog w) (A.under (.builtin "type.__call__" ⟨.ref C::vs,a⟩)) (.call (.ref f) ⟨.ref (s.heap.objs.size+1)::vs,a⟩) (W.InitBack (s.heap.objs.size+1) R)
   { s with heap:=(s.heap.push W.emptyDict).push (W.instObj C s.heap.objs.size) }) :
 codeAny (model prog w) A (.call (.ref C) ⟨vs,a⟩) R s:=by
 obtain⟨i,g,d,t,os⟩:=s;exact W.make_core (W.makes_of X c) (W.looks_findIn X e) (λself=>W.bind_fn X self b) (.inl Z) h
def Hr{R:Result->Shared->Prop}(X:K.In s.heap)(a:W.makesIn K C=true)
 (c:W.findIn K (.ref C) "__init__" = some (some (.builtin "object.__init__")))
 (b:∀self,W.Looks (model prog w) s.heap (bindSpecial (.builtin "object.__init__") self) (.builtin "object.__init__",[self]))
 (h:codeAny (model prog w) (A.under (.builtin "type.__call__" ⟨[.ref C],[]⟩)) (.call (.builtin "object.__init__") ⟨[.ref (s.heap.objs.size+1)],[]⟩) (W.InitBack (s.heap.objs.size+1) R)
   { s with heap:=(s.heap.push W.emptyDict).push (W.instObj C s.heap.objs.size) }) :
 codeAny (model prog w) A (.call (.ref C) ⟨[],[]⟩) R s:=by
 obtain⟨e,g,d,t,os⟩:=s;exact W.make_core (W.makes_of X a) (W.looks_findIn X c) b (.inr ⟨rfl,rfl⟩) h
end
def cz(f:Str)(v:V):List (Str × V)->List (Str × V)
 | []=>[(f,v)]
 | (g,x)::r=>if g=f then (g,v)::r else (g,x)::cz f v r
theorem yW(f g:Str)(v:V):∀fs:List (Str × V),(cz f v fs).lookup g=if g=f then some v else fs.lookup g
 | []=>by
  show List.lookup g [(f,v)]=_;by_cases h:g=f
  ·have a:(g == f)=true:=beq_iff_eq.mpr h;simp only [List.lookup,a,Sc h]
  ·have a:(g == f)=false:=beq_eq_false_iff_ne.mpr h;simp only [List.lookup,a,Sb h]
 | (k,x)::r=>by
  have ih:=yW f g v r;rw[show cz f v ((k,x)::r)=(if k=f then (k,v)::r else (k,x)::cz f v r) from rfl];by_cases hk:k=f
  ·rw[Sc hk];by_cases h:g=k
   ·have a:(g == k)=true:=beq_iff_eq.mpr h;simp only [List.lookup,a,Sc (h.trans hk)]
   ·have a:(g == k)=false:=beq_eq_false_iff_ne.mpr h;simp only [List.lookup,a,Sb (λe:g=f=>h (e.trans hk.symm))]
  ·rw[Sb hk];by_cases h:g=k
   ·have a:(g == k)=true:=beq_iff_eq.mpr h;simp only [List.lookup,a,Sb (λe:g=f=>hk (h.symm.trans e))]
   ·have a:(g == k)=false:=beq_eq_false_iff_ne.mpr h;simp only [List.lookup,a];exact ih
theorem rX(f:Str)(v:V):∀fs:List (Str × V),f∈(cz f v fs).map (·.1)/\∀g,g∈fs.map (·.1)->g∈(cz f v fs).map (·.1)
 | []=>⟨by simp[cz],λg h=>by simp at h⟩
 | (k,x)::r=>by
  obtain⟨a,b⟩:=rX f v r;rw[show cz f v ((k,x)::r)=(if k=f then (k,v)::r else (k,x)::cz f v r) from rfl];by_cases hk:k=f
  ·rw[Sc hk];subst hk;exact⟨by simp,λg h=>by simpa using h⟩
  ·rw[Sb hk];refine⟨?_,λg h=>?_⟩
   ·rw[OD];exact OQ _ a
   ·rw[OD]at h ⊢;rcases OT.mp h with e|e
    ·exact OT.mpr (.inl e)
    ·exact OQ _ (b g e)
theorem yZ(f:Str)(v:V):∀fs:List (Str × V),(cz f v fs).length<=fs.length+1
 | []=>by simp[cz]
 | (k,x)::r=>by
  have ih:=yZ f v r;rw[show cz f v ((k,x)::r)=(if k=f then (k,v)::r else (k,x)::cz f v r) from rfl];by_cases hk:k=f
  ·rw[Sc hk,OV,OV];omega
  ·rw[Sb hk,OV,OV];omega
def cg.some_of{v:V}{o:Option Value}(r:cg (some v) o):∃u,o=some u/\ax v u:=by
 cases o with
 | none=>exact (show False from r).elim
 | some u=>exact⟨u,rfl,r⟩
def cg.none_of{o:Option Value}(r:cg none o):o=none:=by
 cases o with
 | none=>rfl
 | some u=>exact (show False from r).elim
def Iy{v:V}{u:Value}(r:ax v u):W.handedIn u=true:=by
 cases v with
 | non=>cases (show u=Value.none from r);rfl
 | bl b=>cases (show u=Value.bool b from r);rfl
 | int i=>obtain⟨t,e⟩:=(show ∃t,u=Value.int i t from r);cases e;rfl
 | str x=>obtain⟨t,e⟩:=(show ∃t,u=Value.str x t from r);cases e;rfl
 | byt b=>obtain⟨t,e⟩:=(show ∃t,u=Value.bytes b t from r);cases e;rfl
 | flt b=>obtain⟨t,e⟩:=(show ∃t,u=Value.float b t from r);cases e;rfl
 | ref a=>cases (show u=Value.ref a from r);rfl
 | ty n=>cases (show u=Value.type n from r);rfl
section
variable {P:Program}{w:World}{H H':Hp}{h h':Heap}{a C dx:Addr}{fs fs':List (Str × V)}
def pb(hok:bn P w H h)(e:H a=some (.ins C dx fs)):∃mA,jB h a dx C mA/\(∀f,cg (fs.lookup f) (mA f))/\PySem.Within mA (fs.map (·.1))/\fs.length<=1000/\H dx=some (.own a):=by
 obtain⟨d,z,ne,b,mA,n,r,q⟩:=(show bd P w H h a (.ins C dx fs) from hok a _ e);exact⟨mA,⟨b,n,ne⟩,r,q,z,d⟩
end
structure dO (K:W.Frag) (C:Addr):Prop where
 pg:W.plainGet K C Str.empty=true
 hd:W.hasDictIn K C=true
 po:W.plainOver K C=true
 sa:W.findIn K (.ref C) "__setattr__" = some (some (.builtin "object.__setattr__"))
def dO.get{K:W.Frag}{C:Addr}(c:dO K C)(f:Str):W.plainGet K C f=true:=c.pg
def fH(K:W.Frag)(C:Addr)(f:Str):Prop:=W.findIn K (.ref C) f=some none
def fH.taker{K:W.Frag}{C:Addr}{f:Str}(n:fH K C f):W.takerIn K C f=some none:=by
 unfold W.takerIn;rw[show W.findIn K (.ref C) f=some none from n]
 rfl
structure Od (K:W.Frag) (C:Addr) (f:Str) (v:V) (u:Value):Prop where
 at_:W.findIn K (.ref C) f=some (some u)
 rel:ax v u
 get:W.specialIn K u "__get__" = some none
 cp:W.copiedNames.contains f=false
structure bU (K:W.Frag) (C:Addr) (m:Str) (f:Addr):Prop where
 at_:W.findIn K (.ref C) m=some (some (.ref f))
 fn:W.isFn K (.ref f)=true
 kp:W.keepIn K (.ref f)=true
section
variable {X:Cx}{pins:List (Addr × Obj)}{σ:St}{H:Hp}{s:Shared}{a C dx:Addr}{fs:List (Str × V)}{f:Str}{v:V}{A:Around}{E:Value->Shared->Prop}
def JA{b:Bool}{Q:Value->Shared->Prop}(I:ae X pins σ H s)(e:H a=some (.ins C dx fs))(c:dO X.K C)(n:fH X.K C f)(l:fs.lookup f=some v)
 (h:∀u s',ae X pins σ H s'->ax v u->Q u s'):wpAny (model X.prog X.w) A (getAttr (.ref a) f b) Q E s:=by
 obtain⟨mA,O,r,_,_,_⟩:=pb I.hok e;obtain⟨u,g,d⟩:=cg.some_of (v:=v) (o:=mA f) (by rw[<- l];exact r f);exact JD I.kIn O (c.get f) c.hd n g (Iy d) (h u _ (I.tok _) d)
def zD{m:Str}{g:Addr}{pl:Sem Bool}{Q:Value × List Value->Shared->Prop}(I:ae X pins σ H s)(e:H a=some (.ins C dx fs))(c:dO X.K C)(k:bU X.K C m g)(l:fs.lookup m=none)
 (h:Q (.ref g,[.ref a]) s):wpAny (model X.prog X.w) A (getMethod (.ref a) m pl) Q E s:=by
 obtain⟨mA,O,r,_,_,_⟩:=pb I.hok e;have b:mA m=none:=cg.none_of (by rw[<- l];exact r m);exact JC I.kIn O (c.get m) k.at_ k.fn b h
def Dj{y:V}{u:Value}{Q:Unit->Shared->Prop}(I:ae X pins σ H s)(e:H a=some (.ins C dx fs))(c:dO X.K C)(n:fH X.K C f)(v:fs.length<1000)(p:ax y u)
 (h:∀s',ae X pins σ (upd H a (.ins C dx (cz f y fs))) s'->Q () s'):wpAny (model X.prog X.w) A (setAttr (.ref a) f u) Q E s:=by
 obtain⟨mA,O,r,j,_,i⟩:=pb I.hok e;have hz:(fs.map (·.1)).length<=sizeLine:=by rw[On,sizeLine_eq];omega
 refine Dk I.kIn O c.sa c.po n.taker c.hd j hz λh' d m=>h _ ?_;have hd:∃o,h'.get? dx=some o:=let ⟨o,_,_,e',_⟩:=d.ns;⟨o,e'⟩
 refine I.write (x:=a) (e:=dx) (by rw[e];exact True.intro) (.inr i) (λb q l z=>(m.2 b l).trans z) hd ?_;refine⟨by rw[am O.ne];exact i,?_,O.ne,d.obj,_,d.ns,λg=>?_,λg k=>?_⟩
 ·have:=yZ f y fs;omega
 ·show cg ((cz f y fs).lookup g) (if g=f then some u else mA g);rw[yW];by_cases q:g=f
  ·rw[Sc q,Sc q];exact p
  ·rw[Sb q,Sb q];exact r g
 ·by_cases q:g=f
  ·rw[q];exact (rX f y fs).1
  ·refine (rX f y fs).2 g (j g λz=>k ?_);show (if g=f then some u else mA g)=none;rw[Sb q];exact z
def ae.made(I:ae X pins σ H s):ae X pins σ (upd (upd H s.heap.objs.size (.own (s.heap.objs.size+1))) (s.heap.objs.size+1) (.ins C s.heap.objs.size []))
 { s with heap:=(s.heap.push W.emptyDict).push (W.instObj C s.heap.objs.size) }:=by
 have c:(s.heap.push W.emptyDict).get? s.heap.objs.size=some W.emptyDict:=OB s.heap rfl;have f:((s.heap.push W.emptyDict).push (W.instObj C s.heap.objs.size)).get? (s.heap.objs.size+1)=some (W.instObj C s.heap.objs.size):=by
  have:=OB (s.heap.push W.emptyDict) (o:=W.instObj C s.heap.objs.size) rfl
  rwa [Pp]at this
 have h:(s.heap.push W.emptyDict).Ns s.heap.objs.size (λ_=>none):=⟨W.emptyDict,#[],_,c,rfl,(λe g=>Sd g (by simp)),λ_=>rfl⟩;have d:=I.laid (a:=s.heap.objs.size) (o:=.own (s.heap.objs.size+1)) (h':=s.heap.push W.emptyDict) (t':=s.toks) (λb u q=>Ow _ q) (Oo _) ⟨_,c⟩;refine d.laid (a:=s.heap.objs.size+1) (o:=.ins C s.heap.objs.size []) (t':=s.toks) (λb u q=>Ow _ q) (P2 (Pp _ _)) ?_;have ne:s.heap.objs.size≠s.heap.objs.size+1:=OC (Pb _);refine⟨by rw[am ne,aP],Ox _,ne,f,λ_=>none,(Heap.Ns1.of_empty h).at λo q=>Ow _ q,λ_=>True.intro,λy hy=>Sd rfl hy⟩
def M5{prog:Program}{w:World}{env:Env}{e:Expr}{f:Str}{pos:Pos}{s:Shared}{Q:Value->Shared->Prop}(b:attributeBase e f env (eval e env)=eval e env)
 (h:wpAny (model prog w) A (eval e env) (λo a=>wpAny (model prog w) A (getAttr o f true) Q E a) E s):wpAny (model prog w) A (eval (.Attribute e f pos) env) Q E s :=
 Attribute_any_ h (by rw[arm_eval_Attribute,b])
end
def xa(K:W.Frag)(c:TE)(f:Str):TE:=λσ H Q=>c σ H λx b=>∃a C dx fs v,x=.ref a/\b a=some (.ins C dx fs)/\dO K C/\fH K C f/\fs.lookup f=some v/\Q v b
def xH(K:W.Frag)(c d:TE)(f:Str):TS:=λD σ H=>d σ H λy e=>c σ e λx b=>∃a C dx fs,x=.ref a/\b a=some (.ins C dx fs)/\dO K C/\fH K C f/\fs.length<1000 /\
 D.nx σ (upd b a (.ins C dx (cz f y fs)))
section
variable {X:Cx}{o e value:Expr}{f:Str}{pos pos' tpos:Pos}{ta tv:TE}
def FO(i:PE X e ta)(p:attributeBase e f X.env (eval e X.env)=eval e X.env):PE X (.Attribute e f pos) (xa X.K ta f):=by
 intro b s σ H Q I h;refine M5 p (ap (i b s σ H _ I h) λu s1 ⟨x,o,g,k,a,C,dx,fs,v,ex,m,c,n,l,q⟩=>?_);subst ex;obtain rfl:u=Value.ref a:=k;exact JA g m c n l λy r d j=>⟨v,o,d,j,q⟩
def Fc(p:PE X o ta)(j:PE X value tv)(k:swapsWith value (some (.Attribute o f pos')) pos.line X.env=pure false):PS X (.Assign [.Attribute o f pos'] value pos) (xH X.K ta tv f):=by
 intro b s σ H D I h;refine plainObj_wpAny_Assign_Attribute (ap (j b s σ H _ I h) λu s1 ⟨y,z,g,r,q⟩=>ap (p b s1 σ z _ g q) λB J ⟨x,F,e,m,a,C,dx,fs,ex,v,c,n,l,d⟩=>?_) k;subst ex;obtain rfl:B=Value.ref a:=m;exact Dj e v c n l r λG i=>⟨σ,_,i,d⟩
end
section
variable {X:Cx}{pins:List (Addr × Obj)}{σ:St}{H:Hp}{s:Shared}{A:Around}{E:Value->Shared->Prop}{Q:Value->Shared->Prop}{c:Value}{b:Bool}
inductive cQ (K:W.Frag) (H:Hp):V->Value->Prop where
 | non:cQ K H .non (.type "NoneType")
 | bl (x:Bool):cQ K H (.bl x) (.type "bool")
 | int (i:Int):cQ K H (.int i) (.type "int")
 | str (x:Str):cQ K H (.str x) (.type "str")
 | flt (x:UInt64):cQ K H (.flt x) (.type "float")
 | lst {a:Addr} {xs:List V} (e:H a=some (.lst xs)):cQ K H (.ref a) (.type "list")
 | frz {a:Addr} {o:Obj} {xs:List V} (e:H a=some (.frz o (.lst xs))):cQ K H (.ref a) (.type "list")
 | tup {a:Addr} {xs:List V} (e:H a=some (.tup xs)):cQ K H (.ref a) (.type "tuple")
 | dK {a:Addr} {kvs:List (aw × V)} (e:H a=some (.dK kvs)):cQ K H (.ref a) (.type "dict")
 | dT {a:Addr} {kvs:List (List aw × V)} (e:H a=some (.dT kvs)):cQ K H (.ref a) (.type "dict")
 | ins {a C dx:Addr} {fs:List (Str × V)} (e:H a=some (.ins C dx fs)) (cl:dO K C) (ha:W.findIn K (.ref C) "__class__" = some (some (.builtin "object.__class__")))
  (hn:W.specialIn K (.builtin "object.__class__") "__get__" = some (some (.builtin "getset_descriptor.__get__"))) (htk:W.takesIn K (.builtin "object.__class__")=some true)
  (hm:W.mroIn K C (.type "object")=some true):cQ K H (.ref a) (.ref C)
def za{x:V}{u t:Value}(I:ae X pins σ H s)(d:ax x u)(ty:cQ X.K H x t)(e:W.kitOne X.K t c=some b)(h:∀tk,Q (.bool b) { s with toks:=tk }) :
 wpAny (model X.prog X.w) A (call (.builtin "isinstance") [u,c]) Q E s:=by
 cases ty with
 | non=>cases (show u=Value.none from d);exact W.kia_one W.kitx_none I.kIn True.intro e (λz=>nomatch z) h
 | bl y=>cases (show u=Value.bool y from d);exact W.kia_one W.kitx_bool I.kIn True.intro e (λz=>nomatch z) h
 | int i=>obtain⟨t,q⟩:=(show ∃t,u=Value.int i t from d);cases q;exact W.kia_one W.kitx_int I.kIn True.intro e (λz=>nomatch z) h
 | str y=>obtain⟨t,q⟩:=(show ∃t,u=Value.str y t from d);cases q;exact W.kia_one W.kitx_str I.kIn True.intro e (λz=>nomatch z) h
 | flt y=>obtain⟨t,q⟩:=(show ∃t,u=Value.float y t from d);cases q;exact W.kia_one W.kitx_float I.kIn True.intro e (λz=>nomatch z) h
 | @lst a xs ea =>
  cases (show u=Value.ref a from d);obtain⟨_,_,n,_,f⟩:=(show bd X.prog X.w H s.heap a (.lst xs) from I.hok a _ ea);exact W.kia_one W.kitx_list I.kIn ⟨_,f,rfl⟩ e (λz=>nomatch z) h
 | @frz a ob xs ea =>
  cases (show u=Value.ref a from d);obtain⟨_,_,_,n,_,f⟩:=(show bd X.prog X.w H s.heap a (.frz ob (.lst xs)) from I.hok a _ ea);exact W.kia_one W.kitx_list I.kIn ⟨_,f,rfl⟩ e (λz=>nomatch z) h
 | @tup a xs ea =>
  cases (show u=Value.ref a from d);obtain⟨_,_,_,p⟩:=(show bd X.prog X.w H s.heap a (.tup xs) from I.hok a _ ea);obtain⟨o,f,g,_⟩:=p;exact W.kia_one W.kitx_tuple I.kIn ⟨o,f,g⟩ e (λz=>nomatch z) h
 | @dK a kvs ea =>
  cases (show u=Value.ref a from d);obtain⟨_,_,vs,_,p⟩:=(show bd X.prog X.w H s.heap a (.dK kvs) from I.hok a _ ea);obtain⟨o,es,ep,f,g,_⟩:=p;exact W.kia_one W.kitx_dict I.kIn ⟨o,f,g.1⟩ e (λz=>nomatch z) h
 | @dT a kvs ea =>
  cases (show u=Value.ref a from d);obtain⟨_,_,xs,_,o,es,ep,f,g,_⟩:=(show bd X.prog X.w H s.heap a (.dT kvs) from I.hok a _ ea);exact W.kia_one W.kitx_dict I.kIn ⟨o,f,g.1⟩ e (λz=>nomatch z) h
 | @ins a C dx fs ea cl ha hn htk hm =>
  cases (show u=Value.ref a from d);obtain⟨mA,O,_⟩:=pb I.hok ea;obtain⟨j,J,_⟩:=O.look;exact W.kia_one (W.kitx_own (cl.get _) cl.hd ha hn htk hm) I.kIn J e (λz=>nomatch z) h
end
structure bj (k:Nat) (A:Around):Prop where
 hd:A.handled=none
 dp:A.depth+3*k+5<recursionLimit
 un:A.units+16*k+200<cLine
def bj.mono{j k:Nat}{A:Around}(r:bj k A)(h:j<=k):bj j A:=⟨r.hd,by have:=r.dp;omega,by have:=r.un;omega⟩
def bj.deeper{k:Nat}{A:Around}(r:bj (k+1) A)(env:Env):bj k (A.deeper env) :=
 ⟨r.hd,by have:=r.dp;show A.depth+1+3*k+5<_;omega,by have:=r.un;show A.units+3+16*k+200<_;omega⟩
def bj.in1{k:Nat}{A:Around}(r:bj (k+1) A):bj k A.in1 :=
 ⟨r.hd,by have:=r.dp;show A.depth+3*k+5<_;omega,by have:=r.un;show A.units+1+16*k+200<_;omega⟩
def Ht {A:Around} {C:Addr} {us:List Value} {a:List (Str × Value)}:(A.under (.builtin "type.__call__" ⟨.ref C::us,a⟩)).depth=A.depth+1:=by
 first|rfl|simp[Around.under,Code.weight,Code.isCreation,Code.isGuard,Code.isCaller,Code.frames,Code.isFrame,guardIds]
def Hq {A:Around} {C:Addr} {us:List Value} {a:List (Str × Value)}:(A.under (.builtin "type.__call__" ⟨.ref C::us,a⟩)).units=A.units+1:=by
 first|rfl|simp[Around.under,Code.cUnits,Code.frames,Code.isFrame]
def bj.make {k:Nat} {A:Around} (r:bj (k+1) A) (C:Addr) (us:List Value) (a:List (Str × Value)):bj k (A.under (.builtin "type.__call__" ⟨.ref C::us,a⟩)) :=
 ⟨r.hd,by have:=r.dp;rw[Ht];omega,by have:=r.un;rw[Hq];omega⟩
def bj.depth{k:Nat}{A:Around}(r:bj k A):A.depth<recursionLimit:=by have:=r.dp;omega
def bj.units{k:Nat}{A:Around}(r:bj k A):A.units+64<cLine:=by have:=r.un;omega
def fX:TA:=λ_ H Q=>Q [] H
def qN(a:TE)(d:TA):TA:=λσ H Q=>a σ H λx b=>d σ b λxs c=>Q (x::xs) c
section
variable {X:Cx}{e:Expr}{es:List Expr}{te:TE}{t:TA}{pos:Pos}
def yt:PA X [] fX:=λ_ _ _ _ H Q I h=>Calls.spliced_nil ⟨[],H,I,.nil,h⟩
def Ge(k:PE X e te)(n:PA X es t)(i:starEach (e::es) X.env=(false,eval e X.env)::starEach es X.env:=by rfl):PA X (e::es) (qN te t):=by
 intro pos a s σ H Q I h;rw[i];show wpAny _ _ (spliced ((false,eval e X.env)::backTo pos (starEach es X.env))) _ _ s;refine Calls.spliced_cons (ap (k a s σ H _ I h) λu s1 ⟨x,m,f,j,l⟩=>?_);exact ap (n pos a s1 σ m _ f l) λus o ⟨xs,d,c,g,b⟩=>⟨x::xs,d,c,.cons j g,b⟩
end
abbrev Sp:=List V->Hp->VK->XK->Prop
abbrev eQ:=List Env->Hp->Shared->XK->Value->Shared->Prop
structure fk (P:Program) (w:World) (K:W.Frag) (mg:Str->Option Value) (base:Heap) (A:Around) (outer:List Env) (s:Shared) (H:Hp):Prop where
 frames:A.frames=some outer
 mod:Mod K mg base
 bs:∀b o,base.get? b=some o->s.heap.get? b=some o/\H b=none
 bsz:base.objs.size<=s.heap.objs.size
 funs:s.heap.FunFrames base outer
 frf:∀b∈dg outer,H b=none
 hok:bn P w H s.heap
 bare:AllBare s.gens
def CE(outer:List Env)(P:Program)(w:World)(H:Hp)(s:Shared)(Q:VK)(u:Value)(a:Shared):Prop :=
 ∃v H',a.os=s.os/\AllBare a.gens/\Un (dg outer) [] H H' s.heap a.heap/\bn P w H' a.heap/\ax v u/\Q v H'
def CR(CX:eQ)(outer:List Env)(P:Program)(w:World)(H:Hp)(s:Shared)(Q:VK)(E:XK)(r:Result)(a:Shared):Prop :=
 match r with
 | .ok (.ret u)=>CE outer P w H s Q u a
 | .ok _=>False
 | .error e=>CX outer H s E e a
structure bD (P:Program) (w:World) (K:W.Frag) (mg:Str->Option Value) (base:Heap) (CX:eQ) (k:Nat) (f:Addr) (fd:FuncData) (ps:List Str) (sp:Sp):Prop where
 len:∀vs H Q E,sp vs H Q E->vs.length=ps.length
 run:∀(A:Around) (outer:List Env) (s:Shared) (H:Hp) (args:Args) (us:List Value) (vs:List V) (Q:VK) (E:XK),bj k A->fk P w K mg base A outer s H->BindsTo s fd args (ps.zip us)->ay vs us->sp vs H Q E ->
  codeAny (model P w) A (.call (.ref f) args) (CR CX outer P w H s Q E) s
def fk.make{P:Program}{w:World}{K:W.Frag}{mg:Str->Option Value}{base:Heap}{A:Around}{outer:List Env}{s:Shared}{H:Hp}(e:fk P w K mg base A outer s H)(C:Addr)(us:List Value)(a:List (Str × Value)) :
 fk P w K mg base (A.under (.builtin "type.__call__" ⟨.ref C::us,a⟩)) outer s H:=⟨by first|exact e.frames|(simpa [Around.under,Code.envs,Code.isFrame,pushEnvs] using e.frames),e.mod,e.bs,e.bsz,e.funs,e.frf,e.hok,e.bare⟩
def fk.in1{P:Program}{w:World}{K:W.Frag}{mg:Str->Option Value}{base:Heap}{A:Around}{outer:List Env}{s:Shared}{H:Hp}(e:fk P w K mg base A outer s H) :
 fk P w K mg base A.in1 outer s H:=⟨e.frames,e.mod,e.bs,e.bsz,e.funs,e.frf,e.hok,e.bare⟩
section
variable {X:Cx}{pins:List (Addr × Obj)}{σ:St}{H:Hp}{s s':Shared}
def ae.env0(I:ae X pins σ H s):fk X.prog X.w X.K X.mg X.base X.A X.stack s H :=
 ⟨I.ok.frames,I.ok.mod,I.bs,OJ I.ok.bsz I.sz,I.stack,I.stkFree,I.hok,I.bare⟩
def ae.after{Q:VK}{u:Value}(I:ae X pins σ H s)(h:CE X.stack X.prog X.w H s Q u s'):EP X pins σ Q u s':=by
 obtain⟨v,H',os,bare,un,hok,r,q⟩:=h;obtain⟨c,g,d,t,a⟩:=s';obtain rfl:a=s.os:=os;exact⟨v,H',I.call (h':=c) (g':=g) (d':=d) (t':=t) (ch:=[]) un hok bare (λb z=>Sd z (by simp)),r,q⟩
end
def qO(sp:Sp)(a:List V)(E:XK)(t:TA):TE:=λσ H Q=>t σ H λvs b=>sp (vs++a) b Q E
def eh(C:Addr)(m:Str)(sp:Sp)(b:List V)(E:XK)(d:TE)(t:TA):TE:=λσ H Q=>d σ H λx c=>∃a dx fs,x=.ref a/\c a=some (.ins C dx fs)/\fs.lookup m=none /\
 t σ c λvs e=>sp (x::(vs++b)) e Q E
def w4(C:Addr)(sp:Sp)(b:List V)(E:XK)(t:TA):TE:=λσ H Q=>t σ H λvs a=>∀x dx,a x=none->a dx=none->dx≠x ->
 sp (.ref x::(vs++b)) (upd (upd a dx (.own x)) x (.ins C dx [])) (λv c=>v=.non/\Q (.ref x) c) E
def az(K:W.Frag)(a:FuncData)(ps:List Str)(ds:List Value):Prop :=
 ∀(s:Shared) (us:List Value),K.In s.heap->(us++ds).length=ps.length->BindsTo s a ⟨us,[]⟩ (ps.zip (us++ds))
def az.all{K:W.Frag}{b:FuncData}{ps:List Str}(h:∀us:List Value,us.length=ps.length->bindArgs b ⟨us,[]⟩=pure (ps.zip us)):az K b ps []:=λs us _ a=>by
 rw[Pg]at a ⊢;exact .of_eq (h us a)
def iM(CX:eQ)(X:Cx)(E:XK):Prop:=∀(a:List (Addr × Obj)) (σ:St) (H:Hp) (s:Shared) (e:Value) (b:Shared),ae X a σ H s->CX X.stack H s E e b->X.xe e b
section
variable {X:Cx}{CX:eQ}{k:Nat}{f C:Addr}{fd:FuncData}{ps:List Str}{sp:Sp}{dvs:List V}{ds:List Value}{E:XK}{x m:Str}{p pos apos:Pos}{e o:Expr}{es:List Expr}{ta:TE}{t:TA}
def rf{a:List (Addr × Obj)}{σ:St}{H:Hp}{s:Shared}{Q:VK}{us:List Value}{vs:List V}(F:bD X.prog X.w X.K X.mg X.base CX k f fd ps sp)(j:bj k X.A)(d:az X.K fd ps ds)(hd:ay dvs ds)(hx:iM CX X E)
 (I:ae X a σ H s) (r:ay vs us) (h:sp (vs++dvs) H Q E):wpAny (model X.prog X.w) X.A (call (.ref f) us) (EP X a σ Q) X.xe s:=by
 have c:ay (vs++dvs) (us++ds):=r.append hd;have i:(us++ds).length=ps.length:=by rw[<- c.length];exact F.len _ _ _ _ h
 refine wpAny_call (codeAny_mono (F.run X.A X.stack s H ⟨us,[]⟩ (us++ds) (vs++dvs) Q E j I.env0 (d s us I.kIn i) c h) λr g b=>?_);cases r with
 | error e=>exact hx a σ H s e g I b
 | ok fl =>
  cases fl with
  | ret u=>exact I.after b
  | next=>exact False.elim b
  | brk=>exact False.elim b
  | cont=>exact False.elim b
def FY(F:bD X.prog X.w X.K X.mg X.base CX k f fd ps sp)(o:bj k X.A)(i:Gl X x)(m:X.mg x=some (.ref f))(g:W.keepIn X.K (.ref f)=true)(n:az X.K fd ps ds)(hd:ay dvs ds)(hx:iM CX X E)
 (l:PA X (e::es) t) (c:(x == ("__debug__" : Str))=false:=by decide) (j:starEach (e::es) X.env=(false,eval e X.env)::starEach es X.env:=by rfl) (b:(backTo pos (starEach es X.env)).any (·.1)=false:=by rfl) :
 PE X (.Call (.Name x p) (e::es) [] pos) (qO sp dvs E t):=by
 intro a s σ H Q I h;refine wpAny_Call_Name_kw (o6 I i m ?_ c);refine W.callWith_K (h₀:=X.base) I.ok.mod.kin g (ap (l pos a s σ H _ I h) λus s1 ⟨vs,u,d,r,q⟩=>⟨d.kIn,?_⟩) j b;exact rf F o n hd hx d r q
def yo{pl:Sem Bool}(v:PE X o ta)(c:dO X.K C)(n:bU X.K C m f)(F:bD X.prog X.w X.K X.mg X.base CX k f fd ps sp)(L:bj k X.A)(J:az X.K fd ps ds)(hd:ay dvs ds)(hx:iM CX X E)(B:PA X (e::es) t)
 (g:starEach (e::es) X.env=(false,eval e X.env)::starEach es X.env:=by rfl) (d:(backTo pos (starEach es X.env)).any (·.1)=false:=by rfl)
 (y:eval (.Call (.Attribute o m apos) (e::es) [] pos) X.env=(do
   let ov <- eval o X.env
   standAt apos.atName
   let (f,first) <- holding [ov] (getMethod ov m pl)
   callWith pos f first (backTo pos (starEach (e::es) X.env)) (backToKw pos (keywordEach [] X.env))):=by rfl) :
 PE X (.Call (.Attribute o m apos) (e::es) [] pos) (eh C m sp dvs E ta t):=by
 intro b s σ H Q I h;refine W.methodCall_KW (pl:=pl) (ap (v b s σ H _ I h) λu s1 ⟨x,G,j,z,a,dx,fs,ex,D,l,q⟩=>?_) y;subst ex;obtain rfl:u=Value.ref a:=z;refine zD j D c n l ?_;refine W.callWith_K (first:=[.ref a]) (h₀:=X.base) I.ok.mod.kin n.kp (ap (B pos b s1 σ G _ j q) λus N ⟨vs,M,i,r,p⟩=>⟨i.kIn,?_⟩) g d;exact rf (us:=.ref a::us) (vs:=.ref a::vs) F L J hd hx i (.cons Z r) p
def FK{pl:Sem Bool}(g:PE X o ta)(c:dO X.K C)(e:bU X.K C m f)(F:bD X.prog X.w X.K X.mg X.base CX k f fd ps sp)(r:bj k X.A)(p:az X.K fd ps ds)(hd:ay dvs ds)(hx:iM CX X E)
 (j:eval (.Call (.Attribute o m apos) [] [] pos) X.env=(do
   let ov <- eval o X.env
   standAt apos.atName
   let (f,first) <- holding [ov] (getMethod ov m pl)
   callWith pos f first (backTo pos (starEach [] X.env)) (backToKw pos (keywordEach [] X.env))):=by rfl) :
 PE X (.Call (.Attribute o m apos) [] [] pos) (eh C m sp dvs E ta fX):=by
 intro b s σ H Q I h;refine W.methodCall_KW (pl:=pl) (ap (g b s σ H _ I h) λu s1 ⟨x,v,d,i,a,dx,fs,ex,n,l,q⟩=>?_) j;subst ex;obtain rfl:u=Value.ref a:=i;refine zD d n c e l ?_;exact W.callWith_K0 (first:=[.ref a]) d.kIn e.kp (rf (us:=[.ref a]) (vs:=[.ref a]) F r p hd hx d (.cons rfl .nil) q)
structure Mk (K:W.Frag) (C f:Addr):Prop where
 makes:W.makesIn K C=true
 init:W.findIn K (.ref C) "__init__" = some (some (.ref f))
 fn:W.isFn K (.ref f)=true
 kp:W.keepIn K (.ref C)=true
def DX{a:List (Addr × Obj)}{σ:St}{H:Hp}{s:Shared}{Q:VK}{us:List Value}{vs:List V}(M:Mk X.K C f)(F:bD X.prog X.w X.K X.mg X.base CX k f fd ps sp)(p:bj (k+1) X.A)(o:az X.K fd ps ds)(hd:ay dvs ds)
 (hx:iM CX X E) (I:ae X a σ H s) (r:ay vs us)
 (h:∀x dx,H x=none->H dx=none->dx≠x->sp (.ref x::(vs++dvs)) (upd (upd H dx (.own x)) x (.ins C dx [])) (λv j=>v=.non/\Q (.ref x) j) E) :
 wpAny (model X.prog X.w) X.A (call (.ref C) us) (EP X a σ Q) X.xe s:=by
 have g:=h (s.heap.objs.size+1) s.heap.objs.size (I.hok.fresh (Pk _)) (I.hok.fresh (Oo _)) (OC (Pb _));have c:=ae.made (C:=C) I;have d:ay (V.ref (s.heap.objs.size+1)::(vs++dvs)) (Value.ref (s.heap.objs.size+1)::(us++ds)):=.cons rfl (r.append hd);have m:(Value.ref (s.heap.objs.size+1)::us++ds).length=ps.length:=by
  have e:=d.length;rw[F.len _ _ _ _ g]at e;exact e.symm
 refine wpAny_call (Hs (f:=f) I.kIn M.makes M.init (beq_iff_eq.mp M.fn) (codeAny_mono (F.run _ X.stack _ _ ⟨Value.ref (s.heap.objs.size+1)::us,[]⟩ (Value.ref (s.heap.objs.size+1)::(us++ds)) _ _ E (p.make C us [])
  (c.env0.make C us []) (o _ (Value.ref (s.heap.objs.size+1)::us) c.kIn m) d g) λr n b=>?_))
 cases r with
 | error e=>exact hx a σ _ _ e n c b
 | ok fl =>
  cases fl with
  | ret u =>
   obtain⟨v,H',l,y,i,q⟩:=c.after b;subst i;exact⟨y,⟨V.ref (s.heap.objs.size+1),H',l,Z,q⟩⟩
  | next=>exact False.elim b
  | brk=>exact False.elim b
  | cont=>exact False.elim b
def FL(M:Mk X.K C f)(F:bD X.prog X.w X.K X.mg X.base CX k f fd ps sp)(n:bj (k+1) X.A)(g:Gl X x)(l:X.mg x=some (.ref C))(m:az X.K fd ps ds)(hd:ay dvs ds)(hx:iM CX X E)
 (j:PA X (e::es) t) (c:(x == ("__debug__" : Str))=false:=by decide) (i:starEach (e::es) X.env=(false,eval e X.env)::starEach es X.env:=by rfl) (b:(backTo pos (starEach es X.env)).any (·.1)=false:=by rfl) :
 PE X (.Call (.Name x p) (e::es) [] pos) (w4 C sp dvs E t):=by
 intro a s σ H Q I h;refine wpAny_Call_Name_kw (o6 I g l ?_ c);refine W.callWith_K (h₀:=X.base) I.ok.mod.kin M.kp (ap (j pos a s σ H _ I h) λus s1 ⟨vs,o,d,r,q⟩=>⟨d.kIn,?_⟩) i b;exact DX M F n m hd hx d r q
end
section
variable {X:Cx}{CX:eQ}{k:Nat}{f C:Addr}{fd:FuncData}{ps ks:List Str}{sp:Sp}{E:XK}{x m:Str}{p pos apos kpos:Pos}{e o:Expr}{es:List Expr}{kws:List Keyword}{te ta:TE}{t tk:TA}{nm:Option Str}
structure N2 (K:W.Frag) (fd:FuncData) (ps ks:List Str) (g:List Value->List Value->List Value) (gV:List V->List V->List V):Prop where
 to:∀(s:Shared) (us ws:List Value),K.In s.heap->(g us ws).length=ps.length->BindsTo s fd ⟨us,ks.zip ws⟩ (ps.zip (g us ws))
 rel:∀ {vs:List V} {us:List Value} {zs:List V} {ws:List Value},ay vs us->ay zs ws->ay (gV vs zs) (g us ws)
variable {g:List Value->List Value->List Value}{gV:List V->List V->List V}
end
structure aL (N P:List Str) (sc:Scope):Prop where
 kind:sc.kind=.function
 co:sc.isCoroutine=false
 gen:sc.isGenerator=false
 nd:N.Nodup
 pre:N.take P.length=P
 par:∀x∈P,sc.names.lookup x=some .local\/sc.names.lookup x=some .cell
 nofree:∀y∈sc.names,y.2 ≠ .free
theorem AC{kindOf:Str->Option NameKind}{x:Str}:∀ {binds:List (Str × Value)} {m:Str->Option Value},(∀v,(x,v)∉binds)->bindL kindOf binds m x=m x
 | [],_,_=>rfl
 | (n,v)::r,m,h=>by
  unfold bindL;rw[AC λw hw=>h w (OQ _ hw)]
  split
  ·have:x≠n:=by rintro rfl;exact h v OP
   simp[this]
  ·rfl
theorem AE{kindOf:Str->Option NameKind}{x:Str}:∀ {binds:List (Str × Value)} {m:Str->Option Value},(∀v,(x,v)∉binds)->bindC kindOf binds m x=m x
 | [],_,_=>rfl
 | (n,v)::r,m,h=>by
  unfold bindC;rw[AE λw hw=>h w (OQ _ hw)]
  split
  ·rfl
  ·have:x≠n:=by rintro rfl;exact h v OP
   simp[this]
theorem AD{kindOf:Str->Option NameKind}{x:Str}{v:Value}:∀ {P:List Str} {vs:List Value} {i:Nat} {m:Str->Option Value},P.Nodup->P[i]? = some x->vs[i]? = some v->kindOf x=some .local ->
 bindL kindOf (P.zip vs) m x=some v
 | [],_,_,_,_,h,_,_=>by simp at h
 | _::_,[],_,_,_,_,h,_=>by simp at h
 | p::P,w::vs,0,m,nd,h1,h2,hk=>by
  simp at h1 h2;subst h1;subst h2;show bindL kindOf ((p,w)::P.zip vs) m p=_;unfold bindL;rw[AC λv a=>(Ph.mp nd).1 (QU a).1,Sc hk];simp
 | p::P,w::vs,i+1,m,nd,h1,h2,hk=>by
  show bindL kindOf ((p,w)::P.zip vs) m x=_;unfold bindL;exact AD (i:=i) (Ph.mp nd).2 (by simpa using h1) (by simpa using h2) hk
theorem AF{kindOf:Str->Option NameKind}{x:Str}{v:Value}:∀ {P:List Str} {vs:List Value} {i:Nat} {m:Str->Option Value},P.Nodup->P[i]? = some x->vs[i]? = some v->kindOf x≠some .local ->
 bindC kindOf (P.zip vs) m x=some v
 | [],_,_,_,_,h,_,_=>by simp at h
 | _::_,[],_,_,_,_,h,_=>by simp at h
 | p::P,w::vs,0,m,nd,h1,h2,hk=>by
  simp at h1 h2;subst h1;subst h2;show bindC kindOf ((p,w)::P.zip vs) m p=_;unfold bindC;rw[AE λv a=>(Ph.mp nd).1 (QU a).1,Sb hk];simp
 | p::P,w::vs,i+1,m,nd,h1,h2,hk=>by
  show bindC kindOf ((p,w)::P.zip vs) m x=_;unfold bindC;exact AF (i:=i) (Ph.mp nd).2 (by simpa using h1) (by simpa using h2) hk
def fK(N:List Str)(vs:List V):St:=vs.map some++List.replicate (N.length-vs.length) none
def ib(CX:eQ)(P:Program)(w:World)(K:W.Frag)(mg:Str->Option Value)(base:Heap)(N:List Str)(qual:Str)(scope:Scope)(f:Addr)(cd:Value)(A:Around)(outer:List Env)(s:Shared)(H:Hp)(E:XK):Cx where
 prog:=P
 w:=w
 K:=K
 mg:=mg
 base:=base
 A:=A.deeper (envOfC qual scope s.heap.objs.size f cd)
 N:=N
 s₀:=s
 H₀:=H
 env:=envOfC qual scope s.heap.objs.size f cd
 outer:=outer
 stack:=envOfC qual scope s.heap.objs.size f cd::outer
 ex:=[]
 calm:=true
 fn:=λ_=>true
 pn:=[]
 xe:=λe b=>wpAny (model P w) (A.deeper (envOfC qual scope s.heap.objs.size f cd)) (leaving (envOfC qual scope s.heap.objs.size f cd) e) (λ_ a=>CX outer H s E e a) (λc a=>CX outer H s E c a) b
def Aw{a:Scope}{n:Nat}{x:Str}(h:a.names.lookup x=some .cell):∃c,(cellsFrom n a.names []).lookup x=some c:=by
 have q:=W.cellsFrom_some a.names n [] (.inl h);exact Rx.mp q
def Ig{CX:eQ}{P:Program}{w:World}{K:W.Frag}{mg:Str->Option Value}{base:Heap}{N ps:List Str}{qual:Str}{scope:Scope}{f:Addr}{cd:Value}{A:Around}{outer:List Env}{s s1:Shared}{H:Hp}{E:XK}{us:List Value}{vs:List V}
 (S:aL N ps scope) (hd:A.handled=none) (g:fk P w K mg base A outer s H) (J:vs.length=ps.length) (r:ay vs us)
 (x:InCallC s s.heap.objs.size (bindL (envOfC qual scope s.heap.objs.size f cd).kindOf (ps.zip us) λ_=>none) (cellsFrom (s.heap.objs.size+1) scope.names []) (bindC (envOfC qual scope s.heap.objs.size f cd).kindOf (ps.zip us) λ_=>none) s1) :
 ae (ib CX P w K mg base N qual scope f cd A outer s H E) [] (fK N vs) H s1:=by
 have C:ps.length<=N.length:=by have:=congrArg List.length S.pre;rw[OG]at this;omega
 obtain⟨l,I,rfl,B⟩:=x.done;have noA:∀b:Addr,b∉(ib CX P w K mg base N qual scope f cd A outer s H E).ex:=λb z=>Sd (show b∈([]:List Addr) from z) (by simp);refine⟨⟨g.mod,S.kind,rfl,rfl,Oo _,λy z c l d=>?_,λy hy=>?_,λy c _ h=>?_,λ_=>hd,Around.frames_deeper g.frames,.inr ⟨rfl,rfl⟩,λb z=>Sd z (noA b),g.bs,g.bsz,λb _ _=>noA b,λb z=>Sd z (noA b),g.funs,g.frf⟩,
  rfl,g.bare,Un.kept B,⟨_,x.toInCall.ns,λi y v l d G=>?_⟩,λy c h=>⟨_,x.cell y c h⟩,g.hok.fresh (Oo _),λy c h=>?_,λp j=>Sd (show p∈([]:List (Addr × Obj)) from j) (by simp),g.hok.kept B,?_⟩
 ·exact name_of_addr x.apart (PN l) (PN d)
 ·have hy:scope.names.lookup y=some .cell\/scope.names.lookup y=some .free:=hy;rcases hy with hy|hy
  ·exact Aw hy
  ·exact Sd Z (S.nofree _ (PN hy))
 ·exact Qf (x.above y c (PN h))
 ·have m:i<vs.length:=by
   unfold fK at d;by_cases m:i<vs.length
   ·exact m
   ·rw[PC (by simpa using m)]at d;rw[Ry]at d
    split at d<;>cases d
  have D:vs[i]? = some v:=by
   unfold fK at d;rw[Pq (by simpa using m),Ov]at d;cases e:vs[i]? with
   | none=>rw[e]at d;cases d
   | some a=>rw[e]at d;cases d;rfl
  obtain⟨u,o,F⟩:=r.get D;have j:ps[i]? = some y:=by
   rw[<- S.pre,P3 (by omega)];exact l
  have ndP:ps.Nodup:=by rw[<- S.pre];exact S.nd.sublist (List.take_sublist _ _)
  refine⟨u,F,?_⟩;rcases S.par y (OA j) with k|k
  ·exact .inl ⟨k,AD ndP j o k⟩
  ·obtain⟨c,e⟩:=Aw (n:=s.heap.objs.size+1) k;refine .inr ⟨.inl k,c,e,?_⟩;have q:=x.cell y c e;rw[AF ndP j o (by show scope.names.lookup y≠_;rw[k];decide)]at q;exact q
 ·exact g.hok.fresh (Qf (x.above y c (PN h)))
 ·unfold fK;show _=N.length;rw[Oz,On,Qi];omega
def sL{CX:eQ}{P:Program}{w:World}{K:W.Frag}{mg:Str->Option Value}{base:Heap}{k:Nat}{f:Addr}{name qual:Str}{params:Arguments}{body:List Stmt}{scope:Scope}{dV kV i L a ct oc:Value}{M O:Option Addr}
 {F:Array (Option Value)} {N ps:List Str} {sp:Sp} (U:K.lookup f=some ⟨oc,O,.func (W.fnOf name qual params body scope dV kV i L M a ct),F⟩) (D:W.codeIn K a qual=true) (S:aL N ps scope)
 (len:∀vs H Q E,sp vs H Q E->vs.length=ps.length)
 (d:∀(A:Around) (outer:List Env) (s:Shared) (H:Hp) (vs:List V) (Q:VK) (E:XK),bj k (A.deeper (envOfC qual scope s.heap.objs.size f a))->sp vs H Q E ->
   ∃t,eN (ib CX P w K mg base N qual scope f a A outer s H E) body t/\t { nx:=λ_ H'=>Q .non H',rt:=Q } (fK N vs) H) :
 bD P w K mg base CX (k+1) f (W.fnOf name qual params body scope dV kV i L M a ct) ps sp:=by
 refine⟨len,λA outer s H args us vs Q E B h hb r j=>?_⟩;have hl:=len _ _ _ _ j;have G:K.In s.heap:=h.mod.kin.keeps λb o e=>(h.bs b o e).1;have C:s.heap.NoLimit:=h.mod.nolimit.keeps λb o e=>(h.bs b o e).1;have c:∀y∈ps.zip us,scope.names.lookup y.1=some .local\/(scope.names.lookup y.1=some .cell/\((cellsFrom (s.heap.objs.size+1) scope.names []).lookup y.1).isSome=true):=λ⟨n,v⟩ hy=>by
  rcases S.par n (QU hy).1 with q|q
  ·exact .inl q
  ·exact .inr ⟨q,W.cellsFrom_some _ _ _ (.inl q)⟩
 refine codeAny_call_function B.depth (G _ _ U) Z S.co S.gen Z (W.codeRec_of G D) (hb _ _ _ _ ?_);refine wpAny_newFunctionEnv_cells S.kind c λenv he s1 x=>?_;subst he;refine⟨C.keeps x.toInCall.keep,codeAny_func ?_⟩;obtain⟨t,R,hq⟩:=d A outer s H vs Q E (B.deeper _) j;have I:ae (ib CX P w K mg base N qual scope f a A outer s H E) [] (fK N vs) H s1:=Ig S B.hd h hl r x;refine wpAny_mono (R [] s1 (fK N vs) H _ I hq) (λY p g=>?_) λe p g=>g;have l:∀ {m:St} {H':Hp} {v:V} {u:Value},ae (ib CX P w K mg base N qual scope f a A outer s H E) [] m H' p->ax v u->Q v H'->CE outer P w H s Q u p :=
  λ{m H' v u} J z q=>⟨v,H',J.os,J.bare,J.base,J.hok,z,q⟩
 cases Y with
 | ret u =>
  obtain⟨v,m,H',J,z,q⟩:=g;exact l J z q
 | next =>
  obtain⟨m,H',J,q⟩:=g;exact l (v:=V.non) (u:=Value.none) J Z q
 | brk =>
  obtain⟨_,_,_,q⟩:=g;exact False.elim q
 | cont =>
  obtain⟨_,_,_,q⟩:=g;exact False.elim q
section
variable {X:Cx}{x:Str}{p pos:Pos}{e:Expr}{es:List Expr}{t:TA}{id T:String}{r:List V->Hp->VK->Prop}
def jN(r:List V->Hp->VK->Prop)(t:TA):TE:=λσ H Q=>t σ H λvs a=>r vs a Q
def FX (j:bV X (.builtin id) r) (f:Gl X x) (n:X.mg x=none) (k:bootBuiltins x=some (.builtin id)) (d:PA X (e::es) t) (i:x ≠ "__name__":=by decide) (c:(x == ("__debug__" : Str))=false:=by decide)
 (l:starEach (e::es) X.env=(false,eval e X.env)::starEach es X.env:=by rfl) (b:(backTo pos (starEach es X.env)).any (·.1)=false:=by rfl):PE X (.Call (.Name x p) (e::es) [] pos) (jN r t):=by
 intro a s σ H Q I h;refine wpAny_Call_Name_kw (hJ I f n k ?_ i c);exact PyProof.Rows.callWith_builtin1 (ap (d pos a s σ H _ I h) λus s1 ⟨vs,q,g,m,o⟩=>j a s1 σ q vs us Q g m o) l b
def FW (j:bV X (.type T) r) (f:Gl X x) (n:X.mg x=none) (k:bootBuiltins x=some (.type T)) (d:PA X (e::es) t) (i:x ≠ "__name__":=by decide) (c:(x == ("__debug__" : Str))=false:=by decide)
 (l:starEach (e::es) X.env=(false,eval e X.env)::starEach es X.env:=by rfl) (b:(backTo pos (starEach es X.env)).any (·.1)=false:=by rfl):PE X (.Call (.Name x p) (e::es) [] pos) (jN r t):=by
 intro a s σ H Q I h;refine wpAny_Call_Name_kw (hJ I f n k ?_ i c);exact Qg (ap (d pos a s σ H _ I h) λus s1 ⟨vs,q,g,m,o⟩=>j a s1 σ q vs us Q g m o) l b
end
section
variable {κ:Type}[DecidableEq κ]
def aR(kvs:List (κ × V))(k:κ):Option V:=(kvs.find? λa=>decide (a.1=k)).map (·.2)
def bu(kvs:List (κ × V))(k:κ)(v:V):List (κ × V) :=
 if (kvs.any λa=>decide (a.1=k))=true then kvs.map (λa=>if a.1=k then (a.1,v) else a) else kvs++[(k,v)]
def eU{p:κ × V}{r:List (κ × V)}{k:κ}(e:p.1=k):aR (p::r) k=some p.2:=by simp[aR,OR,e]
def eV{p:κ × V}{r:List (κ × V)}{k:κ}(e:¬p.1=k):aR (p::r) k=aR r k:=by simp[aR,OR,e]
theorem mz(k:κ):∀kvs:List (κ × V),(kvs.any λa=>decide (a.1=k))=(aR kvs k).isSome
 | []=>rfl
 | p::r=>by
  rw[P4];by_cases e:p.1=k
  ·simp only [eU e,Sf e,Bool.true_or,Option.isSome_some]
  ·rw[eV e,Sh e,Bool.false_or];exact mz k r
theorem wK(k j:κ)(y:V):∀kvs:List (κ × V),aR (kvs.map λa=>if a.1=k then (a.1,y) else a) j=(aR kvs j).map λx=>if j=k then y else x
 | []=>rfl
 | p::r=>by
  have ih:=wK k j y r;rw[OD];by_cases h:p.1=k
  ·rw[Sc h];by_cases e:p.1=j
   ·rw[eU (p:=(p.1,y)) e,eU e,Qt,Sc (e.symm.trans h)]
   ·rw[eV (p:=(p.1,y)) e,eV e,ih]
  ·rw[Sb h];by_cases e:p.1=j
   ·rw[eU (p:=p) e,eU e,Qt,Sb (λz=>h (e.trans z))]
   ·rw[eV (p:=p) e,eV e,ih]
theorem wJ(k j:κ)(y:V):∀kvs:List (κ × V),aR kvs k=none->aR (kvs++[(k,y)]) j=if j=k then some y else aR kvs j
 | [],_=>by
  by_cases e:k=j
  ·rw[Sc e.symm];exact eU (p:=(k,y)) e
  ·rw[Sb (λz=>e z.symm)];exact eV (p:=(k,y)) e
 | p::r,hn=>by
  rw[QV];have a:¬p.1=k:=λz=>by rw[eU z]at hn;cases hn
  rw[eV a]at hn;have ih:=wJ k j y r hn;by_cases e:p.1=j
  ·rw[eU e,eU e,Sb (λz=>a (e.trans z))]
  ·rw[eV e,eV e,ih]
def eT(kvs:List (κ × V))(k j:κ)(y:V):aR (bu kvs k y) j=if j=k then some y else aR kvs j:=by
 unfold bu;by_cases a:(kvs.any λb=>decide (b.1=k))=true
 ·rw[Sc a,wK];rw[mz]at a;by_cases e:j=k
  ·obtain⟨x,hx⟩:=Rx.mp a;rw[Sc e,e,hx,Qt,Sc rfl]
  ·rw[Sb e];cases aR kvs j with
   | none=>rfl
   | some x=>rw[Qt,Sb e]
 ·rw[Sb a];refine wJ k j y kvs ?_;rw[mz]at a;cases q:aR kvs k with
  | none=>rfl
  | some x=>rw[q]at a;exact (a Z).elim
def jh(kvs:List (κ × V))(k:κ)(v:V):(bu kvs k v).length<=kvs.length+1:=by
 unfold bu
 split
 ·rw[On];omega
 ·rw[Oz,OV,QX];omega
def oJ{kvs:List (κ × V)}{k:κ}(v:V)(h:aR kvs k=none):bu kvs k v=kvs++[(k,v)]:=by
 unfold bu;rw[mz,h];exact Sb (by decide)
def cg.isSome_eq{o:Option V}{u:Option Value}(r:cg o u):o.isSome=u.isSome:=by
 cases o with
 | none=>cases u with
  | none=>rfl
  | some _=>exact (show False from r).elim
 | some _=>cases u with
  | none=>exact (show False from r).elim
  | some _=>rfl
def cg.getD{o:Option V}{u:Option Value}{d:V}{d':Value}(r:cg o u)(a:ax d d'):ax (o.getD d) (u.getD d'):=by
 cases o with
 | none=>cases u with
  | none=>exact a
  | some _=>exact (show False from r).elim
 | some _=>cases u with
  | none=>exact (show False from r).elim
  | some _=>exact r
def KV.val{kvs:List (κ × V)}{vs:List (κ × Value)}(r:KV kvs vs)(k:κ):cg (aR kvs k) (valueAt vs k):=by
 unfold KV at r
 induction r with
 | nil=>exact True.intro
 | @cons p q ps qs h t ih =>
  obtain⟨c,d⟩:=h;by_cases e:p.1=k
  ·have a:q.1=k:=c.symm.trans e;have b:valueAt (q::qs) k=some q.2:=by simp[valueAt,OR,a]
   rw[eU e,b];exact d
  ·have a:¬q.1=k:=λz=>e (c.trans z);have b:valueAt (q::qs) k=valueAt qs k:=by simp[valueAt,OR,a]
   rw[eV e,b];exact ih
def KV.any{kvs:List (κ × V)}{vs:List (κ × Value)}(r:KV kvs vs)(k:κ):(kvs.any λa=>decide (a.1=k))=vs.any λa=>decide (a.1=k):=by
 unfold KV at r
 induction r with
 | nil=>rfl
 | cons h t ih=>rw[P4,P4,ih,h.1]
def KV.repl{kvs:List (κ × V)}{vs:List (κ × Value)}(r:KV kvs vs)(k:κ){y:V}{u:Value}(c:ax y u) :
 KV (kvs.map λa=>if a.1=k then (a.1,y) else a) (vs.map λa=>if a.1=k then (a.1,u) else a):=by
 unfold KV at r ⊢
 induction r with
 | nil=>exact .nil
 | @cons p q ps qs h t ih =>
  rw[OD,OD];refine .cons ?_ ih;obtain⟨b,d⟩:=h;by_cases e:p.1=k
  ·rw[Sc e,Sc (b.symm.trans e)];exact⟨b,c⟩
  ·rw[Sb e,Sb (λz=>e (b.trans z))];exact⟨b,d⟩
def KV.put{kvs:List (κ × V)}{vs:List (κ × Value)}(r:KV kvs vs)(k:κ){y:V}{u:Value}(a:ax y u):KV (bu kvs k y) (stored vs k u):=by
 unfold bu stored;rw[r.any k];by_cases e:(vs.any λb=>decide (b.1=k))=true
 ·rw[Sc e,Sc e];exact r.repl k a
 ·rw[Sb e,Sb e];exact Paired.snoc r ⟨rfl,a⟩
def KV.length{kvs:List (κ × V)}{vs:List (κ × Value)}(r:KV kvs vs):kvs.length=vs.length:=Paired.length r
end
def lR{P:Program}{w:World}{k:aw}{u:Value}(r:ax (kV k) u):(bX P w).is k u=true:=by
 cases k with
 | inl i=>obtain⟨t,e⟩:=(show ∃t,u=Value.int i t from r);subst e;exact G8 P w i t
 | inr x=>obtain⟨t,e⟩:=(show ∃t,u=Value.str x t from r);subst e;exact G6 P w x t
theorem y9{P:Program}{w:World}:∀ {ks:List aw} {us:List Value},ay (ks.map kV) us->ItemsAre (bX P w) ks us
 | [],_,r=>by rw[Qu]at r;cases r;exact .nil
 | k::ks,_,r=>by
  rw[OD]at r;cases r with
  | cons h t=>exact .cons (lR h) (y9 t)
abbrev KT(H:Hp):List (List aw × V)->List (List aw × Addr × Value)->Prop:=Paired λp q=>p.1=q.1/\H q.2.1=some (.tup (p.1.map kV))/\ax p.2 q.2.2
def KT.val{H:Hp}{kvs:List (List aw × V)}{xs:List (List aw × Addr × Value)}(r:KT H kvs xs)(k:List aw):cg (aR kvs k) ((atKey xs k).map (·.2)):=by
 induction r with
 | nil=>exact True.intro
 | @cons p q ps qs h t ih =>
  obtain⟨c,_,d⟩:=h;by_cases e:p.1=k
  ·have a:q.1=k:=c.symm.trans e;have b:atKey (q::qs) k=some q.2:=by simp[atKey,OR,a]
   rw[eU e,b];exact d
  ·have a:¬q.1=k:=λz=>e (c.trans z);have b:atKey (q::qs) k=atKey qs k:=by simp[atKey,OR,a]
   rw[eV e,b];exact ih
def KT.repl{H:Hp}{kvs:List (List aw × V)}{xs:List (List aw × Addr × Value)}(r:KT H kvs xs)(k:List aw){y:V}{u:Value}(f:ax y u) :
 KT H (kvs.map λb=>if b.1=k then (b.1,y) else b) (xs.map (putAt k u)):=by
 induction r with
 | nil=>exact .nil
 | @cons p q ps qs h t ih =>
  rw[OD,OD];refine .cons ?_ ih;obtain⟨a,c,d⟩:=h;unfold putAt;by_cases e:p.1=k
  ·rw[Sc e,Sc (a.symm.trans e)];exact⟨a,c,f⟩
  ·rw[Sb e,Sb (λz=>e (a.trans z))];exact⟨a,c,d⟩
def KT.put{H:Hp}{kvs:List (List aw × V)}{xs:List (List aw × Addr × Value)}(r:KT H kvs xs)(k:List aw){b:Addr}{y:V}{u:Value}(d:H b=some (.tup (k.map kV)))(a:ax y u) :
 KT H (bu kvs k y) (storedH xs k b u):=by
 have e:(kvs.any λc=>decide (c.1=k))=(atKey xs k).isSome:=by
  rw[mz,(r.val k).isSome_eq,PQ]
 unfold bu storedH;rw[e];by_cases q:(atKey xs k).isSome=true
 ·rw[Sc q,Sc q];exact r.repl k a
 ·rw[Sb q,Sb q];exact Paired.snoc r ⟨rfl,d,a⟩
def KT.keeps{H H':Hp}{kvs:List (List aw × V)}{xs:List (List aw × Addr × Value)}(r:KT H kvs xs)(a:∀b ys,H b=some (.tup ys)->H' b=some (.tup ys)):KT H' kvs xs :=
 Paired.mapP r λ_ _ z=>⟨z.1,a _ _ z.2.1,z.2.2⟩
section
variable {P:Program}{w:World}{H:Hp}{h:Heap}{a:Addr}
def xM{u:HO}(ok:bn P w H h)(e:Rd H a u):bd P w H h a u:=e.ok ok
def jw{kvs:List (aw × V)}(ok:bn P w H h)(e:Rd H a (.dK kvs)):kvs.length<=sizeLine/\(a == sysModules)=false/\∃vs,KV kvs vs/\h.DictOf (bX P w) a vs :=
 show bd P w H h a (.dK kvs) from xM ok e
def pJ{kvs:List (aw × V)}(ok:bn P w H h)(e:H a=some (.dK kvs)):kvs.length<=sizeLine/\(a == sysModules)=false/\∃vs,KV kvs vs/\h.DictOf (bX P w) a vs:=jw ok (.inl e)
def lN{ks:List aw}(ok:bn P w H h)(e:H a=some (.tup (ks.map kV))):(tupleKind (bX P w)).is h ks a:=by
 obtain⟨_,b,r,o,d,f,n,c⟩:=(show bd P w H h a (.tup (ks.map kV)) from ok a _ e);exact⟨o,b.toArray,n,d,f,c,by simpa using y9 r⟩
def jt{kvs:List (List aw × V)}(ok:bn P w H h)(e:Rd H a (.dT kvs)):kvs.length<=sizeLine/\(a == sysModules)=false /\
 ∃xs,KT H kvs xs/\h.DictOfH (tupleKind (bX P w)) a xs:=by
 obtain⟨z,y,xs,r,o,es,ep,g,c,b,f,d⟩:=(show bd P w H h a (.dT kvs) from xM ok e);refine⟨z,y,xs,r,o,es,ep,g,c,b,f,λx hx=>?_,d⟩;have all:∀ {l:List (List aw × V)} {m:List (List aw × Addr × Value)},KT H l m->∀x∈m,(tupleKind (bX P w)).is h x.1 x.2.1:=by
  intro l m q
  induction q with
  | nil=>intro x hx;exact nomatch hx
  | @cons p q ps qs hq t ih =>
   intro x hx;rcases OT.mp hx with e|hx
   ·subst e;exact lN ok (by rw[<- hq.1];exact hq.2.1)
   ·exact ih x hx
 exact all r x hx
def K0{kvs:List (List aw × V)}(ok:bn P w H h)(e:H a=some (.dT kvs)):kvs.length<=sizeLine/\(a == sysModules)=false /\
 ∃xs,KT H kvs xs/\h.DictOfH (tupleKind (bX P w)) a xs:=jt ok (.inl e)
end
def cw(H:Hp)(a:Addr)(y:V)(r:Option V):Prop :=
 (∃kvs k,Rd H a (.dK kvs)/\y=kV k/\r=aR kvs k)\/∃kvs k b,Rd H a (.dT kvs)/\y=.ref b/\H b=some (.tup (k.map kV))/\r=aR kvs k
def fJ(H:Hp)(a:Addr)(y v:V)(H':Hp):Prop :=
 (∃kvs k,H a=some (.dK kvs)/\y=kV k/\kvs.length<sizeLine/\H'=upd H a (.dK (bu kvs k v))) \/
 ∃kvs k b,H a=some (.dT kvs)/\y=.ref b/\H b=some (.tup (k.map kV))/\kvs.length<sizeLine/\H'=upd H a (.dT (bu kvs k v))
def cw.k{H:Hp}{a:Addr}{kvs:List (aw × V)}{k:aw}(e:H a=some (.dK kvs)):cw H a (kV k) (aR kvs k):=.inl ⟨kvs,k,.inl e,rfl,rfl⟩
def cw.t{H:Hp}{a b:Addr}{kvs:List (List aw × V)}{k:List aw}(e:H a=some (.dT kvs))(c:H b=some (.tup (k.map kV))):cw H a (.ref b) (aR kvs k):=.inr ⟨kvs,k,b,.inl e,rfl,c,rfl⟩
def fJ.k{H:Hp}{a:Addr}{kvs:List (aw × V)}{k:aw}{v:V}(e:H a=some (.dK kvs))(b:kvs.length<sizeLine):fJ H a (kV k) v (upd H a (.dK (bu kvs k v))):=.inl ⟨kvs,k,e,rfl,b,rfl⟩
def fJ.t{H:Hp}{a b:Addr}{kvs:List (List aw × V)}{k:List aw}{v:V}(e:H a=some (.dT kvs))(c:H b=some (.tup (k.map kV)))(d:kvs.length<sizeLine) :
 fJ H a (.ref b) v (upd H a (.dT (bu kvs k v))):=.inr ⟨kvs,k,b,e,rfl,c,d,rfl⟩
section
variable {X:Cx}{pins:List (Addr × Obj)}{σ:St}{H:Hp}{s:Shared}{a:Addr}{y v:V}{u r:Value}{o:Option V}{A:Around}{E:Value->Shared->Prop}
def ae.big(I:ae X pins σ H s):sysModules<s.heap.objs.size:=by
 have h:mainGlobals<s.heap.objs.size:=(I.mod.glob.keeps I.bk).lt;exact QY (by decide) h
def Ld{Q:Value->Shared->Prop}(n:A.units+1<cLine)(I:ae X pins σ H s)(g:cw H a y (some v))(m:ax y u)(h:∀f s',ae X pins σ H s'->ax v f->Q f s') :
 wpAny (model X.prog X.w) A (getItem (.ref a) u) Q E s:=by
 rcases g with ⟨kvs,k,e,ey,l⟩|⟨kvs,k,b,e,ey,eb,l⟩
 ·subst ey;obtain⟨z,hd,vs,c,i⟩:=jw I.hok e;obtain⟨f,hw,d⟩:=cg.some_of (v:=v) (o:=valueAt vs k) (by rw[l];exact c.val k);exact wpAny_getItem_of (lR m) i.mapOf hw (h f _ (I.tok _) d)
 ·subst ey;cases (show u=Value.ref b from m);obtain⟨z,hd,xs,c,i⟩:=jt I.hok e;obtain⟨f,hw,d⟩:=cg.some_of (v:=v) (o:=(atKey xs k).map (·.2)) (by rw[l];exact c.val k);obtain⟨p,q,j⟩:=OS.mp hw;refine wpAny_getItem_heap (tupleKind_room_in1 n) (lN I.hok eb) i q ?_;rw[j];exact h f _ (I.tok _) d
def Lc{Q:Value->Shared->Prop}(i:A.units+1<cLine)(I:ae X pins σ H s)(g:cw H a y o)(f:ax y u)(h:∀s',ae X pins σ H s'->Q (.bool o.isSome) s') :
 wpAny (model X.prog X.w) A (compareOp .In u (.ref a)) Q E s:=by
 rcases g with ⟨kvs,k,e,ey,l⟩|⟨kvs,k,b,e,ey,eb,l⟩
 ·subst ey;obtain⟨z,hd,vs,c,d⟩:=jw I.hok e;refine wpAny_in_of (lR f) hd d.mapOf ?_;rw[<- (c.val k).isSome_eq,<- l];exact h _ (I.tok _)
 ·subst ey;cases (show u=Value.ref b from f);obtain⟨z,hd,xs,c,d⟩:=jt I.hok e;refine wpAny_in_heap (tupleKind_room_in1 i) (lN I.hok eb) hd d ?_;have q:=(c.val k).isSome_eq;rw[PQ]at q;rw[<- q,<- l];exact h _ (I.tok _)
def Lb{Q:Value->Shared->Prop}(i:A.units+1<cLine)(I:ae X pins σ H s)(g:cw H a y o)(f:ax y u)(h:∀s',ae X pins σ H s'->Q (.bool (!o.isSome)) s') :
 wpAny (model X.prog X.w) A (compareOp .NotIn u (.ref a)) Q E s:=by
 rcases g with ⟨kvs,k,e,ey,l⟩|⟨kvs,k,b,e,ey,eb,l⟩
 ·subst ey;obtain⟨z,hd,vs,c,d⟩:=jw I.hok e;refine wpAny_notIn_of (lR f) hd d.mapOf ?_;rw[<- (c.val k).isSome_eq,<- l];exact h _ (I.tok _)
 ·subst ey;cases (show u=Value.ref b from f);obtain⟨z,hd,xs,c,d⟩:=jt I.hok e;refine wpAny_notIn_heap (tupleKind_room_in1 i) (lN I.hok eb) hd d ?_;have q:=(c.val k).isSome_eq;rw[PQ]at q;rw[<- q,<- l];exact h _ (I.tok _)
def nj{h':Heap}{t':Nat}{c:HO}(I:ae X pins σ H s)(d:nK (H a))(f:Heap.SameBut a s.heap h')(g:∃q,h'.get? a=some q)(new:bd X.prog X.w (upd H a c) h' a c) :
 ae X pins σ (upd H a c) { s with heap:=h',toks:=t' } :=
 I.write (x:=a) (e:=a) d (.inl rfl) (λb q h z=>(f.2 b h).trans z) g new
def K7{P:Program}{w:World}{H':Hp}{h':Heap}{kvs:List (aw × V)}{vs:List (aw × Value)}(z:kvs.length<=sizeLine)(hd:(a == sysModules)=false)(b:KV kvs vs)(c:h'.DictOf (bX P w) a vs) :
 bd P w H' h' a (.dK kvs):=⟨z,hd,vs,b,c⟩
def La{H':Hp}{Q:Unit->Shared->Prop}(C:A.units+1<cLine)(I:ae X pins σ H s)(g:fJ H a y v H')(p:ax y u)(x:ax v r)(h:∀s',ae X pins σ H' s'->Q () s') :
 wpAny (model X.prog X.w) A (setItem (.ref a) u r) Q E s:=by
 rcases g with ⟨kvs,k,e,ey,l,eH⟩|⟨kvs,k,b,e,ey,eb,l,eH⟩
 ·subst ey eH;obtain⟨z,hd,vs,d,j⟩:=pJ I.hok e;have hz:vs.length<=sizeLine:=by rw[<- d.length];exact z
  have n:(bu kvs k v).length<=sizeLine:=by have:=jh kvs k v;omega
  refine wpAny_setItem_pairs (hsz:=hz) (lR p) j λh' f m=>h _ ?_;have J:∃q,h'.get? a=some q:=let ⟨q,_,_,i,_⟩:=f;⟨q,i⟩
  exact nj I (by rw[e];exact True.intro) m J (K7 n hd (d.put k x) f)
 ·subst ey eH;cases (show u=Value.ref b from p);obtain⟨z,hd,xs,d,j⟩:=K0 I.hok e;have hz:xs.length<=sizeLine:=by rw[<- Paired.length d];exact z
  have n:(bu kvs k v).length<=sizeLine:=by have:=jh kvs k v;omega
  refine wpAny_setItem_heap (hsz:=hz) (tupleKind_room_in1 C) (lN I.hok eb) j λh' f m=>h _ ?_;obtain⟨q,es,ep,i,G,B,F,_,D⟩:=f;refine nj I (by rw[e];exact True.intro) m ⟨q,i⟩ ⟨n,hd,_,(d.put k eb x).keeps λc L o=>?_,q,es,ep,i,G,B,F,D⟩;rw[am (mS o e (λz=>nomatch z))];exact o
end
def mn(i:Expr):Prop:=∀ov iv,subscripted i false ov iv=operate [ov,iv] (getItem ov iv)
def nY{prog:Program}{w:World}{A:Around}{E:Value->Shared->Prop}{s:Shared}{env:Env}{value a:Expr}{pos:Pos}{T id:String}{Q:Value->Shared->Prop}
 (k:typeLookup (.type T) "__getitem__" = pure (some (.builtin id))) (j:mn a)
 (h:wpAny (model prog w) A (eval value env) (λo f=>wpAny (model prog w) A (eval a env) (λi c=>c.TypeIs o T/\wpAny (model prog w) A (getItem o i) Q E c) E f) E s) :
 wpAny (model prog w) A (eval (.Subscript value a pos) env) Q E s:=by
 refine Subscript_ (wpAny_mono h (λo f l=>wpAny_mono l (λi c d=>?_) λ_ _ x=>x) λ_ _ x=>x);obtain⟨hT,d⟩:=d;unfold subscriptTail;refine on ?_;rw[getitemInPython_of_ne hT.not_modules];refine on (wpAny_specialOf hT k ?_);have b:wpAny (model prog w) A (subscripted a false o i) (λr e=>wpAny (model prog w) A (letTemporaryGo value o r >>= λ_=>pure r) Q E e) E c:=by
  rw[j o i];exact wpAny_operating (wpAny_mono d (λr e g=>on (wpAny_letTemporaryGo (Sa g))) λ_ _ x=>x)
 first
  | exact Sa (on b)
  | exact on (Sa (on b))
  | exact on b
def K9 {X:Cx} {c:List (Addr × Obj)} {σ:St} {H:Hp} {s:Shared} {a:Addr} {y:V} {o:Option V} (I:ae X c σ H s) (g:cw H a y o):s.TypeIs (.ref a) "dict":=by
 rcases g with ⟨kvs,k,e,_,_⟩|⟨kvs,k,b,e,_,_,_⟩
 ·obtain⟨_,_,vs,_,d⟩:=jw I.hok e;exact d.typeIs
 ·obtain⟨_,_,xs,_,d⟩:=jt I.hok e;exact d.typeIs
def xf(d ty:TE):TE:=λσ H Q=>d σ H λx c=>ty σ c λy b=>∃a v,x=.ref a/\cw b a y (some v)/\Q v b
def xI(f ty d:TE):TS:=λD σ H=>d σ H λv e=>f σ e λx c=>ty σ c λy b=>∃a H4,x=.ref a/\fJ b a y v H4/\D.nx σ H4
section
variable {X:Cx}{o i e value:Expr}{pos pos' tpos:Pos}{td ty tv:TE}
def FS(n:X.A.units+1<cLine)(l:PE X o td)(B:PE X i ty)(z:mn i):PE X (.Subscript o i pos) (xf td ty):=by
 intro b s σ H Q I h;refine nY Qv.lookup z (ap (l b s σ H _ I h) λu s1 ⟨x,k,j,p,q⟩=>ap (B b s1 σ k _ j q) λC F ⟨y,r,d,e,a,v,ex,g,f⟩=>?_);subst ex;obtain rfl:u=Value.ref a:=p;exact⟨K9 d g,Ld n d g e λG D m c=>⟨v,r,m,c,f⟩⟩
def Fe(B:X.A.units+1<cLine)(q:PE X o td)(M:PE X i ty)(l:PE X value tv)(L:swapsWith value (some (.Subscript o i pos')) pos.line X.env=pure false) :
 PS X (.Assign [.Subscript o i pos'] value pos) (xI td ty tv):=by
 intro b s σ H D I h;refine wpAny_Assign_Subscript (ap (l b s σ H _ I h) λr s1 ⟨v,n,k,e,F⟩=>ap (q b s1 σ n _ k F) λu m ⟨x,G,p,C,f⟩=>ap (M b m σ G _ p f) λO R ⟨y,S,z,c,a,j,ex,g,d⟩=>?_) L;subst ex;obtain rfl:u=Value.ref a:=C;exact La B z g c e λN J=>⟨σ,j,J,d⟩
end
def K8{P:Program}{w:World}{H:Hp}(h:Heap)(a:sysModules<h.objs.size):bd P w H (h.push { cls:=.type "dict",data:=.dict #[] }) h.objs.size (.dK []) :=
 ⟨Ox _,beq_eq_false_iff_ne.mpr (Ne.symm (OC a)),[],.nil,Heap.DictOf.new h⟩
def K1{P:Program}{w:World}{H:Hp}(h:Heap)(a:sysModules<h.objs.size):bd P w H (h.push { cls:=.type "dict",data:=.dict #[] }) h.objs.size (.dT []) :=
 ⟨Ox _,beq_eq_false_iff_ne.mpr (Ne.symm (OC a)),[],.nil,_,#[],0,OB _ rfl,⟨rfl,rfl,rfl⟩,rfl,rfl,PR⟩
def Cm:TE:=λ_ H Q=>∀p,H p=none->Q (.ref p) (upd H p (.dK []))
def Cl:TE:=λ_ H Q=>∀p,H p=none->Q (.ref p) (upd H p (.dT []))
section
variable {X:Cx}{pos:Pos}
def FQ:PE X (.Dict [] [] pos) Cm:=λb s σ H Q I h =>
 wpAny_Dict_empty ⟨.ref s.heap.objs.size,_,I.laid (a:=s.heap.objs.size) (o:=.dK []) (t':=s.toks) (λ_ _ q=>Ow _ q) (Oo _) (K8 s.heap I.big),rfl,h _ (I.hok.fresh (Oo _))⟩
def FP:PE X (.Dict [] [] pos) Cl:=λb s σ H Q I h =>
 wpAny_Dict_empty ⟨.ref s.heap.objs.size,_,I.laid (a:=s.heap.objs.size) (o:=.dT []) (t':=s.toks) (λ_ _ q=>Ow _ q) (Oo _) (K1 s.heap I.big),rfl,h _ (I.hok.fresh (Oo _))⟩
end
structure M1 (X:Cx) (o:Expr) (m:Str) (apos:Pos) (e:Expr) (cpos:Pos):Prop where
 base:attributeBase o m X.env (eval o X.env)=eval o X.env
 few:((backTo cpos (starEach [e] X.env)).all (λx=>!x.1) && (backToKw cpos (keywordEach [] X.env)).all (λx=>x.1.isSome)
  && decide (([e]:List Expr).length+([]:List Keyword).length+(if ([]:List Keyword).isEmpty then 0 else 1)<30))=true
 line:(apos.endLine == cpos.line)=true
 trees:backTo cpos (starEach [e] X.env)=[(false,eval e X.env)]
structure M2 (X:Cx) (o:Expr) (m:Str) (apos:Pos) (e f:Expr) (cpos:Pos):Prop where
 base:attributeBase o m X.env (eval o X.env)=eval o X.env
 few:((backTo cpos (starEach [e,f] X.env)).all (λx=>!x.1) && (backToKw cpos (keywordEach [] X.env)).all (λx=>x.1.isSome)
  && decide (([e,f]:List Expr).length+([]:List Keyword).length+(if ([]:List Keyword).isEmpty then 0 else 1)<30))=true
 line:(apos.endLine == cpos.line)=true
 trees:backTo cpos (starEach [e,f] X.env)=[(false,eval e X.env),(false,eval f X.env)]
def AW(H:Hp)(a:Addr):Prop:=(∃kvs,Rd H a (.dK kvs))\/∃kvs,Rd H a (.dT kvs)
def Ie{X:Cx}{g:List (Addr × Obj)}{σ:St}{H:Hp}{s:Shared}{a:Addr}(I:ae X g σ H s)(d:AW H a) :
 s.TypeIs (.ref a) "dict"/\(∀b,Value.ref a=.ref b->∃c,s.heap.get? b=some c/\c.dict=none)/\(a == sysModules)=false:=by
 rcases d with ⟨kvs,e⟩|⟨kvs,e⟩
 ·obtain⟨_,hd,vs,_,f⟩:=jw I.hok e;refine⟨f.typeIs,λb q=>?_,hd⟩;cases q;obtain⟨c,_,_,i,h,_⟩:=f;exact⟨c,i,h.2.1⟩
 ·obtain⟨_,hd,xs,_,f⟩:=jt I.hok e;refine⟨f.typeIs,λb q=>?_,hd⟩;cases q;obtain⟨c,_,_,i,h,_⟩:=f;exact⟨c,i,h.2.1⟩
section
variable {X:Cx}{pins:List (Addr × Obj)}{σ:St}{H:Hp}{s:Shared}{a:Addr}{y d:V}{u r:Value}{o:Option V}{A:Around}{E:Value->Shared->Prop}
def Le{Q:Value->Shared->Prop}(i:A.units+1<cLine)(I:ae X pins σ H s)(g:cw H a y o)(f:ax y u)(h:∀w' s',ae X pins σ H s'->ax (o.getD .non) w'->Q w' s') :
 wpAny (model X.prog X.w) A (call (.builtin "dict.get") [.ref a,u]) Q E s:=by
 rcases g with ⟨kvs,k,e,ey,l⟩|⟨kvs,k,b,e,ey,eb,l⟩
 ·subst ey;obtain⟨z,hd,vs,c,d⟩:=jw I.hok e;refine call_meetsIn Qj d.typeIs QZ (Rz _ _) (meets_dict_get (bX X.prog X.w) a (lR f) hd) ⟨_,d.mapOf,h _ _ (I.tok _) ?_⟩;rw[l];exact (c.val k).getD Z
 ·subst ey;cases (show u=Value.ref b from f);obtain⟨z,hd,xs,c,d⟩:=jt I.hok e;refine call_meetsIn Qj d.typeIs QZ (Rz _ _) (meetsH_dict_get (tupleKind (bX X.prog X.w)) a b hd) ⟨tupleKind_room_in1 i,k,xs,lN I.hok eb,d,h _ _ (I.tok _) ?_⟩;rw[l];exact (c.val k).getD Z
end
def xc(d ty:TE):TE:=λσ H Q=>d σ H λx b=>∃a,x=.ref a/\AW b a/\ty σ b λy c=>∃o,cw c a y o/\Q (o.getD .non) c
section
variable {X:Cx}{o e f:Expr}{apos cpos:Pos}{td ty tx:TE}
def FR (r:X.A.units+1<cLine) (p:PE X o td) (D:PE X e ty) (m:M1 X o "get" apos e cpos):PE X (.Call (.Attribute o "get" apos) [e] [] cpos) (xc td ty):=by
 intro b s σ H Q I h;refine wpAny_Call_method m.base m.few m.line PU Qj RA (ap (p b s σ H _ I h) λu s1 ⟨x,l,f,v,a,ex,d,z⟩=>?_);subst ex;obtain rfl:u=Value.ref a:=v;obtain⟨k,C,_⟩:=Ie f d;refine⟨k,C,?_⟩;rw[m.trees];refine Calls.callWith_builtin Z (Calls.evalArgs_plain (Calls.spliced_cons (ap (D b s1 σ l _ f z) λF J ⟨y,B,n,i,L,g,j⟩=>Calls.spliced_nil ?_)));exact Le r n g i λM G q c=>⟨_,B,q,c,j⟩
end
end L2
namespace HT
open PySem PyProof.Rows
def lexLt:List Int->List Int->Bool
 | [],[]=>false
 | [],_::_=>true
 | _::_,[]=>false
 | x::xs,y::ys=>if x=y then lexLt xs ys else decide (x<y)
section
variable {prog:Program}{w:World}{A:Around}{E:Value->Shared->Prop}{s:Shared}
def cat_tup{t b:Addr}{vs a:List Value}{Q:Value->Shared->Prop}(v:IsTup s.heap t vs.toArray)(x:IsTup s.heap b a.toArray)(m:vs≠[])
 (u:a=[]->Q (.ref t) s) (r:a≠[]->Q (.ref s.heap.objs.size) { s with heap:=s.heap.push { cls:=.type "tuple",data:=.seq (vs++a).toArray } })
 (hsz:vs.length+a.length<=sizeLine):wpAny (model prog w) A (binaryOp .Add (.ref t) (.ref b)) Q E s:=by
 obtain⟨⟨cls,k,data,o⟩,i,p,n,hd⟩:=id v;obtain⟨⟨l,g,j,f⟩,c,d,q,h⟩:=id x;simp only at p hd d h;subst p hd d h;have e:vs.toArray++a.toArray=(vs++a).toArray:=by simp
 by_cases hw:a=[]
 ·exact concat_meets ⟨_,i,Z⟩ ⟨_,c,Z⟩ noFill_tuple_add seq_tuple_add Q0 Q1 (Q2 _ _)
   (tuple_addW1 t b vs.toArray a.toArray n q k g o f (by simpa using m) (by simp[hw])) ⟨i,c,u hw⟩
 ·refine concat_meets ⟨_,i,Z⟩ ⟨_,c,Z⟩ noFill_tuple_add seq_tuple_add Q0 Q1 (Q2 _ _)
   (tuple_addW2 t b vs.toArray a.toArray n q k g o f (by simpa using m) (by simpa using hw) (by rw[OE,OE];exact hsz)) ⟨i,c,?_⟩
  rw[e];exact r hw
def sIx(n d:Nat):Option Int->Nat
 | none=>d
 | some v=>if v<0 then (v+(n:Int)).toNat else min v.toNat n
def DO(n d:Nat)(hd:d<=n)(o:Option Int):sIx n d o<=n:=by
 cases o with
 | none=>exact hd
 | some v =>
  show (if v<0 then (v+(n:Int)).toNat else min v.toNat n)<=n;by_cases hv:v<0
  ·rw[Sc hv];omega
  ·rw[Sb hv];exact Nat.min_le_right _ _
def Au(v:Int)(n d:Nat):(if v<0 then max (v+(n:Int)) 0 else min v (n:Int))=((sIx n d (some v):Nat):Int):=by
 show (if v<0 then max (v+(n:Int)) 0 else min v (n:Int))=(((if v<0 then (v+(n:Int)).toNat else min v.toNat n):Nat):Int);by_cases hv:v<0
 ·simp only [Sc hv];omega
 ·simp only [Sb hv];omega
def Nb(lo a:Option Int)(n:Nat):Builtin.Slice.sliceAdjust lo a 1 (n:Int)=(((sIx n 0 lo:Nat):Int),((sIx n n a:Nat):Int)):=by
 have b:¬((1:Int)<0):=by omega
 unfold Builtin.Slice.sliceAdjust;simp only [b,if_false];refine Prod.ext ?_ ?_
 ·cases lo with
  | none=>rfl
  | some v=>exact Au v n 0
 ·cases a with
  | none=>rfl
  | some v=>exact Au v n n
def Fm(i j:Nat):Builtin.Slice.slicePlaces (i:Int) (j:Int) 1=j-i:=by
 unfold Builtin.Slice.slicePlaces;have a:(1:Int) > 0:=by omega
 simp only [a,if_true,Int.ediv_one]
 split<;>omega
def xw{v:Value}{o:Option Int}{Q:Option Int->Shared->Prop}(p:IsPart v o)(h:Q o s):wpAny (model prog w) A (Builtin.Slice.slicePartIndex v) Q E s:=by
 cases p with
 | none=>exact slicePart_none h
 | int i t=>exact slicePart_int h
def xx{f:Addr}{d e:Value}{lo c:Option Int}{n:Nat}{Q:Int × Int × Nat->Shared->Prop}(i:s.heap.IsSliceOf f d e .none)(pl:IsPart d lo)(g:IsPart e c)
 (h:Q (((sIx n 0 lo:Nat):Int),1,sIx n n c-sIx n 0 lo) s):wpAny (model prog w) A (Builtin.Slice.sliceApplied (.ref f) (pure (n:Int))) Q E s:=by
 obtain⟨os,b,j,a⟩:=id i;unfold Builtin.Slice.sliceApplied Builtin.Slice.sliceFields;refine on (on (wpAny_field b a (x:=d) Z (on (wpAny_field b a (x:=e) Z (on (wpAny_field b a (x:=.none) Z (Sa ?_)))))));refine on (slicePart_none ?_);show wpAny _ _ (if ((1:Int) == 0)=true then _ else _) _ _ s;rw[Sb (by decide)];refine on (xw pl (on (xw g (on (Sa ?_)))));show wpAny _ _ (match Builtin.Slice.sliceAdjust lo c 1 (n:Int) with|(lo,c)=>pure (lo,(1:Int),Builtin.Slice.slicePlaces lo c 1)) _ _ s;rw[Nb lo c n];show wpAny _ _ (pure (((sIx n 0 lo:Nat):Int),(1:Int),Builtin.Slice.slicePlaces ((sIx n 0 lo:Nat):Int) ((sIx n n c:Nat):Int) 1)) _ _ s;rw[Fm];exact Sa h
def Fn(xs:Array Value)(i k:Nat):((List.range k).filterMap λ(m:Nat)=>xs[((i:Int)+(m:Int)*1).toNat]?).toArray=((xs.toList.drop i).take k).toArray:=by
 have e:(λ(m:Nat)=>xs[((i:Int)+(m:Int)*1).toNat]?)=λm=>xs[i+m]?:=by
  funext m
  have:((i:Int)+(m:Int)*1).toNat=i+m:=by omega
  rw[this]
 rw[e];have:=pick_run xs i k;rw[List.filterMap_map]at this;have a:((λx=>xs[x]?) ∘ λx=>i+x)=λm=>xs[i+m]?:=rfl;rw[a]at this;rw[this]
def getItem_tuple_cut{t d:Addr}{items:Array Value}{j i:Value}{lo b:Option Int}{Q:Value->Shared->Prop}(c:IsTup s.heap t items)(k:s.heap.IsSliceOf d j i .none)(pl:IsPart j lo)(l:IsPart i b)
 (hw:¬(sIx items.size 0 lo=0/\sIx items.size items.size b=items.size))
 (h:Q (.ref s.heap.objs.size) { s with heap:=s.heap.push { cls:=.type "tuple",data:=.seq ((items.toList.drop (sIx items.size 0 lo)).take (sIx items.size items.size b-sIx items.size 0 lo)).toArray } })
 (hsz:items.size<=sizeLine):wpAny (model prog w) A (getItem (.ref t) (.ref d)) Q E s:=by
 have a:sizeOk (.seq ((items.toList.drop (sIx items.size 0 lo)).take (sIx items.size items.size b-sIx items.size 0 lo)).toArray):=by
  show ((items.toList.drop (sIx items.size 0 lo)).take (sIx items.size items.size b-sIx items.size 0 lo)).toArray.size<=sizeLine;rw[OE,OG,Qk,Pz];omega
 have p:sIx items.size items.size b<=items.size:=DO _ _ (Oo _) b;obtain⟨os,e,f,n⟩:=id k;have hTs:s.TypeIs (.ref d) "slice":=⟨os,e,f⟩;unfold getItem
 try with_reducible refine wpAny_holding ?_
 first|refine on (Sa ?_)|skip
 refine on (wpAny_sequenceKey c.typeIs (by decide) ?_);refine on (wpAny_callSpecial?_slot (name:=Str.ofString "__getitem__") c.typeIs P5
  (wpAny_call_entry P5 c.typeIs entry_tuple_getitem ?_ (args_tuple_getitem _ _)))
 show wpAny _ _ (Builtin.Tuple.tupleItemsOf (.ref t) >>= _) _ _ s;refine on (tupleItemsOf_ c ?_);refine on (wpAny_typeOf hTs ?_);rw[Sc (by decide)];refine on (xx k pl l ?_);have g:¬((((sIx items.size 0 lo:Nat):Int) == 0 && (1:Int) == 1 && (sIx items.size items.size b-sIx items.size 0 lo) == items.size)=true):=by
  intro q;rw[Pc,Pc]at q;have r:((sIx items.size 0 lo:Nat):Int)=0:=eq_of_beq q.1.1;have o:sIx items.size items.size b-sIx items.size 0 lo=items.size:=eq_of_beq q.2;exact hw ⟨by omega,by omega⟩
 show wpAny _ _ (if (((sIx items.size 0 lo:Nat):Int) == 0 && (1:Int) == 1 && (sIx items.size items.size b-sIx items.size 0 lo) == items.size)=true then _ else _) _ _ s;rw[Sb g,Fn]
 first
  | exact on (m:=Builtin.Tuple.tupleExact _) (wpAny_newObj_type (Sa ⟨_,rfl,Sa h⟩) a)
  | exact on (m:=Builtin.Tuple.tupleExact _) (wpAny_newObj_type (on (Sa (Sa ⟨_,rfl,Sa h⟩))) a)
  | exact on (on (m:=Builtin.Tuple.tupleExact _) (wpAny_newObj_type (Sa (Sa ⟨_,rfl,Sa h⟩)) a))
  | exact on (on (m:=Builtin.Tuple.tupleExact _) (wpAny_newObj_type (Sa ⟨_,rfl,Sa h⟩) a))
end
end HT
namespace L2
open PySem PySem.Spec PyProof.Rows
abbrev TO:=St->Hp->(Option Int->Hp->Prop)->Prop
def PO(X:Cx)(e:Option Expr)(t:TO):Prop :=
 ∀(a:List (Addr × Obj)) (s:Shared) (σ:St) (H:Hp) (Q:Option Int->Hp->Prop),ae X a σ H s->t σ H Q ->
  wpAny (model X.prog X.w) X.A (evalPart e X.env) (λu b=>∃o H',ae X a σ H' b/\IsPart u o/\Q o H') X.xe s
def wX:TO:=λ_ H Q=>Q none H
def wU(t:TE):TO:=λσ H Q=>t σ H λx a=>∃i,x=.int i/\Q (some i) a
section
variable {X:Cx}{e:Expr}{te:TE}{lo hi:Option Expr}{tl th:TO}{pos p2:Pos}
def Fl:PO X none wX:=by
 intro a s σ H Q I h;rw[evalPart_none];exact Sa ⟨none,H,I,.none,h⟩
def Fk(h:PE X e te):PO X (some e) (wU te):=by
 intro a s σ H Q I hw;rw[evalPart_some];refine ap (h a s σ H _ I hw) λu s1 ⟨x,f,b,c,d⟩=>?_;obtain⟨i,rfl,q⟩:=d;obtain⟨t,rfl⟩:=c;exact⟨some i,f,b,.int i t,q⟩
def iJ(X:Cx)(r:V->Option Int->Option Int->Hp->VK->Prop):Prop :=
 ∀(a:List (Addr × Obj)) (s:Shared) (σ:St) (H:Hp) (x:V) (v b d:Value) (lo e:Option Int) (c:Addr) (Q:VK),ae X a σ H s->ax x v->s.heap.IsSliceOf c b d .none->IsPart b lo->IsPart d e->r x lo e H Q ->
  ∃T id,typeLookup (.type T) "__getitem__" = pure (some (.builtin id))/\s.TypeIs v T/\wpAny (model X.prog X.w) X.A (getItem v (.ref c)) (EP X a σ Q) X.xe s
def wS(r:V->Option Int->Option Int->Hp->VK->Prop)(d:TE)(f c:TO):TE:=λσ H Q=>d σ H λx e=>f σ e λl b=>c σ b λu a=>r x l u a Q
def FH{r:V->Option Int->Option Int->Hp->VK->Prop}(z:iJ X r)(N:PE X e te)(y:PO X lo tl)(F:PO X hi th):PE X (.Subscript e (.Slice lo hi none p2) pos) (wS r te tl th):=by
 intro a s σ H Q I h;refine Subscript_ (ap (N a s σ H _ I h) λv s1 ⟨x,p,n,G,J⟩=>?_);refine wpAny_Slice (ap (y a s1 σ p _ n J) λf o ⟨l,L,B,pl,m⟩=>ap (F a o σ L _ B m) λd c ⟨u,g,D,i,k⟩=>?_);rw[evalPart_none];refine Sa ?_;have M:ae X a σ g { c with heap:=c.heap.push { cls:=.type "slice",data:=.fields #[f,d,.none] } }:=D.kept (t':=c.toks) λb O q=>Ow _ q;obtain⟨T,id,hT,j,C⟩:=z a { c with heap:=c.heap.push { cls:=.type "slice",data:=.fields #[f,d,.none] } } σ g x v f d l u c.heap.objs.size Q M G (Heap.IsSliceOf.new ..) pl i k;show wpAny (model X.prog X.w) X.A (subscriptTail e (.Slice lo hi none p2) v (.ref c.heap.objs.size)) (EP X a σ Q) X.xe { c with heap:=c.heap.push { cls:=.type "slice",data:=.fields #[f,d,.none] } };exact tail_any (ops:=[.ref c.heap.objs.size,v]) j hT C (by with_unfolding_all rfl)
def ce(xs:List V)(lo a:Option Int):List V:=(xs.drop (HT.sIx xs.length 0 lo)).take (HT.sIx xs.length xs.length a-HT.sIx xs.length 0 lo)
def An(xs:List V)(lo a:Option Int):(ce xs lo a).length<=xs.length:=by
 unfold ce;rw[OG,Qk];omega
def D5(K:W.Frag):V->Option Int->Option Int->Hp->VK->Prop:=λx lo b H Q=>∃a xs,x=.ref a/\bJ K H a xs /\
 ¬(HT.sIx xs.length 0 lo=0/\HT.sIx xs.length xs.length b=xs.length)/\∀p,H p=none->Q (.ref p) (upd H p (.tup (ce xs lo b)))
def Dg:iJ X (D5 X.K):=by
 intro f s σ H x v l n lo e m Q I k j pl i h;obtain⟨a,xs,rfl,hx,hw,q⟩:=h;cases k;obtain⟨d,r,g,hz⟩:=I.tuple hx;have c:d.toArray.size=xs.length:=by rw[OE];exact r.length.symm
 refine⟨"tuple",_,P5.lookup,g.typeIs,?_⟩;refine HT.getItem_tuple_cut g j pl i (by rw[c];exact hw) ?_ (by rw[c];exact hz);rw[c];refine⟨.ref s.heap.objs.size,_,I.laid (t':=s.toks) (o:=.tup (ce xs lo e)) (λb p q=>Ow _ q) (Oo _) ?_,Z,q _ (I.hok.fresh (Oo _))⟩;exact⟨OJ (An xs lo e) hz,_,(r.drop (HT.sIx xs.length 0 lo)).take (HT.sIx xs.length xs.length e-HT.sIx xs.length 0 lo),IsTup.new _ _⟩
def Ef(K:W.Frag):R2:=λx y H Q=>∃a b xs ys,x=.ref a/\y=.ref b/\bJ K H a xs/\bJ K H b ys/\xs≠[]/\xs.length+ys.length<=sizeLine /\
 (ys=[]->Q (.ref a) H)/\(ys≠[]->∀p,H p=none->Q (.ref p) (upd H p (.tup (xs++ys))))
def ay.nil_iff{xs:List V}{us:List Value}(r:ay xs us):us=[] ↔ xs=[]:=by
 cases r with
 | nil=>simp
 | cons _ _=>simp
def Gu:aM X (binaryOp .Add) (Ef X.K):=by
 intro f s σ H x y v u Q I m j h;obtain⟨a,b,xs,k,rfl,rfl,n,B,hx,hz,r,g⟩:=h;cases m;cases j;obtain⟨i,d,l,_⟩:=I.tuple n;obtain⟨e,c,p,_⟩:=I.tuple B;refine HT.cat_tup l p (λz=>hx (d.nil_iff.mp z)) (λz=>⟨.ref a,H,I,rfl,r (c.nil_iff.mp z)⟩) (λz=>?_) (by rw[<- d.length,<- c.length];exact hz);refine⟨.ref s.heap.objs.size,_,I.laid (t':=s.toks) (o:=.tup (xs++k)) (λb C q=>Ow _ q) (Oo _) ?_,Z,g (λw=>z (c.nil_iff.mpr w)) _ (I.hok.fresh (Oo _))⟩;exact⟨by rw[Oz];exact hz,_,d.append c,IsTup.new _ _⟩
end
def gy(n:Nat)(i:Int):Option Nat:=if 0<=i then (if i<n then some i.toNat else none) else if -(n:Int)<=i then some (i+n).toNat else none
def bZ{α:Type}(xs:List α)(i:Int):Option α:=(gy xs.length i).bind λj=>xs[j]?
def Ib{n:Nat}{i:Int}{j:Nat}(h:gy n i=some j):seqIndex? i n=some j/\j<n/\-(n:Int)<=i/\i<n:=by
 unfold gy at h;by_cases h0:0<=i
 ·rw[Sc h0]at h;by_cases h1:i<n
  ·rw[Sc h1]at h;have e:i.toNat=j:=OI h;exact⟨by rw[seqIndex_of h0 h1,e],by omega,by omega,h1⟩
  ·rw[Sb h1]at h;cases h
 ·rw[Sb h0]at h;by_cases h1 : -(n:Int)<=i
  ·rw[Sc h1]at h;have e:(i+n).toNat=j:=OI h;exact⟨by rw[seqIndex_neg (by omega) h1,e],by omega,h1,by omega⟩
  ·rw[Sb h1]at h;cases h
def AG{α:Type}{xs:List α}{i:Int}{v:α}(h:bZ xs i=some v):∃j,seqIndex? i xs.length=some j/\xs[j]? = some v/\j<xs.length/\-(xs.length:Int)<=i/\i<xs.length:=by
 unfold bZ at h;cases e:gy xs.length i with
 | none=>rw[e]at h;cases h
 | some j =>
  rw[e]at h;obtain⟨b,c,a,d⟩:=Ib e;exact⟨j,b,h,c,a,d⟩
def aY{α:Type}{xs:List α}{j:Nat}{v:α}(h:xs[j]? = some v):bZ xs (j:Int)=some v:=by
 have a:j<xs.length:=(Ou.mp h).1;have e:gy xs.length (j:Int)=some j:=by
  unfold gy;rw[Sc (by omega),Sc (by omega)];simp
 unfold bZ;rw[e];exact h
def uZ{α:Type}(xs:List α)(v:α):bZ (xs++[v]) (-1)=some v:=by
 have a:(xs++[v]).length=xs.length+1:=by simp
 have e:gy (xs++[v]).length (-1)=some xs.length:=by
  unfold gy;rw[a,Sb (by decide),Sc (by omega)]
  congr 1
  omega
 unfold bZ;rw[e];show (xs++[v])[xs.length]? = some v;simp
def AQ(b:Expr):Prop:=∀o i,subscripted b false o i=operate [o,i] (getItem o i)
def fh(X:Cx)(r:R2):Prop :=
 ∀(value a:Expr) (b:List (Addr × Obj)) (s:Shared) (σ:St) (H:Hp) (x y:V) (v u:Value) (Q:VK),ae X b σ H s->ax x v->ax y u->r x y H Q ->
  subscripted a false v u=operate [v,u] (getItem v u)->wpAny (model X.prog X.w) X.A (subscriptTail value a v u) (EP X b σ Q) X.xe s
def gK(X:Cx)(id:String)(r:V->List V->Hp->VK->Prop):Prop :=
 ∀(a:List (Addr × Obj)) (s:Shared) (σ:St) (H:Hp) (x:V) (xs:List V) (v:Value) (us:List Value) (Q:VK),ae X a σ H s->ax x v->ay xs us->r x xs H Q ->
  wpAny (model X.prog X.w) X.A (call (.builtin id) (v::us)) (EP X a σ Q) X.xe s
section
variable {X:Cx}{a b:Expr}{ta tb:TE}{pos:Pos}
def fh.or{r d:R2}(h:fh X r)(h':fh X d):fh X (λx y H Q=>r x y H Q\/d x y H Q):=by
 intro value a b s σ H x y v u Q I e f q c;rcases q with q|q
 ·exact h value a b s σ H x y v u Q I e f q c
 ·exact h' value a b s σ H x y v u Q I e f q c
def FM{r:R2}(m:fh X r)(j:PE X a ta)(l:PE X b tb)(f:AQ b):PE X (.Subscript a b pos) (fW r ta tb):=by
 intro c s σ H Q I h;exact Subscript_ (uW j l I h λv u g x y e d i k q=>m a b c g σ e x y v u Q d i k q (f _ _))
def Eb(K:W.Frag):R2:=λx y H Q=>∃p xs i v,x=.ref p/\y=.int i/\aJ K H p xs/\bZ xs i=some v/\Q v H
def Ea(K:W.Frag):R2:=λx y H Q=>∃p xs i v,x=.ref p/\y=.int i/\bJ K H p xs/\bZ xs i=some v/\Q v H
def Ia:fh X (Eb X.K):=by
 intro value e a s σ H x y v u Q I G o h l;obtain⟨p,xs,i,z,rfl,rfl,F,J,q⟩:=h;cases G;obtain⟨t,rfl⟩:=o;obtain⟨d,r,pl,hz⟩:=I.list F;obtain⟨j,c,B,M,D,m⟩:=AG J;obtain⟨w,k,g⟩:=r.get B;have C:=r.length;have L:=oZ;have b:EP X a σ Q w s:=⟨z,H,I,g,q⟩;by_cases h0:0<=i
 ·have f:i.toNat=j:=by
   rw[seqIndex_of h0 m]at c;exact OI c
  exact item_listR pl.isList h0 (by omega) (by rw[f];simpa using k) b l
 ·have f:(i+(d.toArray.size:Int)).toNat=j:=by
   rw[seqIndex_neg (by omega) D]at c;rw[OE,<- C];exact OI c
  exact subscriptTail_builtinR (x:=w) pl.isList.typeIs slot_list_getitem.lookup
   (wpAny_getItem_list_neg (Q:=λr n=>r=w/\EP X a σ Q r n) pl.isList (by omega) (by rw[OE]<;>omega) (by omega) (by rw[f];simpa using k) ⟨rfl,b⟩) l
def HZ:fh X (Ea X.K):=by
 intro value b a s σ H x y v u Q I o k h B;obtain⟨p,xs,i,z,rfl,rfl,n,C,q⟩:=h;cases o;obtain⟨t,rfl⟩:=k;obtain⟨f,r,pl,hz⟩:=I.tuple n;obtain⟨j,D,l,L,J,F⟩:=AG C;obtain⟨w,e,c⟩:=r.get l;have m:=r.length;have G:=oZ;have d:EP X a σ Q w s:=⟨z,H,I,c,q⟩;exact subscriptTail_builtinR (x:=w) pl.typeIs slot_tuple_getitem.lookup
  (getItem_tuple (j:=j) (Q:=λr g=>r=w/\EP X a σ Q r g) pl (by omega) (by omega) (by rw[OE,<- m];exact D) (by simpa using e) ⟨rfl,d⟩) B
def De(lo a:Option Int)(n:Nat):(sliceBounds lo a none n).1=((HT.sIx n 0 lo:Nat):Int)/\(sliceBounds lo a none n).2.1=((HT.sIx n n a:Nat):Int)/\(sliceBounds lo a none n).2.2=1:=by
 refine⟨?_,?_,Z⟩
 ·cases lo with
  | none=>simp[sliceBounds,HT.sIx]
  | some i =>
   simp only [sliceBounds,HT.sIx,Q3,show (1:Int) > 0 by decide,if_true];by_cases h:i<0
   ·simp only [h,if_true]<;>omega
   ·simp only [h,if_false]<;>omega
 ·cases a with
  | none=>simp[sliceBounds,HT.sIx]
  | some i =>
   simp only [sliceBounds,HT.sIx,Q3,show (1:Int) > 0 by decide,if_true];by_cases h:i<0
   ·simp only [h,if_true]<;>omega
   ·simp only [h,if_false]<;>omega
def Df(a:List Value)(lo b:Option Int):slicePick a.toArray lo b none=((a.drop (HT.sIx a.length 0 lo)).take (HT.sIx a.length a.length b-HT.sIx a.length 0 lo)).toArray:=by
 obtain⟨e,d,c⟩:=De lo b a.toArray.size;unfold slicePick;rw[e,d,c];simp only [sliceRange_one,pick_run,OE]<;>rfl
def D6(K:W.Frag):V->Option Int->Option Int->Hp->VK->Prop:=λx lo b H Q=>∃a xs,x=.ref a/\aJ K H a xs/\∀p,H p=none->Q (.ref p) (upd H p (.lst (ce xs lo b)))
def Dh:iJ X (D6 X.K):=by
 intro e s σ H x v l n lo d m Q I k j pl i h;obtain⟨a,xs,rfl,hx,q⟩:=h;cases k;obtain⟨g,r,f,hz⟩:=I.list hx;have c:=r.length;refine⟨"list",_,slot_list_getitem.lookup,f.isList.typeIs,?_⟩;refine wpAny_getItem_list_slice f.isList j pl i .none (by simp) ?_ (by rw[OE]<;>omega);rw[Df,<- c];refine⟨.ref s.heap.objs.size,_,I.laid (t':=s.toks) (o:=.lst (ce xs lo d)) (λb p q=>Ow _ q) (Oo _) ?_,Z,q _ (I.hok.fresh (Oo _))⟩;exact⟨OJ (An xs lo d) hz,_,0,(r.drop (HT.sIx xs.length 0 lo)).take (HT.sIx xs.length xs.length d-HT.sIx xs.length 0 lo),OB _ Z⟩
def fO:V->Bool
 | .non=>true
 | .bl _=>true
 | .int _=>true
 | .str _=>true
 | _=>false
def h9:V->V->Bool
 | .non,.non=>true
 | .bl a,.bl b=>a == b
 | .bl a,.int b=>(if a then 1 else 0) == b
 | .int a,.bl b=>a == (if b then 1 else 0)
 | .int a,.int b=>a == b
 | .str a,.str b=>a == b
 | _,_=>false
def KS{A:Around}{s:Shared}{y x:V}{u v:Value}(d:ax y u)(c:ax x v)(f:fO y=true)(e:fO x=true):SeqAt.EqAt A s u v (h9 y x):=by
 cases y with
 | non =>
  cases d;cases x with
  | non=>cases c;exact SeqAt.EqAt.same _
  | bl b=>cases c;exact SeqAt.EqAt.none_bool b
  | int b=>obtain⟨t,rfl⟩:=c;exact SeqAt.EqAt.none_int b t
  | str b=>obtain⟨t,rfl⟩:=c;exact SeqAt.EqAt.none_str b t
  | _=>exact Sd (show false=true from e) OL
 | bl a =>
  cases d;cases x with
  | non=>cases c;exact SeqAt.EqAt.bool_none a
  | bl b=>cases c;exact SeqAt.EqAt.bool_bool a b
  | int b=>obtain⟨t,rfl⟩:=c;exact SeqAt.EqAt.bool_int a b t
  | str b=>obtain⟨t,rfl⟩:=c;exact SeqAt.EqAt.bool_str a b t
  | _=>exact Sd (show false=true from e) OL
 | int a =>
  obtain⟨t',rfl⟩:=d;cases x with
  | non=>cases c;exact SeqAt.EqAt.int_none a t'
  | bl b=>cases c;exact SeqAt.EqAt.int_bool a t' b
  | int b=>obtain⟨t,rfl⟩:=c;exact SeqAt.EqAt.int_int a t' b t
  | str b=>obtain⟨t,rfl⟩:=c;exact SeqAt.EqAt.int_str a t' b t
  | _=>exact Sd (show false=true from e) OL
 | str a =>
  obtain⟨t',rfl⟩:=d;cases x with
  | non=>cases c;exact SeqAt.EqAt.str_none a t'
  | bl b=>cases c;exact SeqAt.EqAt.str_bool a t' b
  | int b=>obtain⟨t,rfl⟩:=c;exact SeqAt.EqAt.str_int a t' b t
  | str b=>obtain⟨t,rfl⟩:=c;exact SeqAt.EqAt.str_str a t' b t
  | _=>exact Sd (show false=true from e) OL
 | _=>exact Sd (show false=true from f) OL
def ia(x:V)(u:Value):Bool:=match u with
 | .none=>h9 .non x
 | .bool b=>h9 (.bl b) x
 | .int i _=>h9 (.int i) x
 | .str z _=>h9 (.str z) x
 | _=>false
def zY{x y:V}{u:Value}(r:ax y u)(f:fO y=true):ia x u=h9 y x:=by
 cases y with
 | non=>cases r;rfl
 | bl b=>cases r;rfl
 | int i=>obtain⟨t,rfl⟩:=r;rfl
 | str z=>obtain⟨t,rfl⟩:=r;rfl
 | _=>exact Sd (show false=true from f) OL
theorem va{x:V}:∀ {xs:List V} {us:List Value},ay xs us->xs.all fO=true->us.any (ia x)=xs.any λy=>h9 y x
 | _,_,.nil,_=>rfl
 | y::xs,u::us,.cons r t,f=>by
  rw[List.all_cons,Pc]at f;rw[P4,P4,zY r f.1,va t f.2]
theorem rO{A:Around}{s:Shared}{x:V}{v:Value}(c:ax x v)(b:fO x=true):∀ {xs:List V} {us:List Value},ay xs us->xs.all fO=true->∀u∈us,SeqAt.EqAt A s u v (ia x u)
 | _,_,.nil,_=>λu a=>by cases a
 | y::xs,u::us,.cons r t,f=>λd a=>by
  rw[List.all_cons,Pc]at f;rcases OT.mp a with rfl|a
  ·rw[zY r f.1];exact KS r c f.1 b
  ·exact rO c b t f.2 d a
def hW(x:V)(xs:List V):Bool:=xs.any λy=>h9 y x
def Ec(K:W.Frag)(neg:Bool):R2:=λx y H Q=>∃p xs,y=.ref p/\(aJ K H p xs\/bJ K H p xs)/\fO x=true/\xs.all fO=true/\Q (.bl (if neg then !hW x xs else hW x xs)) H
def Gk:aM X (compareOp .NotIn) (Ec X.K true):=by
 intro d s σ H x y v u Q I e f h;obtain⟨p,xs,rfl,b,c,fs,q⟩:=h;cases f;rcases b with b|b
 ·obtain⟨a,r,pl,hz⟩:=I.list b;refine SeqAt.notIn_listAt (ia x) pl.isList (λw hw=>rO e c r fs w (by simpa using hw)) ⟨.bl _,H,I,rfl,?_⟩;rw[show a.toArray.any (ia x)=a.any (ia x) by simp,va r fs];exact q
 ·obtain⟨a,r,pl,hz⟩:=I.tuple b;refine SeqAt.notIn_tupleAt (ia x) pl (λw hw=>rO e c r fs w (by simpa using hw)) ⟨.bl _,H,I,rfl,?_⟩;rw[show a.toArray.any (ia x)=a.any (ia x) by simp,va r fs];exact q
def LF:bV X (.builtin "len") (λxs H Q=>∃p b,xs=[.ref p]/\(aJ X.K H p b\/bJ X.K H p b)/\Q (.int b.length) H):=by
 intro f s σ H xs us Q I r h;obtain⟨p,b,rfl,c,q⟩:=h;obtain⟨u,rfl,g⟩:=jJ r;cases g;have i:=oZ;rcases c with c|c
 ·obtain⟨d,e,pl,hz⟩:=I.list c;have a:=e.length;exact Calls.call_len_list pl.isList (by simp only [OE]<;>omega) ⟨.int b.length,H,I.tok _,⟨s.toks+1,by rw[OE,a]⟩,q⟩
 ·obtain⟨d,e,pl,hz⟩:=I.tuple c;have a:=e.length;exact len_tuple pl (by simp only [OE]<;>omega) ⟨.int b.length,H,I.tok _,⟨s.toks+1,by rw[OE,a]⟩,q⟩
def LE:bV X (.type "list") (λxs H Q=>∃p c,xs=[.ref p]/\(aJ X.K H p c\/bJ X.K H p c)/\∀l,H l=none->Q (.ref l) (upd H l (.lst c))):=by
 intro g s σ H xs us Q I r h;obtain⟨p,c,rfl,i,q⟩:=h;obtain⟨u,rfl,x⟩:=jJ r;cases x;have k:∀(a:List Value),ay c a->c.length<=sizeLine->∀(h':Heap) (f:Nat),(∀b o',s.heap.get? b=some o'->h'.get? b=some o') ->
  h'.get? s.heap.objs.size=some { cls:=.type "list",dict:=none,data:=.seq a.toArray f,slots:=#[] }->EP X g σ Q (.ref s.heap.objs.size) { s with heap:=h' }:=λa d hz h' f kp e =>
  ⟨.ref s.heap.objs.size,_,I.laid (t':=s.toks) kp (Oo _) (show bd X.prog X.w _ h' _ (.lst c) from ⟨hz,a,f,d,e⟩),rfl,q _ (I.hok.fresh (Oo _))⟩
 rcases i with i|i
 ·obtain⟨a,d,pl,hz⟩:=I.list i;have j:=d.length;obtain⟨o,m,v,n,hd⟩:=pl.isList;exact call_list_seq p (.inl rfl) m v hd (λh' f kp e=>k a d hz h' f kp e) (by simp only [OE]<;>omega)
 ·obtain⟨a,d,pl,hz⟩:=I.tuple i;have j:=d.length;obtain⟨o,m,v,n,hd⟩:=pl;exact call_list_seq p (.inr rfl) m v hd (λh' f kp e=>k a d hz h' f kp e) (by simp only [OE]<;>omega)
def LD:bV X (.type "tuple") (λxs H Q=>∃p d,xs=[.ref p]/\((aJ X.K H p d/\∀l,H l=none->Q (.ref l) (upd H l (.tup d)))\/(bJ X.K H p d/\Q (.ref p) H))):=by
 intro a s σ H xs us Q I r h;obtain⟨p,d,rfl,h⟩:=h;obtain⟨u,rfl,k⟩:=jJ r;cases k;rcases h with ⟨hq,q⟩|⟨hq,q⟩
 ·obtain⟨c,f,pl,hz⟩:=I.list hq;have i:=f.length;refine call_tuple_list pl.isList (λh' kp=>?_) (by simp only [OE]<;>omega);have g:ae X a σ H { s with heap:=h' }:=I.kept (t':=s.toks) kp;have j:ae X a σ (upd H h'.objs.size (.tup d)) { s with heap:=h'.push { cls:=.type "tuple",data:=.seq c.toArray } } :=
   g.laid (t':=s.toks) (λb o e=>Ow _ e) (Oo _) (show bd X.prog X.w _ _ _ (.tup d) from ⟨hz,c,f,IsTup.new _ _⟩)
  exact⟨.ref h'.objs.size,_,j,Z,q _ (g.hok.fresh (Oo _))⟩
 ·obtain⟨c,f,pl,hz⟩:=I.tuple hq;exact call_tuple_same pl ⟨.ref p,H,I,Z,q⟩
def qK(K:W.Frag)(T:String)(x:V)(H:Hp):Prop:=match x with
 | .str _=>T = "str"
 | .int _=>T = "int"
 | .ref p=>(T = "list"/\∃xs,aJ K H p xs)\/(T = "tuple"/\∃o,K.lookup p=some o/\o.cls=.type "tuple"/\o.dict=none) \/
  (T = "dict"/\((∃kvs,H p=some (.dK kvs))\/∃kvs,H p=some (.dT kvs)))\/(T = "set"/\∃S n,H p=some (.set S n))
 | _=>False
def wM{b:List (Addr × Obj)}{σ:St}{H:Hp}{s:Shared}{T:String}{x:V}{v:Value}(I:ae X b σ H s)(r:ax x v)(ty:qK X.K T x H) :
 s.TypeIs v T/\∀a,v=.ref a->∃ob,s.heap.get? a=some ob/\ob.dict=none:=by
 cases x with
 | str z =>
  obtain⟨t,rfl⟩:=r;cases (show T = "str" from ty);exact⟨typeIs_str s z t,λ_ e=>nomatch e⟩
 | int i =>
  obtain⟨t,rfl⟩:=r;cases (show T = "int" from ty);exact⟨typeIs_int s i t,λ_ e=>nomatch e⟩
 | ref p =>
  cases r;rcases ty with ⟨rfl,xs,hq⟩|⟨rfl,o,hk,hc,hd⟩|⟨rfl,hk⟩|⟨rfl,S,n,hk⟩
  ·obtain⟨f,_,pl,_⟩:=I.list hq;refine⟨pl.isList.typeIs,λa e=>?_⟩;cases e;obtain⟨o,n,e,c,hd,_⟩:=pl;exact⟨o,e,hd⟩
  ·refine⟨⟨o,I.kIn p o hk,hc⟩,λa e=>?_⟩;cases e;exact⟨o,I.kIn _ o hk,hd⟩
  ·have z:∃o,s.heap.get? p=some o/\o.ExactDict:=by
    rcases hk with ⟨kvs,hk⟩|⟨kvs,hk⟩
    ·obtain⟨_,_,_,_,o,_,_,e,ex,_⟩:=I.hok p _ hk;exact⟨o,e,ex⟩
    ·obtain⟨_,_,_,_,o,_,_,e,ex,_⟩:=I.hok p _ hk;exact⟨o,e,ex⟩
   obtain⟨o,e,ex⟩:=z;refine⟨⟨o,e,ex.1⟩,λa d=>?_⟩;cases d;exact⟨o,e,ex.2.1⟩
  ·obtain⟨o,_,_,_,e,ex,_⟩:=I.hok p _ hk;refine⟨⟨o,e,ex.1⟩,λa d=>?_⟩;cases d;exact⟨o,e,ex.2.1⟩
 | _=>exact False.elim ty
def qP(K:W.Frag)(T:String)(r:V->List V->Hp->VK->Prop)(to:TE):TE:=λσ H Q=>to σ H λx a=>qK K T x a/\r x [] a Q
def qQ(K:W.Frag)(T:String)(r:V->List V->Hp->VK->Prop)(to:TE)(t:TA):TE:=λσ H Q=>to σ H λx a=>qK K T x a/\t σ a λxs b=>r x xs b Q
variable {o e:Expr}{es:List Expr}{to:TE}{t:TA}{name:Str}{apos cpos:Pos}{T id:String}{r:V->List V->Hp->VK->Prop}
def FZ (i:PlainAttrs T) (slot:Slot T name id) (d:typeOf (.builtin id)=pure (.type "method_descriptor")) (l:gK X id r) (g:PE X o to)
 (b:attributeBase o name X.env (eval o X.env)=eval o X.env:=by rfl) (c:(apos.endLine == cpos.line)=true:=by rfl):PE X (.Call (.Attribute o name apos) [] [] cpos) (qP X.K T r to):=by
 intro a s σ H Q I h;refine wpAny_Call_method0_late b c (ap (g a s σ H _ I h) λv s1 ⟨x,m,e,f,ty,n⟩=>?_);obtain⟨k,j⟩:=wM e f ty;exact⟨T,id,i,slot,d,k,j,Calls.callWith_builtin Z (PySem.evalArgs_none (l a s1 σ m x [] v [] Q e f .nil n))⟩
def Ga (k:PlainAttrs T) (slot:Slot T name id) (g:typeOf (.builtin id)=pure (.type "method_descriptor")) (G:gK X id r) (y:PE X o to) (l:PA X (e::es) t)
 (d:attributeBase o name X.env (eval o X.env)=eval o X.env:=by rfl)
 (f:((backTo cpos (starEach (e::es) X.env)).all (λx=>!x.1) && (backToKw cpos (keywordEach [] X.env)).all (λx=>x.1.isSome)
   && decide ((e::es).length+([]:List Keyword).length+(if ([]:List Keyword).isEmpty then 0 else 1)<30))=true:=by rfl)
 (c:(apos.endLine == cpos.line)=true:=by rfl) (D:starEach (e::es) X.env=(false,eval e X.env)::starEach es X.env:=by rfl) (b:(backTo cpos (starEach es X.env)).any (·.1)=false:=by rfl) :
 PE X (.Call (.Attribute o name apos) (e::es) [] cpos) (qQ X.K T r to t):=by
 intro a s σ H Q I h;refine wpAny_Call_method_late d f c Z (ap (y a s σ H _ I h) λv s1 ⟨x,q,i,j,ty,B⟩=>?_);obtain⟨F,n⟩:=wM i j ty;refine⟨T,id,k,slot,g,F,n,?_⟩;have hA:=l cpos a s1 σ q _ i B;rw[D]at hA ⊢;refine Calls.callWith_builtin (by show (false || (backTo cpos (starEach es X.env)).any (·.1))=false;rw[b]<;>rfl) (Calls.evalArgs_plain ?_);exact ap hA λus p ⟨vs,C,u,z,m⟩=>G a p σ C x vs v us Q u j z m
end
def wx(X:Cx)(id:String)(r:V->List V->Hp->VK->Prop):Prop :=
 ∀(a:List (Addr × Obj)) (s:Shared) (σ:St) (H:Hp) (x:V) (xs:List V) (v:Value) (us:List Value) (Q:VK),ae X a σ H s->ax x v->ay xs us->r x xs H Q ->
  wpAny (model X.prog X.w) X.A (call (.builtin id) (v::us)) (EP X a σ Q) X.xe s
theorem ay.one:∀ {x:V} {us:List Value},ay [x] us->∃u,us=[u]/\ax x u
 | _,_,.cons r .nil=>⟨_,rfl,r⟩
theorem ay.zero:∀ {us:List Value},ay [] us->us=[]
 | _,.nil=>rfl
def ay.dropLast{xs:List V}{us:List Value}(h:ay xs us):ay xs.dropLast us.dropLast:=by
 induction h with
 | nil=>exact .nil
 | cons r t ih =>
  cases t with
  | nil=>exact .nil
  | cons q t'=>exact .cons r ih
theorem ay.rep{xs:List V}{us:List Value}(h:ay xs us):∀k:Nat,ay (List.replicate k xs).flatten (List.replicate k us).flatten
 | 0=>.nil
 | k+1=>by
  rw[PD,PD,Ql,Ql];exact ay.append h (ay.rep h k)
def KO{α:Type}(l:List α):l.eraseIdx (l.length-1)=l.dropLast:=by
 induction l with
 | nil=>rfl
 | cons a r ih =>
  cases r with
  | nil=>rfl
  | cons b r =>
   have e:(a::b::r).length-1=((b::r).length-1)+1:=by
    have c:(a::b::r).length=r.length+2:=rfl;have d:(b::r).length=r.length+1:=rfl;omega
   rw[e,List.eraseIdx_cons_succ,ih]
   all_goals rfl
theorem zT(a:List Value):∀(k:Nat) (b:List Value),
 List.foldl (λf d=>f++d) b.toArray (List.replicate k a.toArray)=(b++(List.replicate k a).flatten).toArray
 | 0,b=>by simp
 | k+1,b=>by
  have e:b.toArray++a.toArray=(b++a).toArray:=by simp
  have c:(b++a)++(List.replicate k a).flatten=b++(List.replicate (k+1) a).flatten:=by
   rw[PD,Ql,Pr]
  rw[<- c,<- zT a k (b++a),<- e,PD,List.foldl_cons]
section
variable {X:Cx}{pins:List (Addr × Obj)}{σ:St}{H:Hp}{s:Shared}{l b:Addr}{xs ys zs:List V}
def ae.lset{a its':List Value}{n:Nat}{f:Array Value->Array Value}{t':Nat}(I:ae X pins σ H s)(hH:H l=some (.lst xs))
 (e:s.heap.get? l=some { cls:=.type "list",data:=.seq a.toArray n }) (d:f a.toArray=its'.toArray) (c:ay ys its') (hz:ys.length<=sizeLine) :
 ae X pins σ (upd H l (.lst ys)) { s with heap:=s.heap.update l (Obj.mapSeq f),toks:=t' }:=by
 have q:=PySem.IsL.update e f;rw[d]at q;refine I.write (x:=l) (e:=l) (by rw[hH];exact trivial) (.inl Z) (λb' u g b=>(RB s.heap (Obj.mapSeq f) (Ne.symm g)).trans b) ⟨_,q⟩ ?_;exact⟨hz,its',_,c,q⟩
def ae.lnew{a:List Value}{t':Nat}(I:ae X pins σ H s)(b:ay ys a)(hz:ys.length<=sizeLine) :
 ae X pins σ (upd H s.heap.objs.size (.lst ys)) { s with heap:=s.heap.push { cls:=.type "list",data:=.seq a.toArray },toks:=t' } :=
 I.laid (λ_ _ q=>Ow _ q) (Oo _) ⟨hz,a,0,b,OB _ rfl⟩
def ae.fresh(I:ae X pins σ H s):H s.heap.objs.size=none:=I.hok.fresh (Oo _)
def ae.lstM(I:ae X pins σ H s)(hH:H l=some (.lst xs)):xs.length<=sizeLine/\∃(a:List Value) (n:Nat),ay xs a/\xs.length=a.length/\s.heap.get? l=some { cls:=.type "list",data:=.seq a.toArray n }:=by
 obtain⟨z,a,n,r,e⟩:=I.hok l _ hH;exact⟨z,a,n,r,r.length,e⟩
def oQ{n:Nat}(h:n<=sizeLine):Builtin.List.listTooLong n=false:=by
 unfold Builtin.List.listTooLong;exact Sh (by omega)
end
section
variable {X:Cx}
def Eg:V->List V->Hp->VK->Prop:=λx vs H Q=>∃l xs y,x=.ref l/\vs=[y]/\H l=some (.lst xs)/\xs.length<sizeLine/\Q .non (upd H l (.lst (xs++[y])))
def GK:wx X "list.append" Eg:=by
 intro b s σ H x vs v us Q I d f h;obtain⟨l,xs,y,rfl,rfl,hH,hz,q⟩:=h;cases d;obtain⟨u,rfl,c⟩:=f.one;obtain⟨z,a,n,r,g,e⟩:=I.lstM hH;refine call_meets F.slot_list_append ⟨_,e,rfl⟩ F.entry_list_append (F.args_list_append_2 _ _) (PySem.list_append l a.toArray n u (by rw[OE];omega)) ⟨e,?_⟩;refine⟨.non,_,I.lset (its':=a++[u]) hH e (by simp) (r.append (.cons c .nil)) ?_,rfl,q⟩;rw[Oz,RC];omega
def Ed:V->List V->Hp->VK->Prop:=λx vs H Q=>∃l b xs zs,x=.ref l/\vs=[.ref b]/\H l=some (.lst xs)/\H b=some (.lst zs)/\xs.length+zs.length<=sizeLine/\Q .non (upd H l (.lst (xs++zs)))
def GH:wx X "list.extend" Ed:=by
 intro f s σ H x vs v us Q I m o h;obtain⟨l,b,xs,y,rfl,rfl,hH,hB,hz,q⟩:=h;cases m;obtain⟨u,rfl,j⟩:=o.one;cases j;obtain⟨z,c,n,r,B,e⟩:=I.lstM hH;obtain⟨z2,a,p,i,k,g⟩:=I.lstM hB;have hsz:c.toArray.size+a.toArray.size<=sizeLine:=by rw[OE,OE];omega
 have d:¬(!c.toArray.isEmpty && Builtin.List.listTooLong (c.toArray.size+a.toArray.size))=true:=by
  rw[oQ hsz,Bool.and_false];exact OL
 refine call_meets F.slot_list_extend ⟨_,e,Z⟩ F.entry_list_extend (F.args_list_extend_2 _ _)
  (AutoSeq1.list_extend_list_list_0 l c.toArray n b a.toArray p d (by rw[OE];omega) (by omega)) ⟨e,g,?_⟩
 refine⟨.non,_,I.lset (its':=c++a) hH e (by simp) (r.append i) ?_,rfl,q⟩;rw[Oz];omega
def D8:V->List V->Hp->VK->Prop:=λx vs H Q=>∃l xs y,x=.ref l/\vs=[]/\H l=some (.lst xs)/\xs[xs.length-1]? = some y/\Q y (upd H l (.lst xs.dropLast))
def GG:wx X "list.pop" D8:=by
 intro d s σ H x vs v us Q I i k h;obtain⟨l,xs,y,rfl,rfl,hH,hy,q⟩:=h;cases i;have b:=k.zero;subst b;obtain⟨z,a,n,r,j,e⟩:=I.lstM hH;obtain⟨u,f,g⟩:=r.get hy;have c:a.toArray[a.toArray.size-1]? = some u:=by
  show a.toArray[a.length-1]? = some u;rw[<- Qw,<- j];exact f
 refine call_meets F.slot_list_pop ⟨_,e,rfl⟩ F.entry_list_pop (F.args_list_pop_1 _) (MeetsSeq.list_pop_last l a.toArray n u c (by rw[OE];omega)) ⟨e,?_⟩;refine⟨y,_,I.lset (its':=a.dropLast) hH e ?_ r.dropLast ?_,g,q⟩
 ·show a.toArray.eraseIdxIfInBounds (a.toArray.size-1)=a.dropLast.toArray;rw[OE,List.eraseIdxIfInBounds_toArray,KO]
 ·rw[List.length_dropLast];omega
def D7:R2:=λx y H Q=>∃l k xs,x=.ref l/\y=.int k/\H l=some (.lst xs)/\-(2 ^ 63)<=k/\k<2 ^ 63/\xs.length*k.toNat<=sizeLine /\
 ∀p,H p=none->Q (.ref p) (upd H p (.lst (List.replicate k.toNat xs).flatten))
def HH{α:Type}(xs:List α)(k:Nat):(List.replicate k xs).flatten.length=k*xs.length:=by
 induction k with
 | zero=>simp
 | succ k ih=>rw[PD,Ql,Oz,ih,Nat.succ_mul,Nat.add_comm]
def Gi:aM X (binaryOp .Mult) D7:=by
 intro p s σ H x y v u Q I J L h;obtain⟨l,k,xs,rfl,rfl,hH,G,B,hz,q⟩:=h;cases J;obtain⟨t,rfl⟩:=L;obtain⟨z,b,n,r,M,e⟩:=I.lstM hH;have i:b.toArray.size*k.toNat<=sizeLine:=by rw[OE,<- M];exact hz
 have g:¬b.toArray.size*k.toNat > (2 ^ 63-1)/8:=by
  have:(sizeLine:Nat)<=(2 ^ 63-1)/8:=by decide
  omega
 have f:¬(!Builtin.List.listFitsIndex k)=true:=by
  rw[fitsIndex_both G B];exact OL
 have c:¬Builtin.List.listTooLong (b.toArray.size*k.toNat)=true:=by
  rw[oQ i];exact OL
 have d:List.foldl (λo j=>o++j) #[] (List.replicate (if b.toArray.isEmpty=true then 0 else k.toNat) b.toArray)=(List.replicate k.toNat b).flatten.toArray:=by
  have C:∀m:Nat,List.foldl (λo j=>o++j) #[] (List.replicate m b.toArray)=(List.replicate m b).flatten.toArray:=λm=>by
   have:=zT b m [];rw[List.nil_append]at this;exact this
  rw[C];cases b with
  | nil=>simp
  | cons a r'=>rw[Sb (by simp)]
 refine wpAny_binaryOp_repeat_ref (T := "list") (U := "int") (by decide) ⟨_,e,rfl⟩ (λD=>typeIs_int D k t) noFill_list_mul F.fills_int_mul F.slot_int_rmul repeat_list F.slot_int_index.lookup
  (call_meets F.slot_int_rmul (typeIs_int s k t) F.entry_int_rmul (F.args_int_rmul_2 _ _) (int___rmul___int_list k t l b.toArray n)
    ⟨e,rfl,⟨_,e,rfl⟩,call_meets F.slot_list_mul ⟨_,e,rfl⟩ F.entry_list_mul (F.args_list_mul_2 _ _) (AutoListH.list___mul___list_int_3 l b.toArray n k t f g c) ⟨e,?_⟩⟩)
 rw[d];exact⟨.ref _,_,I.lnew (t':=s.toks) (r.rep k.toNat) (by rw[HH,Q4];exact hz),Z,q _ I.fresh⟩
end
section
variable {prog:Program}{w:World}{A:Around}{E:Value->Shared->Prop}{s:Shared}
def L4{a c n:Nat}(b:a<=c)(f:c<=n):sliceBounds (some (a:Int)) (some (c:Int)) none n=((a:Int),(c:Int),1):=by
 simp only [sliceBounds,Q3];have e:¬((a:Int)<0):=by omega
 have d:¬((c:Int)<0):=by omega
 simp only [e,d,if_false,show (1:Int) > 0 by decide,if_true]
 congr 1
 ·omega
 ·congr 1;omega
set_option maxRecDepth 100000 in
def NQ{l b j:Addr}{items new:Array Value}{n C:Nat}{u p:Value}{a c:Nat}{Q:Unit->Shared->Prop}
 (e:s.heap.get? l=some { cls:=.type "list",data:=.seq items n }) (z:s.heap.get? b=some { cls:=.type "list",data:=.seq new C }) (o:l≠b)
 (G:s.heap.IsSliceOf j u p .none) (pl:IsPart u (some (a:Int))) (B:IsPart p (some (c:Int))) (v:a<=c) (F:c<=items.size)
 (hsz:items.size+new.size<=sizeLine) (h:Q () { s with heap:=s.heap.update l (Obj.mapSeq λxs=>xs.extract 0 a++new++xs.extract c xs.size) }) :
 wpAny (model prog w) A (setItem (.ref l) (.ref j) (.ref b)) Q E s:=by
 have q:s.heap.IsList l items:=PySem.IsL.isList e;have D:s.heap.IsList b new:=PySem.IsL.isList z;obtain⟨os,f,r,g⟩:=id G;have hTs:s.TypeIs (.ref j) "slice":=⟨os,f,r⟩;have i:¬((rawPart none == rawInt 0)=true):=OL;have d:Builtin.List.listSameRef (.ref l) (.ref b)=false:=by
  unfold Builtin.List.listSameRef;exact beq_eq_false_iff_ne.mpr o
 have k:(max (a:Int) (c:Int)).toNat=c:=by omega
 have y:((λxs:Array Value=>xs.extract 0 a++new++xs.extract c xs.size) items).size<=sizeLine+1:=by
  simp only [Array.size_append,Array.size_extract];omega
 unfold setItem
 try with_reducible refine wpAny_holding ?_
 first|refine on (Sa ?_)|skip
 refine on (wpAny_sequenceKey q.typeIs (by decide) ?_);refine on (wpAny_callSpecial?_slot (name:=Str.ofString "__setitem__") q.typeIs slot_list_setitem
  (wpAny_call_entry slot_list_setitem q.typeIs entry_list_setitem ?_ (args_list_setitem _ _ _)))
 show wpAny _ _ (Builtin.List.listSubscript? (.ref j) >>= _) _ _ s;refine on ?_;unfold Builtin.List.listSubscript?;refine on (wpAny_specialOf hTs slice_no_index ?_);simp only [Option.isNone_none,if_true];refine Sa ?_;show wpAny _ _ (typeOf (.ref j) >>= _) _ _ s;refine on (wpAny_typeOf hTs ?_)
 first
  | rw[Sb (by decide)]
  | refine W.KFB.if_not (by decide) ?_
 rw[listSliceParts_eq];refine on (on (wpAny_field f g (x:=.none) Z (on (wpAny_listPart .none ?_))));rw[Sb i];refine on (wpAny_field f g (x:=u) Z (on (wpAny_listPart pl ?_)));refine on (wpAny_field f g (x:=p) Z (on (wpAny_listPart B (Sa ?_))))
 first
  | simp only [d,OO,if_false]
  | refine W.KFB.if_not d ?_
  | (dsimp only
     rw[Sb (by rw[d];exact OL)])
 refine on (m:=Builtin.List.listAllItems (.ref b) "must assign iterable to extended slice") ?_;unfold Builtin.List.listAllItems;refine on (wpAny_typeOf D.typeIs ?_)
 first
  | refine W.KFB.if_so (by decide) ?_
  | rw[Sc (by decide)]
  | simp only [beq_self_eq_true,Bool.true_or,if_true]
 unfold Builtin.List.listItems;refine on (wpAny_seqItems z Z (Sa ?_));refine on (on (wpAny_seqItems e Z (Sa ?_)));refine on (wpAny_of_eq ((sliceIndices_raw (some (a:Int)) (some (c:Int)) none items.size (by simp)).trans (congrArg (pure:Int × Int × Int->Sem (Int × Int × Int)) (L4 v F))) ?_);show wpAny _ _ (if ((1:Int) == 1)=true then _ else _) _ _ s;rw[Sc (by decide)];refine on (wpAny_rule ?_)
 first
  | simp only [oQ hsz,OO,if_false]
  | refine W.KFB.if_not (oQ hsz) ?_
 first|refine on (Sa ?_)|skip
 show wpAny _ _ (updateSeq l (λxs=>xs.extract 0 ((a:Int)).toNat++new++xs.extract (max (a:Int) (c:Int)).toNat xs.size) >>= _) _ _ s;rw[k,OX];refine on (wpAny_updateSeq (hz:=OJ (Nat.le_add_right _ _) hsz) (_hz':=y) e Z ?_);refine on (wpAny_letGo ?_)
 first
  | exact on (Sa (Sa ⟨.none,rfl,Sa h⟩))
  | exact Sa ⟨.none,rfl,Sa h⟩
end
end L2
namespace Att
open PySem PySem.W PySem.Calls PyProof.Rows
def Ii{P:Params}{h:Heap}:∀(ns:List Int) (vs:List Value),WellAll P h vs (ns.map WData.int)->IntsAre vs ns:=by
 intro ns
 induction ns with
 | nil =>
  intro vs w;rw[Qu]at w;cases w;exact .nil
 | cons n ns ih =>
  intro vs w;rw[OD]at w;cases w with
  | cons a b =>
   cases a;exact .cons _ _ (ih _ b)
def Dm{l:OpenLaw}{n:Nat}(m:l.most=some n){P:Params}{h:Heap}{args:List WData}{vals:List Value}
 (b:l.row.toRowW.claim.pre args=true) (i:WellAll P h vals args) :
 ∃a vs ns,vals=[Value.ref a]/\args=[WData.list (ns.map WData.int)]/\h.get? a=some { cls:=.type "list",data:=.seq vs.toArray }/\IntsAre vs ns/\ns.length<=n:=by
 have g:WShape.hasAll [] args [.list .int]=true:=(pre_splitW b).1;have j:l.pre.holds [] { args:=args }=true:=(pre_splitW b).2;obtain⟨d,r,rfl,p,o⟩:=hasAllW_cons g;obtain rfl:=hasAllW_nil o;obtain⟨xs,rfl,k⟩:=hasW_list p;obtain⟨ns,rfl⟩:=items_int k;have c:ns.length<=n:=by
  unfold OpenLaw.pre at j;have f:(WTm.not (.lt (.lit (.int (n:Int))) (.len (.arg 0)))).holds [] { args:=[.list (ns.map .int)] }=true:=by
   have f:=(holds_andW j).1;rw[m]at f;exact f
  have e:=condW_of f (w_not (w_lt w_lit (w_len_list (w_arg rfl))));rw[On]at e;refine Nat.le_of_not_lt λq=>?_;have s:(n:Int)<((ns.length:Nat):Int):=by omega
  first
   | (rw[Sf s]at e;exact Sd e (by decide))
   | (simp at e;omega)
 cases i with
 | cons w1 w2 =>
  cases w2;cases w1 with
  | list ho hall=>exact⟨_,_,ns,rfl,rfl,ho,Ii ns _ hall,c⟩
def Fj(l:OpenLaw)(args:List WData):l.row.toRowW.claim.post args (.bool true) args=true :=
 postW_of (r:=l.row.toRowW) (X:=(true == true))
  (show WShape.has [] (.bool true) .bool=true by first|rfl|decide|simp[WShape.has,WShape.arms,WShape.armsAll])
  (show (WTm.eq .res (.lit (.bool true))).value [] { args:=args,res:=some (.bool true),after:=args }=some (.bool (true == true)) from w_eq_bool (w_res rfl) w_lit) rfl
def attach_call{l:OpenLaw}{n:Nat}{q:Program}{b:List Str}{B:(Str->Option Value)->Heap->Prop}{C:World->Heap->Prop}{d:DefRec}
 (D:l.most=some n) (y:d.params.defaults=[])
 (call:∀(w:World) (s₀ c:Shared) (mg s:Str->Option Value) (j:Addr) (o:Obj) (u cd e:Value) (a:Addr) (vs:List Value) (ns:List Int),
   Ground q b [] B w s₀ mg s c.heap->C w c.heap ->
   c.heap.get? j=some o->o.data=.func (docDef d.name d.params d.body d.scope u cd e)->c.heap.CodeRec cd d.name->mg d.name=some (.ref j) ->
   c.heap.get? a=some { cls:=.type "list",data:=.seq vs.toArray }->IntsAre vs ns->ns.length<=n->c.gens = #[] ->
   codeAny (model l.prog w) callerA (.call (.ref j) ⟨[.ref a],[]⟩) (λr m=>r=.ok (.ret (.bool true))/\OldK c.heap m.heap/\m.os=c.os/\AllBare m.gens) c) :
 WalkO q b B C l.row.toRowW d [] (λf vs=>PySem.call f vs):=by
 intro w s₀ c mg s G Y j o u cd e dV kV J hd v hD x L args vals as k z I p R;obtain rfl:dV=.none:=Dflts.none hD y;obtain rfl:kV=.none:=Dflts.noKw hD;obtain⟨a,vs,ns,rfl,rfl,h,g,i⟩:=Dm D k p;refine enter_call (codeAny_mono (call w s₀ c mg s j o u cd e a vs ns G Y J (fd_plain hd) v x h g i L) λr m N=>?_);obtain⟨rfl,F,O,M⟩:=N;exact⟨.inl ⟨.bool true,.bool true,[],rfl,λ_=>rfl,.bool true,Fj l _,λ_=>⟨List.Pairwise.nil,λ_ S=>(nomatch S)⟩⟩,F,O,M⟩
end Att
namespace L2
open PySem PySem.Spec PyProof.Rows
theorem qG:∀ {vs:List Value} {ns:List Int},IntsAre vs ns->ay (ns.map V.int) vs
 | _,_,.nil=>.nil
 | _,_,.cons n t h=>.cons ⟨t,rfl⟩ (qG h)
def wv(H:Hp):Prop:=∀b,H b=none\/∃o xs,H b=some (.frz o (.lst xs))
def HK{P:Program}{w:World}{K:W.Frag}{mg L:Str->Option Value}{CX:eQ}{k:Nat}{J a:Addr}{U:FuncData}{x:Str}{sp:Sp}{c:Shared}{vs:List Value}{ns:List Int}
 (N:K.In c.heap) (y:c.heap.Ns mainGlobals mg) (g:c.heap.Ns builtinsNs L) (G:∀x:Str,x ≠ "__name__"->L x=bootBuiltins x) (B:c.heap.NoLimit) (hg:c.gens = #[])
 (D:c.heap.get? a=some { cls:=.type "list",data:=.seq vs.toArray }) (Y:IntsAre vs ns) (S:ns.length<=sizeLine) (hr:bj k callerA)
 (F:∀base:Heap,K.In base->base.Ns mainGlobals mg->bD P w K mg base CX k J U [x] sp) (l:∀(s:Shared) (u:Value),BindsTo s U ⟨[u],[]⟩ [(x,u)])
 (M:∀H:Hp,wv H->aJ K H a (ns.map V.int)->sp [.ref a] H (λv _=>v=.bl true) λ_ _ _=>False)
 (hCX:∀H e i,CX [] H c (λ_ _ _=>False) e i->False) :
 codeAny (model P w) callerA (.call (.ref J) ⟨[.ref a],[]⟩) (λr i=>r=.ok (.ret (.bool true))/\OldK c.heap i.heap/\i.os=c.os/\AllBare i.gens) c:=by
 have R:=qG Y;have lenV:=Y.length;have j:∀H:Hp,wv H->aJ K H a (ns.map V.int)->bn P w H c.heap->(∀b,H b≠none->b=a)->(H a≠none->K.lookup a=none) ->
  codeAny (model P w) callerA (.call (.ref J) ⟨[.ref a],[]⟩) (λr i=>r=.ok (.ret (.bool true))/\OldK c.heap i.heap/\i.os=c.os/\AllBare i.gens) c:=by
  intro H hO hS hok hA hK;have f:∀ {b:Addr} {o:Obj},c.heap.get? b=some o->H b=none->(dZ c.heap H).get? b=some o:=λe n=>zp e n;have noA:∀ {b:Addr} {o:Obj} {es:Array DictEntry} {ep:Nat},c.heap.get? b=some o->o.data=.dict es ep->H b=none:=λ{b o es ep} e d=>by
   cases q:H b with
   | none=>rfl
   | some u =>
    have I:b=a:=hA b (by rw[q];simp);subst I;rw[D]at e;cases e;have d':Data.seq vs.toArray _=Data.dict es ep:=d;cases d'
  have nsK:∀ {b:Addr} {m:Str->Option Value},c.heap.Ns b m->(dZ c.heap H).Ns b m:=λ{b m} ⟨o,es,ep,e,d,r⟩=>⟨o,es,ep,f e (noA e d),d,r⟩;have hKb:K.In (dZ c.heap H):=λb o e=>f (N b o e) (by
   cases q:H b with
   | none=>rfl
   | some u =>
    have I:b=a:=hA b (by rw[q];simp);subst I;rw[hK (by rw[q];simp)]at e;cases e)
  have hM:Mod K mg (dZ c.heap H):=⟨hKb,nsK y,⟨L,nsK g,G⟩,let ⟨mc,h1,h2⟩:=B;⟨mc,nsK h1,h2⟩⟩;have e0:fk P w K mg (dZ c.heap H) callerA [] c H:=⟨rfl,hM,λb o e=>yC e,P2 (zo _ _),trivial,λb g=>Sd (show b∈([]:List Addr) from g) (by simp),hok,.of_eq hg⟩;refine codeAny_mono ((F _ hKb (nsK y)).run callerA [] c H ⟨[.ref a],[]⟩ [.ref a] [.ref a] _ _ hr e0 (l c (.ref a)) (.cons Z .nil) (M H hO hS)) λr i h=>?_;cases r with
  | error e=>exact (hCX H e i h).elim
  | ok fl =>
   cases fl with
   | next=>exact False.elim h
   | brk=>exact False.elim h
   | cont=>exact False.elim h
   | ret u =>
    obtain⟨v,H',os,bare,un,p,r',q⟩:=h;have q':v=.bl true:=q;subst q';obtain rfl:u=Value.bool true:=r';refine⟨rfl,OldK.of_keep λb o e=>?_,os,bare⟩;cases q:H b with
    | none=>exact un.keep b o e q (by intro z;exact Sd (show b∈([]:List Addr) from z) (by simp)) (by simp)
    | some u =>
     rcases hO b with z|⟨ob,xs,z⟩
     ·rw[q]at z;cases z
     ·have z2:=un.frzs b ob _ z;obtain⟨O,_⟩:=hok b _ z;obtain⟨e2,_⟩:=p b _ z2;rw[e]at O;cases O;exact e2
 cases hk:K.lookup a with
 | some o =>
  have e:=N a o hk;rw[D]at e;cases e;refine j (λ_=>none) (λ_=>.inl rfl) (.inr ⟨_,vs.toArray,_,hk,rfl,rfl,rfl,by rw[OE,lenV];exact S,by simpa using R⟩) (λb u z=>by have C:(none:Option HO)=some u:=z;cases C) (λb z=>Sd rfl z) λz=>Sd rfl z
 | none =>
  refine j (λb=>if b=a then some (.frz { cls:=.type "list",data:=.seq vs.toArray } (.lst (ns.map V.int))) else none) (λb=>?_) (.inl (.inr ⟨{ cls:=.type "list",data:=.seq vs.toArray },Sc Z⟩)) (λb u z=>?_) (λb z=>?_) λ_=>hk
  ·by_cases g:b=a
   ·exact .inr ⟨_,_,Sc g⟩
   ·exact .inl (Sb g)
  ·by_cases g:b=a
   ·have C:=(Sc g).symm.trans z;cases C;subst g;exact⟨D,by rw[On];exact S,vs,_,R,D⟩
   ·have C:=(Sb g).symm.trans z;cases C
  ·by_cases g:b=a
   ·exact g
   ·exact Sd (Sb g) z
abbrev KOf{K:W.Frag}{h:Heap}(_:K.In h):W.Frag:=K
def walk_of{l:W.OpenLaw}{n k:Nat}{q:Program}{i:List Str}{L:(Str->Option Value)->Heap->Prop}{J:World->Heap->Prop}{d:DefRec}{K:Params->W.Frag}{CX:World->eQ}{sp:World->Sp}{x:Str}
 (M:l.most=some n) (y:n<=sizeLine) (D:d.params.defaults=[]) (O:bj k callerA)
 (hY:∀(w:World) (h:Heap),J w h->(K w.params).In h)
 (F:∀(w:World) (mg:Str->Option Value) (p:Addr) (h:Heap),(K w.params).In h->h.Ns mainGlobals mg->mg d.name=some (.ref p) ->
   ∃z:FuncData,(∀(s:Shared) (u:Value),BindsTo s z ⟨[u],[]⟩ [(x,u)]) /\
    ∀base:Heap,(K w.params).In base->base.Ns mainGlobals mg->bD l.prog w (K w.params) mg base (CX w) k p z [x] (sp w))
 (B:∀(w:World) (H:Hp) (a:Addr) (ns:List Int),ns.length<=n->wv H->aJ (K w.params) H a (ns.map V.int)->sp w [.ref a] H (λv _=>v=.bl true) λ_ _ _=>False)
 (hCX:∀(w:World) (H:Hp) (s:Shared) (e:Value) (r:Shared),CX w [] H s (λ_ _ _=>False) e r->False) :
 W.WalkO q i L J l.row.toRowW d [] (λf vs=>PySem.call f vs):=by
 refine Att.attach_call M D λw s₀ s₁ mg mb p o pm cd N a vs ns G Y ho hd S C m j c R=>?_;have I:=hY w _ Y;obtain⟨z,U,hF⟩:=F w mg p _ I G.T.g C;exact HK I G.T.g G.T.b G.T.builtins G.T.nolimit R m j (OJ c y) O hF U (λH hO hS=>B w H a ns c hO hS) λH e r=>hCX w H s₁ e r
end L2
namespace L2
open PySem PySem.Spec PyProof.Rows
def db(s:Stmt)(j:Nat):Stmt:=match s with
 | .ClassDef _ _ _ body _ _ _ _ _ _ _=>body.getD j (.Pass ⟨0,0,0,0⟩)
 | _=>.Pass ⟨0,0,0,0⟩
def aK(s:Stmt):Arguments:=match s with
 | .FunctionDef _ a _ _ _ _ _ _ _ _=>a
 | _=>{ posonlyargs:=[],args:=[],vararg:=none,kwonlyargs:=[],kw_defaults:=[],kwarg:=none,defaults:=[] }
def aI(s:Stmt):List Stmt:=match s with
 | .FunctionDef _ _ b _ _ _ _ _ _ _=>b
 | _=>[]
def aj(s:Stmt):Scope:=match s with
 | .FunctionDef _ _ _ _ _ _ sc _ _ _=>sc
 | _=>{ kind:=.function,names:=[],isGenerator:=false,isCoroutine:=false }
abbrev bQ:eQ:=λ_ _ _ _ _ _=>False
abbrev E0:XK:=λ_ _ _=>False
def Gc{X:Cx}:iM bQ X E0:=λ_ _ _ _ _ _ _ h=>h.elim
structure aQ (K:W.Frag) (x qual:Str) (st:Stmt) (f:Addr) (fd:FuncData):Prop where
 ex:∃(oc:Value) (od:Option Addr) (kV doc pm:Value) (an:Option Addr) (cdv ct:Value) (osl:Array (Option Value)),
  fd=W.fnOf x qual (aK st) (aI st) (aj st) .none kV doc pm an cdv ct/\K.lookup f=some ⟨oc,od,.func fd,osl⟩/\W.codeIn K cdv qual=true
 kp:W.keepIn K (.ref f)=true
section
variable {P:Program}{w:World}{K:W.Frag}{mg:Str->Option Value}{base:Heap}
def aQ.ok{x qual:Str}{st:Stmt}{f:Addr}{e:FuncData}{N ps:List Str}{k:Nat}{sp:Sp}(F:aQ K x qual st f e)(S:aL N ps (aj st))(len:∀vs H Q E,sp vs H Q E->vs.length=ps.length)
 (b:∀(a:Value) (A:Around) (outer:List Env) (s:Shared) (H:Hp) (vs:List V) (Q:VK) (E:XK),bj k (A.deeper (envOfC qual (aj st) s.heap.objs.size f a))->sp vs H Q E ->
   ∃t,eN (ib bQ P w K mg base N qual (aj st) f a A outer s H E).nox (aI st) t/\t { nx:=λ_ H'=>Q .non H',rt:=Q } (fK N vs) H):bD P w K mg base bQ (k+1) f e ps sp:=by
 obtain⟨n,m,kV,i,o,p,a,ct,l,rfl,g,d⟩:=F.ex;refine sL g d S len λA outer s H vs Q E j c=>?_;obtain⟨t,h,q⟩:=b a A outer s H vs Q E j c;exact⟨t,h.nox,q⟩
def aQ.binds{x qual:Str}{st:Stmt}{f:Addr}{e:FuncData}{ps:List Str}(F:aQ K x qual st f e)
 (h:∀(kV a c:Value) (d:Option Addr) (b ct:Value) (us:List Value),us.length=ps.length->bindArgs (W.fnOf x qual (aK st) (aI st) (aj st) .none kV a c d b ct) ⟨us,[]⟩=pure (ps.zip us)):az K e ps []:=by
 obtain⟨l,j,kV,a,c,d,b,ct,i,rfl,k,g⟩:=F.ex;exact .all (h kV a c d b ct)
def aW{x qual:Str}{st:Stmt}{f:Addr}{i:Value}{h g:Option Addr}{d:Array (Option Value)}{kV b e a ct:Value}(l:K.lookup f=some ⟨i,h,.func (W.fnOf x qual (aK st) (aI st) (aj st) .none kV b e g a ct),d⟩)
 (c:W.codeIn K a qual=true) (k:W.keepIn K (.ref f)=true):aQ K x qual st f (W.fnOf x qual (aK st) (aI st) (aj st) .none kV b e g a ct):=⟨⟨i,h,kV,b,e,g,a,ct,d,rfl,l,c⟩,k⟩
end
def Ic{A B:Prop}(h:B):if false=true then A else B:=by
 rw[Sb OL];exact h
def lS{A B:Prop}(h:A):if true=true then A else B:=by
 rw[Sc rfl];exact h
def aH{c A B:Prop}[Decidable c](a:c->A)(b:¬c->B):if c then A else B:=by
 by_cases h:c
 ·rw[Sc h];exact a h
 ·rw[Sb h];exact b h
def af(H H':Hp):Prop:=∀b o,H b=some o->H' b=some o
def af.refl(H:Hp):af H H:=λ_ _ h=>h
def af.trans{H d e:Hp}(a:af H d)(b:af d e):af H e:=λc o h=>b c o (a c o h)
def af.free{H H':Hp}(e:af H H'){l:Addr}(h:H' l=Option.none):H l=Option.none:=by
 cases q:H l with
 | none=>rfl
 | some o =>
  rw[e l o q]at h;cases h
def af.seq{K:W.Frag}{H H':Hp}{a:Addr}{xs:List V}(e:af H H')(h:aJ K H a xs):aJ K H' a xs:=by
 rcases h with (h|⟨o,h⟩)|h
 ·exact .inl (.inl (e _ _ h))
 ·exact .inl (.inr ⟨o,e _ _ h⟩)
 ·exact .inr h
end L2
set_option maxHeartbeats 4000000
namespace HT
open PySem PyProof.Rows
end HT
namespace L2
open PySem PySem.Spec PyProof.Rows
def PE.imp{X:Cx}{e:Expr}{t t':TE}(h:PE X e t)(k:∀σ H Q,t' σ H Q->t σ H Q):PE X e t':=λa s σ H Q I q=>h a s σ H Q I (k σ H Q q)
def aM.imp{X:Cx}{f:Value->Value->Sem Value}{r b:R2}(h:aM X f r)(k:∀x y H Q,b x y H Q->r x y H Q):aM X f b:=λa s σ H x y v u Q I d c q=>h a s σ H x y v u Q I d c (k x y H Q q)
def bV.imp{X:Cx}{f:Value}{r b:List V->Hp->VK->Prop}(h:bV X f r)(k:∀xs H Q,b xs H Q->r xs H Q):bV X f b:=λa s σ H xs us Q I c q=>h a s σ H xs us Q I c (k xs H Q q)
def fh.imp{X:Cx}{r c:R2}(h:fh X r)(k:∀x y H Q,c x y H Q->r x y H Q):fh X c:=λvalue a b s σ H x y v u Q I e f q d=>h value a b s σ H x y v u Q I e f (k x y H Q q) d
def af.new{H:Hp}{p:Addr}{o:HO}(h:H p=none):af H (upd H p o):=λb u e=>by rw[am (aO e h)];exact e
structure aZ (H:Hp) (p:Addr) (o:HO) (H':Hp):Prop where
 nw:H p=none
 sm:af H H'
 at_:H' p=some o
def aZ.mk'{H:Hp}{p:Addr}{o:HO}(h:H p=none):aZ H p o (upd H p o):=⟨h,af.new h,aP⟩
def aZ.lst{K:W.Frag}{H H':Hp}{p:Addr}{xs:List V}(g:aZ H p (.lst xs) H'):aJ K H' p xs:=.of g.at_
def aZ.tup{K:W.Frag}{H H':Hp}{p:Addr}{xs:List V}(g:aZ H p (.tup xs) H'):bJ K H' p xs:=.of g.at_
def af.put{H H':Hp}{p:Addr}{o:HO}(s:af H H')(h:H p=none):af H (upd H' p o):=λb u e=>by
 rw[am (aO e h)];exact s b u e
def mV(i:Nat):TE:=λσ H Q=>match σ[i]? with
 | some (some v)=>Q v H
 | _=>False
def vv(i:Nat){X:Cx}{x:Str}{pos:Pos}(hN:X.N[i]? = some x:=by rfl)(b:jy X.env.scope x:=by first|exact Or.inl rfl|exact Or.inr (Or.inl rfl)|exact Or.inr (Or.inr rfl))(hd:(x == ("__debug__" : Str))=false:=by decide)
 (a:(x == ("__classdict__" : Str))=false:=by decide):PE X (.Name x pos) (mV i):=(FE hN b hd a).imp λσ H Q q=>by
 unfold mV at q
 split at q
 ·exact⟨_,by assumption,q⟩
 ·exact q.elim
section
variable {X:Cx}{a b:Expr}{ta tb:TE}{pos:Pos}{rest:List Expr}
def yT(b tb:TE):TE:=λσ H Q=>b σ H λx a=>match x with
 | .bl c=>if c=true then tb σ a Q else Q (.bl false) a
 | _=>False
def yN(b tb:TE):TE:=λσ H Q=>b σ H λx a=>match x with
 | .bl c=>if c=true then Q (.bl true) a else tb σ a Q
 | _=>False
def yO(a:TE):TE:=λσ H Q=>a σ H λx b=>match x with
 | .bl c=>Q (.bl (!c)) b
 | _=>False
def Hj(i:PE X a ta)(k:PE X (.BoolOp .And (b::rest) pos) tb):PE X (.BoolOp .And (a::b::rest) pos) (yT ta tb):=by
 intro d s σ H Q I h;refine BoolOp_and (ap (i d s σ H _ I h) λv s1 ⟨x,g,f,j,e⟩=>?_);cases x with
 | bl c =>
  cases j;refine wpAny_truthy_bool ?_;cases c with
  | true=>exact k d s1 σ g Q f e
  | false=>exact⟨.bl false,g,f,rfl,e⟩
 | _=>exact False.elim e
def Hc(i:PE X a ta)(k:PE X (.BoolOp .Or (b::rest) pos) tb):PE X (.BoolOp .Or (a::b::rest) pos) (yN ta tb):=by
 intro d s σ H Q I h;refine BoolOp_or (ap (i d s σ H _ I h) λv s1 ⟨x,g,f,j,e⟩=>?_);cases x with
 | bl c =>
  cases j;refine wpAny_truthy_bool ?_;cases c with
  | false=>exact k d s1 σ g Q f e
  | true=>exact⟨.bl true,g,f,rfl,e⟩
 | _=>exact False.elim e
def Hd(f:PE X a ta):PE X (.UnaryOp .Not a pos) (yO ta):=by
 intro b s σ H Q I h;refine UnaryOp_ (ap (f b s σ H _ I h) λv s1 ⟨x,i,e,g,d⟩=>?_);cases x with
 | bl c =>
  cases g;exact not_of (wpAny_truthy_bool ⟨.bl (!c),i,e,Z,d⟩)
 | _=>exact False.elim d
def mB(t:TE):TT:=λσ H Q=>t σ H λx a=>match x with
 | .bl c=>Q c a
 | _=>False
def GE{e:Expr}{t:TE}(h:PE X e t)(f:∀whole,isTrue e X.env whole=(do let v <- whole;standAt e.pos;holding [v] (truthy v)):=by intro _;rfl):PT X e (mB t):=by
 intro a s σ H Q I hw;refine isTrue_plain (ap (h a s σ H _ I hw) λv s1 ⟨x,i,d,g,b⟩=>?_) (f _);cases x with
 | bl c =>
  cases g;exact wpAny_truthy_bool ⟨i,d,b⟩
 | _=>exact False.elim b
def GI{op:CmpOp}{r:R2}(o:aM X (compareOp op) r)(f:PE X a ta)(D:PE X b tb)(J:behindInMarks op b=false):PT X (.Compare a [op] [b] pos) (mB (fW r ta tb)):=by
 intro d s σ H Q I h;refine wpAny_isTrue_Compare1 (ap (f d s σ H _ I h) λv s1 ⟨x,l,i,B,C⟩=>ap (D d s1 σ l _ i C) λu j ⟨y,G,n,q,g⟩ =>
  ap (o d j σ G x y v u _ n B q g) λc L ⟨z,m,p,F,e⟩=>?_) J
 cases z with
 | bl k =>
  cases F;exact wpAny_truthy_bool ⟨m,p,e⟩
 | _=>exact False.elim e
def oW(r f:R2)(e tb g:TE):TE:=λσ H Q=>e σ H λx h=>tb σ h λy b=>r x y b λz a=>match z with
 | .bl k=>if k=true then g σ a λd c=>f y d c Q else Q (.bl false) a
 | _=>False
def Hi{c:Expr}{j:TE}{op f:CmpOp}{r o:R2}(N:aM X (compareOp op) r)(g:aM X (compareOp f) o)(q:PE X a ta)(U:PE X b tb)(hc:PE X c j)
 (hm:lastMarks [op,f] [b,c]=false:=by with_unfolding_all rfl):PE X (.Compare a [op,f] [b,c] pos) (oW r o ta tb j):=by
 intro e s σ H Q I h;refine Compare_chain (ap (q e s σ H _ I h) λv s1 ⟨x,L,F,R,S⟩=>chain_link (ap (U e s1 σ L _ F S) λu J ⟨y,W,M,n,C⟩ =>
  ap (N e J σ W x y v u _ M R n C) λd G ⟨z,l,m,V,i⟩=>?_)) hm
 cases z with
 | bl k =>
  cases V;refine wpAny_truthy_bool ?_;cases k with
  | false=>exact ite_ff ⟨.bl false,l,m,rfl,i⟩
  | true=>exact ite_tt (chain_last (ap (hc e G σ l _ m i) λw' B ⟨O,D,Y,p,q4⟩=>g e B σ D y O u w' Q Y n p q4))
 | _=>exact False.elim i
def GJ{c:Expr}{j:TE}{op f:CmpOp}{r o:R2}(O:aM X (compareOp op) r)(g:aM X (compareOp f) o)(B:PE X a ta)(Y:PE X b tb)(hc:PE X c j)
 (hm:lastMarks [op,f] [b,c]=false:=by with_unfolding_all rfl):PT X (.Compare a [op,f] [b,c] pos) (mB (oW r o ta tb j)):=by
 intro e s σ H Q I h;refine isTrue_chain (ap (B e s σ H _ I h) λv s1 ⟨x,M,G,V,W⟩=>test_link (ap (Y e s1 σ M _ G W) λu L ⟨y,H2,N,n,D⟩ =>
  ap (O e L σ H2 x y v u _ N V n D) λd J ⟨z,l,m,r3,i⟩=>?_)) hm
 cases z with
 | bl k =>
  cases r3;refine wpAny_truthy_bool ?_;cases k with
  | false=>exact ite_ff ⟨l,m,i⟩
  | true =>
   refine ite_tt (test_last (ap (hc e J σ l _ m i) λw' C ⟨S,F,I4,q,q4⟩=>ap (g e C σ F y S u w' _ I4 n q q4) λd' s5 ⟨z2,R,I5,U,p⟩=>?_));cases z2 with
   | bl k2 =>
    cases U;exact wpAny_truthy_bool ⟨R,I5,p⟩
   | _=>exact False.elim p
 | _=>exact False.elim i
def rQ(K:W.Frag)(t:TE):TT:=λσ H Q=>t σ H λx a=>match x with
 | .non=>Q false a
 | .bl c=>Q c a
 | .int i=>Q (i != 0) a
 | .ref p=>∃xs,(aJ K a p xs\/bJ K a p xs)/\Q (!xs.isEmpty) a
 | _=>False
def GF{e:Expr}{t:TE}(h:PE X e t)(j:∀whole,isTrue e X.env whole=(do let v <- whole;standAt e.pos;holding [v] (truthy v)):=by intro _;rfl):PT X e (rQ X.K t):=by
 intro a s σ H Q I hw;refine isTrue_plain (ap (h a s σ H _ I hw) λv s1 ⟨x,g,d,f,b⟩=>?_) (j _);cases x with
 | non=>exact mD a s1 σ g _ v Q d f ⟨false,rfl,b⟩
 | bl c=>exact mD a s1 σ g _ v Q d f ⟨c,rfl,b⟩
 | int i=>exact mD a s1 σ g _ v Q d f ⟨i != 0,rfl,b⟩
 | ref p =>
  obtain⟨xs,hx,b⟩:=b;rcases hx with hx|hx
  ·exact mD a s1 σ g _ v Q d f ⟨_,.inl ⟨xs,hx,Z⟩,b⟩
  ·exact mD a s1 σ g _ v Q d f ⟨_,.inr (.inl ⟨xs,hx,Z⟩),b⟩
 | _=>exact False.elim b
end
section
variable {X:Cx}{a b:Expr}{ta tb:TE}{pos:Pos}
def gI(C:Int->Int->Prop)(g:Int->Int->V):R2:=λx y H Q=>match x,y with
 | .int i,.int j=>C i j/\Q (g i j) H
 | _,_=>False
def mZ(g:Int->Int->V):R2:=λx y H Q=>match x,y with
 | .int i,.int j=>Q (g i j) H
 | _,_=>False
def pA{f:Value->Value->Sem Value}{g:Int->Int->V}(h:aM X f (gc g)):aM X f (mZ g):=h.imp λx y H Q q=>by
 cases x<;>cases y<;>first|exact False.elim q|exact⟨_,_,rfl,rfl,q⟩
def KD{f:Value->Value->Sem Value}{C:Int->Int->Prop}{g:Int->Int->V}(h:aM X f (rI C g)):aM X f (gI C g):=h.imp λx y H Q q=>by
 cases x<;>cases y<;>first|exact False.elim q|exact⟨_,_,rfl,rfl,q.1,q.2⟩
def hZ:aM X (binaryOp .Sub) (mZ λi j=>.int (i-j)):=pA Gh
def zH:aM X (binaryOp .Mod) (gI (λ_ j=>0<j) λi j=>.int (i%j)):=KD yz
def pz:aM X (compareOp .Lt) (mZ λi j=>.bl (decide (i<j))):=pA Gn
def fB:aM X (compareOp .LtE) (mZ λi j=>.bl (decide (i<=j))):=pA Go
def sx:aM X (compareOp .Gt) (mZ λi j=>.bl (decide (j<i))):=pA Gq
def yR(j:Int)(a:TE):TE:=λσ H Q=>a σ H λx b=>match x with
 | .int i=>Q (.int (i/j)) b
 | _=>False
def yP(j:Int)(a:TE):TE:=λσ H Q=>a σ H λx b=>match x with
 | .int i=>Q (.int (i%j)) b
 | _=>False
def Hg{j:Int}{k:Nat}{p:Pos}(r:PE X a ta)(n:0<j/\j<1073741824:=by decide):PE X (.BinOp a .FloorDiv (.Constant (.int j) k p) pos) (yR j ta):=by
 intro b s σ H Q I h;refine wpAny_BinOp (ap (r b s σ H _ I h) λv s1 ⟨x,e,g,z,d⟩=>?_);refine ap (oM b s1 σ e (λy c=>y=.int j/\c=e) g ⟨rfl,rfl⟩) λu q ⟨y,c,f,m,o,l⟩=>?_;subst o l;cases x with
 | int i=>exact Gs b q σ c (.int i) (.int j) v u Q f z m ⟨i,j,rfl,rfl,n,d⟩
 | _=>exact False.elim d
def He{j:Int}{k:Nat}{p:Pos}(r:PE X a ta)(n:0<j:=by decide):PE X (.BinOp a .Mod (.Constant (.int j) k p) pos) (yP j ta):=by
 intro b s σ H Q I h;refine wpAny_BinOp (ap (r b s σ H _ I h) λv s1 ⟨x,e,g,z,d⟩=>?_);refine ap (oM b s1 σ e (λy c=>y=.int j/\c=e) g ⟨rfl,rfl⟩) λu q ⟨y,c,f,m,o,l⟩=>?_;subst o l;cases x with
 | int i=>exact yz b q σ c (.int i) (.int j) v u Q f z m ⟨i,j,rfl,rfl,n,d⟩
 | _=>exact False.elim d
def nS:nG X (unaryOp .USub) (λx H Q=>match x with|.int i=>Q (.int (-i)) H|_=>False):=by
 intro a s σ H x v Q I b q;cases x with
 | int i=>exact BF a s σ H _ v Q I b ⟨i,rfl,q⟩
 | _=>exact False.elim q
end
section
variable {X:Cx}
def LB{c:List (Addr × Obj)}{s:Shared}{σ:St}{H:Hp}{l b:Addr}{xs j:List V}{Q:VK}(I:ae X c σ H s)(z:aJ X.K H l xs)(D:aJ X.K H b j)(hz:xs.length+j.length<=sizeLine)
 (q:∀p H',aZ H p (.lst (xs++j)) H'->Q (.ref p) H'):wpAny (model X.prog X.w) X.A (binaryOp .Add (.ref l) (.ref b)) (EP X c σ Q) X.xe s:=by
 obtain⟨d,r,pl,_⟩:=I.list z;obtain⟨a,v,h,_⟩:=I.list D;have J:=r.length;have L:=v.length;obtain⟨⟨cls,C,data,y⟩,u,x,n,hd⟩:=pl.isList;obtain⟨⟨o,m,k,i⟩,g,e,B,f⟩:=h.isList;simp only at x hd e f;subst x hd e f;have G:d.toArray++a.toArray=(d++a).toArray:=by simp
 refine concat_meets ⟨_,u,rfl⟩ ⟨_,g,rfl⟩ noFill_list_add seq_list_add PySem.F.slot_list_add PySem.F.entry_list_add (PySem.F.args_list_add_2 _ _) (list_addW l b d.toArray a.toArray n B C m y i (by rw[OE,OE];omega)) ⟨u,g,?_⟩;rw[G];exact⟨.ref _,_,I.lnew (t':=s.toks) (r.append v) (by rw[Oz];omega),rfl,q _ _ (.mk' I.fresh)⟩
def zP(K:W.Frag):R2:=λx y H Q=>match x,y with
 | .int i,.int j=>Q (.int (i+j)) H
 | .ref l,.ref b=>∃xs zs,aJ K H l xs/\aJ K H b zs/\xs.length+zs.length<=sizeLine/\∀p H',aZ H p (.lst (xs++zs)) H'->Q (.ref p) H'
 | _,_=>False
def Kw:aM X (binaryOp .Add) (zP X.K):=by
 intro a s σ H x y v u Q I c d q;cases x with
 | int i =>
  cases y with
  | int j=>exact Gv a s σ H _ _ v u Q I c d ⟨i,j,rfl,rfl,q⟩
  | _=>exact False.elim q
 | ref l =>
  cases y with
  | ref b =>
   obtain⟨xs,h,g,f,e,q⟩:=q;cases c;cases d;exact LB I g f e q
  | _=>exact False.elim q
 | _=>exact False.elim q
def Ky:R2:=λx y H Q=>match x,y with
 | .int i,.int j=>qF i j/\Q (.int (i*j)) H
 | .ref l,.int k=>∃xs,H l=some (.lst xs)/\-(2 ^ 63)<=k/\k<2 ^ 63/\xs.length*k.toNat<=sizeLine/\∀p H',aZ H p (.lst (List.replicate k.toNat xs).flatten) H'->Q (.ref p) H'
 | _,_=>False
def zG:aM X (binaryOp .Mult) Ky:=by
 intro a s σ H x y v u Q I b c q;cases x with
 | int i =>
  cases y with
  | int j=>exact Gm a s σ H _ _ v u Q I b c ⟨i,j,rfl,rfl,q.1,q.2⟩
  | _=>exact False.elim q
 | ref l =>
  cases y with
  | int k =>
   obtain⟨xs,g,e,d,f,q⟩:=q;exact Gi a s σ H _ _ v u Q I b c ⟨l,k,xs,Z,Z,g,e,d,f,λp h=>q p _ (.mk' h)⟩
  | _=>exact False.elim q
 | _=>exact False.elim q
def r9(x:V)(c:Bool):Bool:=match x with
 | .bl d=>d == c
 | _=>false
def xL{x:V}{v:Value}{c:Bool}(r:ax x v)(a:∀f,x ≠ .ty f):plainIs v (.bool c)=true/\(v == Value.bool c)=r9 x c:=by
 cases x with
 | non=>cases r;exact⟨rfl,rfl⟩
 | bl d=>cases r;exact⟨rfl,by cases d<;>cases c<;>rfl⟩
 | int _=>obtain⟨t,rfl⟩:=r;exact⟨rfl,rfl⟩
 | str _=>obtain⟨t,rfl⟩:=r;exact⟨rfl,rfl⟩
 | byt _=>obtain⟨t,rfl⟩:=r;exact⟨rfl,rfl⟩
 | flt _=>obtain⟨t,rfl⟩:=r;exact⟨rfl,rfl⟩
 | ref _=>cases r;exact⟨rfl,rfl⟩
 | ty f=>exact Sd rfl (a f)
def sH(neg:Bool):R2:=λx y H Q=>match y with
 | .non=>Q (.bl (if neg then !decide (x=.non) else decide (x=.non))) H
 | .bl c=>(∀f,x ≠ .ty f)/\Q (.bl (if neg then !r9 x c else r9 x c)) H
 | _=>False
def jo:aM X (compareOp .Is) (sH false):=by
 intro a s σ H x y v u Q I b d q;cases y with
 | non=>exact Gp a s σ H x _ v u Q I b d ⟨rfl,q⟩
 | bl c =>
  cases d;obtain⟨f,e⟩:=xL (c:=c) b q.1;exact wpAny_is_plain f ⟨.bl _,H,I,by rw[e];rfl,q.2⟩
 | _=>exact False.elim q
def iE:aM X (compareOp .IsNot) (sH true):=by
 intro a s σ H x y v u Q I b d q;cases y with
 | non=>exact Gj a s σ H x _ v u Q I b d ⟨rfl,q⟩
 | bl c =>
  cases d;obtain⟨f,e⟩:=xL (c:=c) b q.1;exact wpAny_isNot_plain f ⟨.bl _,H,I,by rw[e];rfl,q.2⟩
 | _=>exact False.elim q
end
def aU(K:W.Frag)(H:Hp)(d:PyData)(x:V):Prop:=∀(X:Cx) (a:List (Addr × Obj)) (σ:St) (s:Shared) (u:Value),X.K=K->ae X a σ H s->ax x u->∃as,Reads s.heap u d as
def dt(K:W.Frag)(H:Hp)(ds:List PyData)(xs:List V):Prop:=∀(X:Cx) (a:List (Addr × Obj)) (σ:St) (s:Shared) (us:List Value),X.K=K->ae X a σ H s->ay xs us->∃as,ReadsAll s.heap us ds as
section
variable {K:W.Frag}{H:Hp}
def aU.non:aU K H .none .non:=λ_ _ _ _ _ _ _ r=>by cases r;exact⟨_,.none⟩
def aU.int(i:Int):aU K H (.int i) (.int i):=λ_ _ _ _ _ _ _ r=>by obtain⟨t,rfl⟩:=r;exact⟨_,.int i t⟩
def aU.str(x:Str):aU K H (.str x) (.str x):=λ_ _ _ _ _ _ _ r=>by obtain⟨t,rfl⟩:=r;exact⟨_,.str x t⟩
def dt.nil:dt K H [] []:=λ_ _ _ _ _ _ _ r=>by cases r;exact⟨_,.nil⟩
def dt.cons{d:PyData}{ds:List PyData}{x:V}{xs:List V}(a:aU K H d x)(b:dt K H ds xs):dt K H (d::ds) (x::xs):=λX c σ s us e I r=>by
 cases r with
 | cons r1 r2 =>
  obtain⟨as,g⟩:=a X c σ s _ e I r1;obtain⟨bs,f⟩:=b X c σ s _ e I r2;exact⟨_,.cons g f⟩
def aU.lst{ds:List PyData}{p:Addr}{xs:List V}(h:aJ K H p xs)(b:dt K H ds xs):aU K H (.list ds) (.ref p):=λX a σ s u e I r=>by
 cases r;subst e;obtain⟨c,i,⟨o,n,d,f,_,hd⟩,_⟩:=I.list h;obtain⟨as,g⟩:=b X a σ s c rfl I i;exact⟨_,.list d f hd (by simpa using g)⟩
def aU.tup{ds:List PyData}{p:Addr}{xs:List V}(h:bJ K H p xs)(b:dt K H ds xs):aU K H (.tuple ds) (.ref p):=λX a σ s u e I r=>by
 cases r;subst e;obtain⟨c,i,⟨o,d,f,n,hd⟩,_⟩:=I.tuple h;obtain⟨as,g⟩:=b X a σ s c rfl I i;exact⟨_,.tuple d f hd (by simpa using g)⟩
theorem dt.ints:∀ns:List Int,dt K H (ns.map PyData.int) (ns.map V.int)
 | []=>.nil
 | n::ns=>.cons (.int n) (dt.ints ns)
end
open SeqAt (shaped)
def gA(K:W.Frag)(neg:Bool):R2:=λx y H Q=>match x,y with
 | .int i,.int j=>Q (.bl (if neg then !decide (i=j) else decide (i=j))) H
 | .bl a,.bl b=>Q (.bl (if neg then !(a == b) else a == b)) H
 | _,_=>∃d e,aU K H d x/\aU K H e y/\shaped d=true/\shaped e=true/\Q (.bl (if neg then !d.eqv e else d.eqv e)) H
section
variable {X:Cx}
def zX{a:List (Addr × Obj)}{s:Shared}{σ:St}{H:Hp}{x y:V}{v u:Value}{Q:VK}{neg:Bool}(b:X.A.units+64<cLine)(I:ae X a σ H s)(j:ax x v)(k:ax y u)
 (q:∃d e,aU X.K H d x/\aU X.K H e y/\shaped d=true/\shaped e=true/\Q (.bl (if neg then !d.eqv e else d.eqv e)) H) :
 wpAny (model X.prog X.w) X.A (compareOp (if neg then .NotEq else .Eq) v u) (EP X a σ Q) X.xe s:=by
 obtain⟨d,e,hd,i,g,c,q⟩:=q;obtain⟨as,f⟩:=hd X a σ s v rfl I j;obtain⟨bs,h⟩:=i X a σ s u rfl I k;cases neg with
 | true=>exact ne_dataH f h g c b ⟨.bl _,H,I,rfl,q⟩
 | false=>exact eq_dataH f h g c b ⟨.bl _,H,I,rfl,q⟩
def Ag{i j:Int}:decide (V.int i=V.int j)=decide (i=j):=by simp
def Kl(d:X.A.units+64<cLine):aM X (compareOp .Eq) (gA X.K false):=by
 intro a s σ H x y v u Q I b c q;have D:=λe=>zX (neg:=false) (Q:=Q) d I b c e;cases x with
 | int i =>
  cases y with
  | int j=>exact yA a s σ H _ _ v u Q I b c ⟨rfl,by rw[Ag];exact q⟩
  | _=>exact D q
 | bl i =>
  cases y with
  | bl j=>exact yA a s σ H _ _ v u Q I b c ⟨rfl,by rw[pK];exact q⟩
  | _=>exact D q
 | _=>exact D q
def J8(d:X.A.units+64<cLine):aM X (compareOp .NotEq) (gA X.K true):=by
 intro a s σ H x y v u Q I b c q;have D:=λe=>zX (neg:=true) (Q:=Q) d I b c e;cases x with
 | int i =>
  cases y with
  | int j=>exact yy a s σ H _ _ v u Q I b c ⟨rfl,by rw[Ag];exact q⟩
  | _=>exact D q
 | bl i =>
  cases y with
  | bl j=>exact yy a s σ H _ _ v u Q I b c ⟨rfl,by rw[pK];exact q⟩
  | _=>exact D q
 | _=>exact D q
def zN(K:W.Frag)(neg:Bool):R2:=λx y H Q=>match y with
 | .ref p=>∃xs,(aJ K H p xs\/bJ K H p xs)/\fO x=true/\xs.all fO=true/\Q (.bl (if neg then !hW x xs else hW x xs)) H
 | _=>False
def J7:aM X (compareOp .NotIn) (zN X.K true):=Gk.imp λx y H Q q=>by
 cases y with
 | ref p=>obtain⟨xs,b,c,a,q⟩:=q;exact⟨p,xs,Z,b,c,a,q⟩
 | _=>exact False.elim q
def zL(K:W.Frag):R2:=λx y H Q=>match x,y with
 | .ref p,.int i=>∃xs v,(aJ K H p xs\/bJ K H p xs)/\bZ xs i=some v/\Q v H
 | _,_=>False
def Ka:fh X (zL X.K):=(Ia.or HZ).imp λx y H Q q=>by
 cases x with
 | ref p =>
  cases y with
  | int i =>
   obtain⟨xs,v,a,b,q⟩:=q;rcases a with a|a
   ·exact .inl ⟨p,xs,i,v,Z,Z,a,b,q⟩
   ·exact .inr ⟨p,xs,i,v,Z,Z,a,b,q⟩
  | _=>exact False.elim q
 | _=>exact False.elim q
def zK(K:W.Frag):V->Option Int->Option Int->Hp->VK->Prop:=λx lo b H Q=>match x with
 | .ref a=>∃xs,aJ K H a xs/\∀p H',aZ H p (.lst (ce xs lo b)) H'->Q (.ref p) H'
 | _=>False
def J2:iJ X (zK X.K):=by
 intro b s σ H x v e f lo k d Q I i g pl c q;cases x with
 | ref a=>obtain⟨xs,h,q⟩:=q;exact Dh b s σ H _ v e f lo k d Q I i g pl c ⟨a,xs,Z,h,λp j=>q p _ (.mk' j)⟩
 | _=>exact False.elim q
def sG(K:W.Frag):List V->Hp->VK->Prop:=λxs H Q=>match xs with
 | [.ref p]=>∃ys,(aJ K H p ys\/bJ K H p ys)/\Q (.int ys.length) H
 | _=>False
def LP:bV X (.builtin "len") (sG X.K):=LF.imp λxs H Q q=>by
 unfold sG at q
 split at q
 ·obtain⟨a,b,q⟩:=q;exact⟨_,a,Z,b,q⟩
 ·exact q.elim
def sF(K:W.Frag):List V->Hp->VK->Prop:=λxs H Q=>match xs with
 | [.ref p]=>∃ys,(aJ K H p ys\/bJ K H p ys)/\∀l H',aZ H l (.lst ys) H'->Q (.ref l) H'
 | _=>False
def LN:bV X (.type "list") (sF X.K):=LE.imp λxs H Q q=>by
 unfold sF at q
 split at q
 ·obtain⟨b,c,q⟩:=q;exact⟨_,b,Z,c,λl a=>q l _ (.mk' a)⟩
 ·exact q.elim
def sI(K:W.Frag):List V->Hp->VK->Prop:=λxs H Q=>match xs with
 | [x,.ty T]=>∃t b,cQ K H x t/\W.kitOne K t (.type T)=some b/\Q (.bl b) H
 | [x,.ref C]=>∃t b,cQ K H x t/\W.kitOne K t (.ref C)=some b/\Q (.bl b) H
 | _=>False
def LQ:bV X (.builtin "isinstance") (sI X.K):=by
 intro f s σ H xs us Q I r q;unfold sI at q
 split at q
 ·obtain⟨t,b,d,a,q⟩:=q;obtain⟨u,g,rfl,e,c⟩:=wH r;cases c;exact za I e d a λh=>⟨.bl b,H,I.tok _,Z,q⟩
 ·obtain⟨t,b,d,a,q⟩:=q;obtain⟨u,g,rfl,e,c⟩:=wH r;cases c;exact za I e d a λh=>⟨.bl b,H,I.tok _,Z,q⟩
 ·exact q.elim
def L3 {x:Str} {T:String} {pos:Pos} (d:Gl X x) (a:X.mg x=none) (c:bootBuiltins x=some (.type T)) (b:x ≠ "__name__":=by decide) (hd:(x == ("__debug__" : Str))=false:=by decide):PE X (.Name x pos) (tC (.ty T)) :=
 Gb d a c rfl b hd
end
def dY:Expr->Bool
 | .Starred _ _=>true
 | _=>false
def dH{e:Expr}{es:List Expr}{env:Env}(h:dY e=false):starEach (e::es) env=(false,eval e env)::starEach es env:=by
 cases e<;>first|rfl|cases h
def c9:List Expr->Bool
 | []=>true
 | e::r=>!dY e && c9 r
theorem iB{env:Env}{pos:Pos}:∀ {es:List Expr},c9 es=true->(backTo pos (starEach es env)).any (·.1)=false
 | [],_=>rfl
 | e::r,h=>by
  have h':(!dY e && c9 r)=true:=h;rw[Pc]at h';have a:dY e=false:=by simpa using h'.1
  rw[dH a];show (false || (backTo pos (starEach r env)).any (·.1))=false;rw[Bool.false_or];exact iB h'.2
def dU{e:Expr}{es:List Expr}(h:c9 (e::es)=true):dY e=false/\c9 es=true:=by
 have h':(!dY e && c9 es)=true:=h;rw[Pc]at h';exact⟨by simpa using h'.1,h'.2⟩
def yw{X:Cx}{e:Expr}{es:List Expr}{a:TE}{t:TA}(d:PE X e a)(c:PA X es t)(b:dY e=false:=by rfl):PA X (e::es) (qN a t):=Ge d c (dH b)
def pW:Expr->Option V
 | .Constant (.int i) _ _=>some (.int i)
 | .Constant (.bool b) _ _=>some (.bl b)
 | .Constant .none _ _=>some .non
 | .Constant (.str x) _ _=>some (.str x)
 | _=>none
def pV:List Expr->Option (List V)
 | []=>some []
 | e::r=>match pW e,pV r with
  | some v,some vs=>some (v::vs)
  | _,_=>none
def xh(vs:List V):TA:=λ_ H Q=>Q vs H
def FT{X:Cx}{e:Expr}{v:V}(h:pW e=some v):PE X e (tC v):=by
 unfold pW at h
 split at h
 ·cases h;exact oM
 ·cases h;exact yq
 ·cases h;exact yn
 ·cases h;exact yj
 ·cases h
def Lq{e:Expr}{v:V}(h:pW e=some v):dY e=false:=by
 cases e<;>first|rfl|cases h
theorem yu{X:Cx}:∀ {es:List Expr} {vs:List V},pV es=some vs->PA X es (xh vs)
 | [],vs,h=>by
  cases h;exact yt
 | e::r,vs,h=>by
  unfold pV at h
  split at h
  ·rename_i v ws h1 h2;cases h;exact yw (FT h1) (yu h2) (Lq h1)
  ·cases h
section
variable {X:Cx}{es:List Expr}{t:TA}{pos:Pos}
def yM(t:TA):TE:=λσ H Q=>t σ H λxs a=>xs.length<=sizeLine/\∀p H',aZ a p (.tup xs) H'->Q (.ref p) H'
def yQ(t:TA):TE:=λσ H Q=>t σ H λxs a=>xs.length<=sizeLine/\∀p H',aZ a p (.lst xs) H'->Q (.ref p) H'
def Hb{x1}(h:PA X es t):PE X (.Tuple es x1 pos) (yM t):=by
 intro a s σ H Q I f;refine wpAny_Tuple_spliced (ap (h pos a s σ H _ I f) λus s1 ⟨xs,d,c,r,z,q⟩=>⟨by rw[<- r.length];exact z,?_⟩);have g:d s1.heap.objs.size=none:=c.hok.fresh (Oo _);refine⟨.ref s1.heap.objs.size,upd d s1.heap.objs.size (.tup xs),c.laid (t':=s1.toks) (λb u e=>Ow _ e) (Oo _) ?_,Z,q _ _ (.mk' g)⟩;exact⟨z,us,r,⟨_,OB _ Z,Z,_,Z⟩⟩
def Hf(h:PA X es t):PE X (.List es pos) (yQ t):=by
 intro a s σ H Q I f;refine wpAny_List_spliced (ap (h pos a s σ H _ I f) λus s1 ⟨xs,d,c,r,z,q⟩=>⟨by rw[<- r.length];exact z,?_⟩);have g:d s1.heap.objs.size=none:=c.hok.fresh (Oo _);refine⟨.ref s1.heap.objs.size,upd d s1.heap.objs.size (.lst xs),c.laid (t':=s1.toks) (λb u e=>Ow _ e) (Oo _) ?_,Z,q _ _ (.mk' g)⟩;exact⟨z,us,0,r,OB _ Z⟩
def yS:TE:=λ_ H Q=>∀p H',aZ H p (.dK []) H'->Q (.ref p) H'
def Hh:PE X (.Dict [] [] pos) yS:=FQ.imp λσ H Q q=>λp a=>q p _ (.mk' a)
end
def cc{Q:VK}{H:Hp}{a b:Bool}(k:Q (.bl a) H)(e:a=b):Q (.bl b) H:=e ▸ k
def rZ:V->Bool
 | .int _=>true
 | .bl _=>true
 | _=>false
def zc:V->Bool
 | .bl _=>true
 | _=>false
inductive fg (K:W.Frag) (H:Hp):V->Prop where
 | non:fg K H .non
 | bl (b:Bool):fg K H (.bl b)
 | int (i:Int):fg K H (.int i)
 | str (x:Str):fg K H (.str x)
 | lst {a:Addr} {xs:List V} (e:H a=some (.lst xs)):fg K H (.ref a)
 | tup {a:Addr} {xs:List V} (e:H a=some (.tup xs)):fg K H (.ref a)
 | dK {a:Addr} {kvs:List (aw × V)} (e:H a=some (.dK kvs)):fg K H (.ref a)
def fg.isInt {K:W.Frag} {H:Hp} {v:V} (k:fg K H v):∃ty,cQ K H v ty/\W.kitOne K ty (.type "int")=some (rZ v):=by
 cases k with
 | non=>exact⟨_,.non,by with_unfolding_all rfl⟩
 | bl b=>exact⟨_,.bl b,by with_unfolding_all rfl⟩
 | int i=>exact⟨_,.int i,by with_unfolding_all rfl⟩
 | str x=>exact⟨_,.str x,by with_unfolding_all rfl⟩
 | lst e=>exact⟨_,.lst e,by with_unfolding_all rfl⟩
 | tup e=>exact⟨_,.tup e,by with_unfolding_all rfl⟩
 | dK e=>exact⟨_,.dK e,by with_unfolding_all rfl⟩
def fg.isBl {K:W.Frag} {H:Hp} {v:V} (k:fg K H v):∃ty,cQ K H v ty/\W.kitOne K ty (.type "bool")=some (zc v):=by
 cases k with
 | non=>exact⟨_,.non,by with_unfolding_all rfl⟩
 | bl b=>exact⟨_,.bl b,by with_unfolding_all rfl⟩
 | int i=>exact⟨_,.int i,by with_unfolding_all rfl⟩
 | str x=>exact⟨_,.str x,by with_unfolding_all rfl⟩
 | lst e=>exact⟨_,.lst e,by with_unfolding_all rfl⟩
 | tup e=>exact⟨_,.tup e,by with_unfolding_all rfl⟩
 | dK e=>exact⟨_,.dK e,by with_unfolding_all rfl⟩
def sz{n:Nat}(h:Nat.ble n 1000=true):n<=sizeLine:=OJ (RD h) (by decide)
def cy{n:Nat}(h:n<=100000):n<=sizeLine:=OJ h (by decide)
def cI{n:Nat}(h:n<=100000):n<sizeLine:=Nat.lt_of_le_of_lt h (by decide)
section
variable {X:Cx}
def D3(bs:List Bool):(List.range bs.length).map (λi=>(bs[i]?).getD false)=bs:=by
 apply List.ext_getElem
 ·simp
 ·intro i b a;simp[OF a]
def D4(bs:List Bool):((List.range bs.length).all λi=>(bs[i]?).getD false)=bs.all id:=by
 conv=>rhs;rw[<- D3 bs]
 rw[List.all_map]
 rfl
def sK(K:W.Frag)(one:Bool):List V->Hp->VK->Prop:=λxs H Q=>match xs with
 | [.ref p]=>∃bs:List Bool,aJ K H p (bs.map V.bl)/\Q (.bl (if one then bs.any id else bs.all id)) H
 | _=>False
def L5{prog:Program}{w:World}{A:Around}{bs:List Bool}{a:List Value}(r:ay (bs.map V.bl) a):TruthOf prog w A (λi v=>a.toArray[i]? = some v) λi=>(bs[i]?).getD false:=λi v s Q E hP hQ=>by
 dsimp only at hP hQ;have g:i<a.length:=by
  have:=(RE.mp hP).1;simpa using this
 have f:=r.length;rw[On]at f;have b:i<bs.length:=by omega
 obtain⟨u,c,d⟩:=r.get (i:=i) (x:=V.bl bs[i]) (by simp[b]);have e:a.toArray[i]? = some u:=by simpa using c
 rw[e]at hP;cases hP;cases d;rw[OF b]at hQ;exact wpAny_truthy_bool hQ
def LR (h:X.calm=true):bV X (.builtin "all") (sK X.K false):=by
 intro d s σ H xs us Q I r q;unfold sK at q
 split at q
 ·rename_i p;obtain⟨bs,j,q⟩:=q;obtain⟨u,rfl,l⟩:=jJ r;cases l;obtain⟨a,g,pl,_⟩:=I.list j;have f:=g.length;rw[On]at f;have c:p≠s.heap.objs.size:=by
   obtain⟨o,n,e,_⟩:=pl;exact OC (Oy e)
  refine call_all_walk (wpAny_pyIter_list pl.isList ⟨s.heap.objs.size,_,_,_,_,_,λi=>(bs[i]?).getD false,rfl,Walks.list (A:=X.A.in1) (show X.A.in1.handled=none from I.ok.hd h) s.heap.objs.size p c a.toArray,⟨⟨_,OB _ rfl,rfl,rfl⟩,?_⟩,L5 g,λh' m k=>?_⟩)
  ·exact pl.isList.at λo e=>Ow _ e
  ·refine⟨.bl _,H,I.kept (h':=h') (t':=m) λb o e=>k b o (λz=>?_) (Ow _ e),?_,q⟩
   ·have v:b=s.heap.objs.size:=by simpa using z
    exact Sd (Oy e) (by rw[v];exact O5 _)
   ·show Value.bool _=Value.bool _;rw[OE,<- f,D4]
    rfl
 ·exact q.elim
def sy(K:W.Frag):List V->Hp->VK->Prop:=λxs H Q=>match xs with
 | [.ref p]=>∃ys,aJ K H p ys/\∀l H',aZ H l (.tup ys) H'->Q (.ref l) H'
 | _=>False
def LJ:bV X (.type "tuple") (sy X.K):=LD.imp λxs H Q q=>by
 unfold sy at q
 split at q
 ·obtain⟨b,c,q⟩:=q;exact⟨_,b,Z,.inl ⟨c,λl a=>q l _ (.mk' a)⟩⟩
 ·exact q.elim
def zO:V->List V->Hp->VK->Prop:=λx vs H Q=>match x,vs with
 | .ref l,[y]=>∃xs,H l=some (.lst xs)/\xs.length<sizeLine/\Q .non (upd H l (.lst (xs++[y])))
 | _,_=>False
def eB:gK X "list.append" zO:=by
 intro a s σ H x vs v us Q I d e q;unfold zO at q
 split at q
 ·obtain⟨xs,c,b,q⟩:=q;exact GK a s σ H _ _ v us Q I d e ⟨_,xs,_,Z,Z,c,b,q⟩
 ·exact q.elim
def sJ(K:W.Frag):V->List V->Hp->VK->Prop:=λx vs H Q=>match x,vs with
 | .ref l,[.ref b]=>∃xs zs,H l=some (.lst xs)/\H b=some (.lst zs)/\xs.length+zs.length<=sizeLine/\Q .non (upd H l (.lst (xs++zs)))
 | _,_=>False
def G9:gK X "list.extend" (sJ X.K):=by
 intro a s σ H x vs v us Q I f g q;unfold sJ at q
 split at q
 ·obtain⟨xs,d,e,c,b,q⟩:=q;exact GH a s σ H _ _ v us Q I f g ⟨_,_,xs,d,Z,Z,e,c,b,q⟩
 ·exact q.elim
end
structure bo (P:Program) (w:World) (K:W.Frag) (mg:Str->Option Value) (base:Heap) (x:Str) (k:Nat) (f:Addr) (fd:FuncData) (ps:List Str) (sp:Sp):Prop where
 gm:mg x=some (.ref f)
 kp:W.keepIn K (.ref f)=true
 b:az K fd ps []
 ok:bD P w K mg base bQ k f fd ps sp
section
variable {X:Cx}{k j:Nat}{f:Addr}{fd:FuncData}{ps:List Str}{sp:Sp}{x:Str}{p pos:Pos}{e:Expr}{es:List Expr}{t:TA}
def LI(F:bo X.prog X.w X.K X.mg X.base x j f fd ps sp)(i:bj k X.A)(h:PA X (e::es) t)(g:j<=k:=by decide)(d:Gl X x:=by rfl)
 (a:(x == ("__debug__" : Str))=false:=by decide) (c:c9 (e::es)=true:=by rfl) :
 PE X (.Call (.Name x p) (e::es) [] pos) (qO sp [] E0 t):=FY F.ok (i.mono g) d F.gm F.kp F.b .nil Gc h a (dH (dU c).1) (iB (dU c).2)
def LH{id:String}{r:List V->Hp->VK->Prop}(d:bV X (.builtin id) r)(h:X.mg x=none)(f:bootBuiltins x=some (.builtin id))(g:PA X (e::es) t)(c:Gl X x:=by rfl)(hx:x ≠ "__name__":=by decide)(a:(x == ("__debug__" : Str))=false:=by decide)
 (b:c9 (e::es)=true:=by rfl):PE X (.Call (.Name x p) (e::es) [] pos) (jN r t):=FX d c h f g hx a (dH (dU b).1) (iB (dU b).2)
def LG{T:String}{r:List V->Hp->VK->Prop}(d:bV X (.type T) r)(h:X.mg x=none)(f:bootBuiltins x=some (.type T))(g:PA X (e::es) t)(c:Gl X x:=by rfl)(hx:x ≠ "__name__":=by decide)(a:(x == ("__debug__" : Str))=false:=by decide)
 (b:c9 (e::es)=true:=by rfl):PE X (.Call (.Name x p) (e::es) [] pos) (jN r t):=FW d c h f g hx a (dH (dU b).1) (iB (dU b).2)
def gi{n:Int}{u:Tok}(a:X.mg x=some (.int n u))(b:Gl X x:=by rfl)(hd:(x == ("__debug__" : Str))=false:=by decide):PE X (.Name x pos) (tC (.int n)):=yp b a ⟨u,rfl⟩ hd
end
def eZ(cells:List (Str × Addr)):List (Str × NameKind)->List (Str × Addr)->List (Str × Addr)
 | [],acc=>acc
 | (n,k)::r,acc=>eZ cells r (if (k == NameKind.free)=true then (n,(cells.lookup n).getD 0)::acc else acc)
def At{scope:Scope}{env:Env}(h:∀n,(n,NameKind.free)∈scope.names->∃c,env.cells.lookup n=some c):closureFor scope env=pure (eZ env.cells scope.names []):=by
 unfold closureFor;have key:∀(l:List (Str × NameKind)) (a:List (Str × Addr)),(∀n,(n,NameKind.free)∈l->∃c,env.cells.lookup n=some c) ->
  (forIn l a (λx __s=>match x with
    | (name,kind) =>
     if (kind == NameKind.free)=true then do
      let __do_lift <- cellOf env name
      pure (ForInStep.yield ((name,__do_lift)::__s))
     else pure (ForInStep.yield __s)):Sem (List (Str × Addr)))=pure (eZ env.cells l a):=by
  intro l
  induction l with
  | nil=>intro a _;rfl
  | cons x r ih =>
   intro a f;obtain⟨n,k⟩:=x;have g:∀n,(n,NameKind.free)∈r->∃c,env.cells.lookup n=some c:=λn i=>f n (OQ _ i);rw[O3];by_cases hk:(k == NameKind.free)=true
   ·have b:k=NameKind.free:=by simpa using hk
    subst b;obtain⟨c,d⟩:=f n OP;have e:cellOf env n=pure c:=by unfold cellOf;rw[d]
    show (if (NameKind.free == NameKind.free)=true then _ else _) >>= _=_;rw[Sc hk,e];show (forIn r ((n,c)::a) _:Sem (List (Str × Addr)))=_;rw[ih _ g];show _=pure (eZ env.cells r (if (NameKind.free == NameKind.free)=true then (n,(List.lookup n env.cells).getD 0)::a else a));rw[Sc hk,d]
    rfl
   ·show (if (k == NameKind.free)=true then _ else _) >>= _=_;rw[Sb hk];show (forIn r a _:Sem (List (Str × Addr)))=_;rw[ih _ g];show _=pure (eZ env.cells r (if (k == NameKind.free)=true then _ else a));rw[Sb hk]
 show (forIn scope.names [] _ >>= _:Sem (List (Str × Addr)))=_;rw[key _ _ h]
 rfl
theorem uM{cells:List (Str × Addr)}:∀(l:List (Str × NameKind)) (a:List (Str × Addr)) (x:Str) (c:Addr),(eZ cells l a).lookup x=some c->(∀n,(n,NameKind.free)∈l->∃c,cells.lookup n=some c)->((x,NameKind.free)∈l/\cells.lookup x=some c)\/a.lookup x=some c
 | [],a,x,c,h,_=>.inr h
 | (n,k)::r,a,x,c,h,hf=>by
  have j:∀n,(n,NameKind.free)∈r->∃c,cells.lookup n=some c:=λn g=>hf n (OQ _ g);rcases uM r _ x c h j with ⟨h1,h2⟩|h1
  ·exact .inl ⟨OQ _ h1,h2⟩
  ·by_cases hk:(k == NameKind.free)=true
   ·rw[Sc hk]at h1;have b:k=NameKind.free:=by simpa using hk
    subst b;obtain⟨i,f⟩:=hf n OP;rw[f]at h1;rw[O4]at h1;by_cases e:(x == n)=true
    ·rw[e]at h1;have d:x=n:=by simpa using e
     subst d;have:i=c:=OI h1;subst this;exact .inl ⟨OP,f⟩
    ·have d:(x == n)=false:=by simpa using e
     rw[d]at h1;exact .inr h1
   ·rw[Sb hk]at h1;exact .inr h1
theorem uN{cells:List (Str × Addr)}:∀(l:List (Str × NameKind)) (a:List (Str × Addr)) (x:Str),((x,NameKind.free)∈l\/∃c,a.lookup x=some c)->∃c,(eZ cells l a).lookup x=some c
 | [],a,x,h=>by
  rcases h with h|h
  ·cases h
  ·exact h
 | (n,k)::r,a,x,h=>by
  unfold eZ;refine uN r _ x ?_;rcases h with h|⟨c,h⟩
  ·rcases OT.mp h with e|e
   ·cases e;exact .inr ⟨_,by simp;rfl⟩
   ·exact .inl e
  ·refine .inr ?_;by_cases hk:(k == NameKind.free)=true
   ·rw[Sc hk,O4];cases (x == n)
    ·exact⟨c,h⟩
    ·exact⟨_,Z⟩
   ·rw[Sb hk];exact⟨c,h⟩
section
variable {prog:Program}{w:World}{A:Around}{s:Shared}{R:Result->Shared->Prop}
def Ly{e a b:Expr}{f:List Expr}{scope:Scope}{pos:Pos}{it d:Value}{env:Env}(I:Nat->Shared->Prop)
 (g:∀n s,I n s->wpAny (model prog w) A (pyNext it) (λr j=>match r with
   | none=>R (.ok .next) j
   | some v=>wpAny (model prog w) A (letOwnedTupleGo a it v) (λ_ i=>wpAny (model prog w) A (assign a env v) (λ_ p =>
    wpAny (model prog w) A (forIn f true λc r=>if r=true then do let ok <- isTrue c env (eval c env);pure (ForInStep.yield ok) else pure (ForInStep.yield r)) (λok k =>
     if ok=true then wpAny (model prog w) A (eval e env) (λx y =>
      wpAny (model prog w) A (call (.builtin "list.append") [d,x]) (λ_ q=>∃m,m<n/\I m q) (λ_ _=>False) y) (λ_ _=>False) k
     else ∃m,m<n/\I m k) (λ_ _=>False) p) (λ_ _=>False) i) (λ_ _=>False) j) (λ_ _=>False) s)
 (n:Nat) (h:I n s) :
 codeAny (model prog w) A (.compLoop (.ListComp e [⟨a,b,f,0⟩] scope pos) 0 it d env) R s:=by
 refine codeAny_loop Z I (λn s hI=>?_) n h;show wpAny _ A ((compTurn (.ListComp e [⟨a,b,f,0⟩] scope pos) 0 it d env).onRaise (λx=>do noteFrame x env;theTreesLotGoes x)) _ _ s;refine wpAny_noted ?_;rw[compTurn_list];refine on (wpAny_standAt (on (wpAny_mono (g n s hI) (λr j u=>?_) λ_ _ h'=>h'.elim)));cases r with
 | none=>exact Sa u
 | some v =>
  refine on (wpAny_mono u (λ_ i l=>?_) λ_ _ h'=>h'.elim);refine on (wpAny_mono l (λ_ p B=>on (wpAny_mono B (λok k o=>?_) λ_ _ h'=>h'.elim)) λ_ _ h'=>h'.elim);cases ok with
  | false=>exact Sa ⟨rfl,o⟩
  | true =>
   exact on (on (wpAny_mono o (λx y z=>on (wpAny_mono z (λ_ q C=>Sa (Sa ⟨rfl,C⟩)) λ_ _ h'=>h'.elim)) λ_ _ h'=>h'.elim))
end
def cu(X:Cx)(Nc:List Str)(scope:Scope)(C:Addr)(s:Shared)(H:Hp)(fp:List Addr):Cx where
 prog:=X.prog
 w:=X.w
 K:=X.K
 mg:=X.mg
 base:=X.base
 A:=X.A
 N:=Nc
 s₀:=s
 H₀:=H
 env:=compEnvC scope (eZ X.env.cells scope.names []) C X.env
 outer:=X.stack
 stack:=X.stack
 ex:=fp
 fn:=λ_=>false
 calm:=X.calm
 pn:=X.pn
 xe:=λ_ _=>False
def ml(X:Cx)(b:List Expr)(t:TT):Prop :=
 ∀(a:List (Addr × Obj)) (s:Shared) (σ:St) (H:Hp) (Q:Bool->Hp->Prop),ae X a σ H s->t σ H Q ->
  wpAny (model X.prog X.w) X.A (forIn b true λc r=>if r=true then do let ok <- isTrue c X.env (eval c X.env);pure (ForInStep.yield ok) else pure (ForInStep.yield r)) (TP X a σ Q) X.xe s
def ft:TT:=λ_ H Q=>Q true H
def EU{X:Cx}:ml X [] ft:=λ_ _ _ H _ I h=>wpAny_tests_nil ⟨H,I,h⟩
def ET{X:Cx}{c:Expr}{t:TT}(h:PT X c t):ml X [c] t:=λa s σ H Q I q=>wpAny_tests_one (h a s σ H Q I q)
def bn.adopt{P:Program}{w:World}{H:Hp}{h:Heap}{a:Addr}{o:HO}(x:bn P w H h)(d:H a=none)(new:bd P w (upd H a o) h a o):bn P w (upd H a o) h:=λb u e=>by
 by_cases hb:b=a
 ·subst hb;rw[aP]at e;cases e;exact new
 ·rw[am hb]at e;exact (x b u e).stay (λc v _ q=>q) (λc q=>by rw[am (aO q d)];exact q) λc xs q=>by rw[am (aO q d)];exact q
def fU(J:It)(k:Hp)(h:St)(g:TG)(j:TT)(f:TE)(Q:VK):Prop:=∃W:Nat->Nat->List V->St->Hp->Prop,
 (∃m,W 0 m [] h k)/\∀i m ys σ1 H2,W i m ys σ1 H2 ->
   (J.stop i H2/\ys.length<=sizeLine/\∀p H',aZ H2 p (.lst ys) H'->Q (.ref p) H') \/
   (J.go i H2/\ys.length<sizeLine/\∃Nx:List V->St->Hp->Prop,(∀ys' σ' H',Nx ys' σ' H'->∃m',m'<m/\W (i+1) m' ys' σ' H') /\
     ∀x H',J.yld i H2 x H'->g x σ1 H' λa d=>j a d λb c=>if b=true then f a c λy e=>Nx (ys++[y]) a e else Nx ys a c)
def nX(nv:Nat)(caps:List Nat)(c:TI)(g:TG)(b:TT)(d:TE):TE:=λσ H Q=>c σ H λJ a=>fU J a (List.replicate nv none++caps.map λj=>(σ[j]?).join) g b d Q
structure cq (X:Cx) (Nc:List Str) (nv:Nat) (caps:List Nat) (scope:Scope):Prop where
 kind:scope.kind=.function
 nocell:∀y∈scope.names,y.2 ≠ .cell
 names:∀y∈scope.names,y.2=.local->scope.names.lookup y.1=some .local
 free:∀n,(n,NameKind.free)∈scope.names->X.env.kindOf n=some .cell\/X.env.kindOf n=some .free
 len:Nc.length=nv+caps.length
 cap:∀k j,caps[k]? = some j->∃x,Nc[nv+k]? = some x/\X.N[j]? = some x/\scope.names.lookup x=some .free
def As(fns:List (Str × NameKind))(N Nc:List Str)(nv:Nat)(caps:List Nat)(a:Scope):Bool :=
 (a.kind == .function) && (a.names.all λy=>!(y.2 == .cell)) && (a.names.all λy=>!(y.2 == .local) || a.names.lookup y.1 == some .local) &&
 (a.names.all λy=>!(y.2 == .free) || (fns.lookup y.1 == some .cell || fns.lookup y.1 == some .free)) && (Nc.length == nv+caps.length) &&
 ((List.range caps.length).all λk=>match caps[k]?,Nc[nv+k]? with
   | some j,some x=>N[j]? == some x && a.names.lookup x == some .free
   | _,_=>false)
def cq.of{X:Cx}{fns:List (Str × NameKind)}{N Nc:List Str}{nv:Nat}{caps:List Nat}{a:Scope}(i:X.env.scope.names=fns)(hN:X.N=N)(h:As fns N Nc nv caps a=true):cq X Nc nv caps a:=by
 unfold As at h;simp only [Pc]at h;obtain⟨⟨⟨⟨⟨l,g⟩,b⟩,f⟩,d⟩,o⟩:=h;refine⟨by simpa using l,λy hy e=>?_,λy hy e=>?_,λn c=>?_,by simpa using d,λk j e=>?_⟩
 ·have:=P6.mp g y hy;rw[e]at this;simp at this
 ·have:=P6.mp b y hy;rw[e]at this;simpa using this
 ·have:=P6.mp f _ c;show X.env.scope.names.lookup n=some .cell\/X.env.scope.names.lookup n=some .free;rw[i];simpa using this
 ·have m:k<caps.length:=(Ou.mp e).1;have:=P6.mp o k (O2.mpr m);rw[e]at this;cases ex:Nc[nv+k]? with
  | none=>rw[ex]at this;simp at this
  | some x =>
   rw[ex]at this;simp only [Pc]at this;exact⟨x,rfl,by rw[hN];simpa using this.1,by simpa using this.2⟩
theorem oY{env:Env}:∀ {names:List (Str × NameKind)} {x:Str} {k:NameKind},
 (names.map λ(n,k)=>if (k == NameKind.free && env.scope.kind == .function && env.kindOf n == some .cell) then (n,NameKind.cell) else (n,k)).lookup x=some k ->
 ∃k0,names.lookup x=some k0/\(k=k0\/(k0=.free/\k=.cell))
 | [],_,_,h=>by simp at h
 | (n,k0)::r,x,k,h=>by
  have h':List.lookup x ((if (k0 == NameKind.free && env.scope.kind == .function && env.kindOf n == some .cell)=true then (n,NameKind.cell) else (n,k0)) ::
   r.map λ(n,k)=>if (k == NameKind.free && env.scope.kind == .function && env.kindOf n == some .cell) then (n,NameKind.cell) else (n,k))=some k:=h
  cases hx:x == n with
  | true =>
   refine⟨k0,by simp[O4,hx],?_⟩;by_cases hc:(k0 == NameKind.free && env.scope.kind == .function && env.kindOf n == some .cell)=true
   ·rw[Sc hc,O4,hx]at h';have:NameKind.cell=k:=OI h';refine .inr ⟨?_,this.symm⟩;rw[Pc,Pc]at hc;simpa using hc.1.1
   ·rw[Sb hc,O4,hx]at h';exact .inl (OI h').symm
  | false =>
   have a:(r.map λ(n,k)=>if (k == NameKind.free && env.scope.kind == .function && env.kindOf n == some .cell) then (n,NameKind.cell) else (n,k)).lookup x=some k:=by
    by_cases hc:(k0 == NameKind.free && env.scope.kind == .function && env.kindOf n == some .cell)=true
    ·rw[Sc hc,O4,hx]at h';exact h'
    ·rw[Sb hc,O4,hx]at h';exact h'
   obtain⟨k1,b,c⟩:=oY a;exact⟨k1,by simp[O4,hx,b],c⟩
def iG{a b n:Addr}(h:a<n)(h':n<=b):a≠b:=OC (OH h h')
theorem mT{α β:Type}[BEq α][LawfulBEq α]:∀ {l:List (α × β)} {x:α} {k:β},l.lookup x=some k->(x,k)∈l
 | [],_,_,h=>by simp at h
 | (n,k0)::r,x,k,h=>by
  cases hx:x == n with
  | true =>
   simp only [O4,hx]at h;cases h;have e:x=n:=by simpa using hx
   subst e;exact OP
  | false =>
   simp only [O4,hx]at h;exact OQ _ (mT h)
section
variable {X:Cx}{elt tg iter:Expr}{ifs:List Expr}{scope:Scope}{Nc:List Str}{nv:Nat}{caps:List Nat}
def Ih{f:List (Addr × Obj)}{σ:St}{H:Hp}{s:Shared}{fp:List Addr}{V:Heap}{tk:Nat}{D C:Addr}{m:Str->Option Value}(S:cq X Nc nv caps scope)(I:ae X f σ H s)
 (U:∀b∈fp,fj X f H b) (Y:∀b∈fp,b<s.heap.objs.size) (hD:s.heap.objs.size<=D) (hC:s.heap.objs.size<=C) (hDC:D≠C) (hn:V.Ns C m) {oD:Obj} (hDo:V.get? D=some oD) (hDd:∀v,oD.data ≠ .cell v) (r:∀b o,s.heap.get? b=some o->V.get? b=some o) :
 ae (cu X Nc scope C s H fp) (f++[(D,oD)]) (List.replicate nv none++caps.map λj=>(σ[j]?).join) H { s with heap:=V,toks:=tk }:=by
 have F:∀n,(n,NameKind.free)∈scope.names->∃c,X.env.cells.lookup n=some c:=λn M=>I.ok.has n (S.free n M);have clX:∀x c,(eZ X.env.cells scope.names []).lookup x=some c->(x,NameKind.free)∈scope.names/\X.env.cells.lookup x=some c:=λx c e=>by
  rcases uM _ _ _ _ e F with h|h
  ·exact h
  ·simp at h
 have a1:∀b∈dg X.stack,b<s.heap.objs.size:=λb G=>by
  obtain⟨_,o,ho,_⟩:=I.stack.mem G;exact Oy ho
 have cellLt:∀x c,X.env.cells.lookup x=some c->c<s.heap.objs.size:=λx c e=>by
  obtain⟨v,q⟩:=I.cell x c e;exact q.lt
 refine⟨⟨I.ok.mod,S.kind,I.ok.glob,I.ok.blt,hC,λx y c W e2=>I.ok.inj x y c (clX x c W).2 (clX y c e2).2,λx hx=>?_,λx c z=>Sd z (by show ¬(false=true);decide),I.ok.hd,I.ok.frames,.inl rfl,λb G=>⟨?_,λx c e z=>?_⟩,λb o e=>I.bs b o e,OJ I.ok.bsz I.sz,λb o e G=>?_,λb G z=>?_,I.stack,I.stkFree⟩,
  rfl,I.bare,Un.kept r,⟨m,hn,λi x v h1 J h3=>?_⟩,λx c e=>?_,I.hok.fresh hC,λx c e=>I.freeC x c (clX x c e).2,λp hp=>?_,I.hok.kept r,?_⟩
 ·-- a cell or free name of the block has its cell
  have g:(relabel scope X.env).names.lookup x=some .cell\/(relabel scope X.env).names.lookup x=some .free:=hx;have M:(x,NameKind.free)∈scope.names:=by
   rcases g with g|g
   ·obtain⟨k0,e,z⟩:=oY g;rcases z with z|⟨z,_⟩
    ·subst z;exact Sd Z (S.nocell _ (mT e))
    ·subst z;exact mT e
   ·obtain⟨k0,e,z⟩:=oY g;rcases z with z|⟨_,z⟩
    ·subst z;exact mT e
    ·cases z
  exact uN _ _ _ (.inl M)
 ·exact OC (OH (Y b G) hC)
 ·exact (U b G).2.2.2.2.1 x c (clX x c e).2 z
 ·have hx:=(U b G).2.2.2.1;rcases hx with z|z
  ·exact I.ok.noex b o e z
  ·exact Sd (OH (OH (Oy e) I.ok.bsz) z) (O5 _)
 ·rcases OT.mp (I.stkSub b z) with q|q
  ·exact (U b G).2.1 q
  ·exact (U b G).2.2.1 q
 ·-- the names' values
  have hi:nv<=i:=by
   refine Nat.le_of_not_lt λB=>?_;rw[Pq (by simpa using B),Ry,Sc B]at J;cases J
  obtain⟨k,rfl⟩:=Nat.le.dest hi;rw[PC (by simp)]at J;simp only [Qi,RF,Ov]at J;cases ek:caps[k]? with
  | none=>rw[ek]at J;cases J
  | some j =>
   rw[ek]at J;have l:(σ[j]?).join=some v:=OI J;have hσ:σ[j]? = some (some v):=by
    cases e:σ[j]? with
    | none=>rw[e]at l;cases l
    | some z=>rw[e]at l;cases z with
     | none=>cases l
     | some z=>have:z=v:=OI l;rw[this]
   obtain⟨y,W,e2,e3⟩:=S.cap k j ek;have R:Nc[nv+k]? = some x:=h1;rw[W]at R;cases R;have M:=mT e3;have hk:=S.free x M;obtain⟨m0,ad,hl⟩:=I.loc;obtain⟨u,ru,lk⟩:=hl j x v e2 hσ (by
    rcases hk with z|z
    ·exact .inr (.inl z)
    ·exact .inr (.inr z))
   refine⟨u,ru,?_⟩;rcases lk with ⟨z,_⟩|⟨_,c,hc,hcell⟩
   ·rcases hk with L|L<;>rw[z]at L<;>cases L
   ·refine .inr ⟨?_,c,?_,hcell.keeps r⟩
    ·rcases h3 with z|z|z
     ·exfalso
      obtain⟨k0,e,L⟩:=oY (show (relabel scope X.env).names.lookup x=some .local from z);rw[e3]at e;cases e;rcases L with L|⟨_,L⟩<;>cases L
     ·exact .inl z
     ·exact .inr z
    ·obtain⟨c',N⟩:=uN (cells:=X.env.cells) scope.names [] x (.inl M);rw[(clX x c' N).2]at hc;cases hc;exact N
 ·obtain⟨v,z⟩:=I.cell x c (clX x c e).2;exact⟨v,z.keeps r⟩
 ·-- f
  have O:p∈X.pn++(f++[(D,oD)]):=hp;rw[<- Pr]at O;rcases Os.mp O with z|z
  ·obtain⟨e,n,ne,nf,d⟩:=I.pin p z;have B:=Oy e;refine⟨r _ _ e,n,OC (OH B hC),λq=>?_,d⟩;rcases OT.mp (I.stkSub p.1 q) with q|q
   ·exact ne q
   ·exact nf q
  ·have e:p=(D,oD):=by simpa using z
   subst e;exact⟨hDo,I.hok.fresh hD,hDC,λq=>Sd (OH (a1 _ q) hD) (O5 _),hDd⟩
 ·show (List.replicate nv none++caps.map λj=>(σ[j]?).join).length=Nc.length;rw[Oz,Qi,On,S.len]
abbrev hG(its:List Value)(n:Nat):Obj:={ cls:=.type "list",data:=.seq its.toArray n }
def yY(a:List Value)(n:Nat):∀v,(hG a n).data ≠ .cell v:=λv z=>by
 have b:Data.seq a.toArray n=Data.cell v:=z;cases b
def Ar{g:TG}{tt:TT}{te:TE}{pos:Pos}{a:List (Addr × Obj)}{σ:St}{H:Hp}{s:Shared}{Q:VK}{E:Value->Shared->Prop}{RR:Value->Addr->Result->Shared->Prop}(hc:X.calm=true)(S:cq X Nc nv caps scope)
 (hg:∀C s H fp,PG (cu X Nc scope C s H fp) tg g) (ht:∀C s H fp,ml (cu X Nc scope C s H fp) ifs tt) (he:∀C s H fp,PE (cu X Nc scope C s H fp) elt te)
 {it:Addr} {fp:List Addr} {tn:Nat->Heap->Prop} {J:It} (I:ae X a σ H s) (T:d7 X.prog X.w X.K tg J fp it tn) (st:tn 0 s.heap) (U:∀b∈fp,fj X a H b)
 {W:Nat->Nat->List V->St->Hp->Prop} {m0:Nat} (w0:W 0 m0 [] (List.replicate nv none++caps.map λj=>(σ[j]?).join) H)
 (ax:∀i m l Y H2,W i m l Y H2->(J.stop i H2/\l.length<=sizeLine/\∀p H',aZ H2 p (.lst l) H'->Q (.ref p) H') \/
   (J.go i H2/\l.length<sizeLine/\∃Nx:List V->St->Hp->Prop,(∀ys' σ' H',Nx ys' σ' H'->∃m',m'<m/\W (i+1) m' ys' σ' H') /\
     ∀x H',J.yld i H2 x H'->g x Y H' λσ2 H3=>tt σ2 H3 λb H4=>if b=true then te σ2 H4 λy H5=>Nx (l++[y]) σ2 H5 else Nx l σ2 H4))
 (hRR:∀(D C:Addr) (s1:Shared) (H':Hp),ae X a σ H' s1->fj X a H' C->(∃m,s1.heap.Ns C m)->Q (.ref D) H'->RR (.ref D) C (.ok .next) s1) :
 wpAny (model X.prog X.w) X.A (newList []) (λaz s₃=>wpAny (model X.prog X.w) X.A (newFunctionEnv scope X.env.globals (eZ X.env.cells scope.names []) [] X.env.qual none .none (some X.env)) (λa3 s₄ =>
  codeAny (model X.prog X.w) X.A (.compStart (.ListComp elt [⟨tg,iter,ifs,0⟩] scope pos) 0 (.ref it) az { a3 with scope:=relabel scope X.env }) (RR az a3.locals) s₄) E s₃) E s:=by
 refine wpAny_newObj_type (wpAny_newFunctionEnv S.nocell (by intro y hy;simp at hy) (λh₁ L B=>?_) S.kind);dsimp only at L B ⊢;generalize hH2:s.heap.push { cls:=.type "list",dict:=none,data:=.seq ([]:List Value).toArray }=h2 at L B ⊢;have hC:h2.objs.size=s.heap.objs.size+1:=by rw[<- hH2,Pp]
 have hDC:s.heap.objs.size≠h2.objs.size:=by rw[hC];exact OC (Pb _)
 have hCle:s.heap.objs.size<=h2.objs.size:=by rw[hC];exact Pk _
 have ab:∀b o,s.heap.get? b=some o->h₁.get? b=some o:=λb o e=>B.extBut b o (OC (OH (Oy e) hCle)) (Ow _ (hH2 ▸ Ow _ e));have a4:h₁.get? s.heap.objs.size=some (hG [] 0):=B.extBut _ _ hDC (Ow _ (hH2 ▸ OB _ rfl));have a1:∀b∈fp,b<s.heap.objs.size:=λb k=>by
  obtain⟨o,ho,_⟩:=T.obj _ _ st b k;exact Oy ho
 have aL:∀b∈dg X.stack,b<s.heap.objs.size:=λb k=>by
  obtain⟨_,o,ho,_⟩:=I.stack.mem k;exact Oy ho
 have cellLt:∀x c,X.env.cells.lookup x=some c->c<s.heap.objs.size:=λx c e=>by
  obtain⟨v,q⟩:=I.cell x c e;exact q.lt
 have a0:∀n,(n,NameKind.free)∈scope.names->∃c,X.env.cells.lookup n=some c:=λn hm=>I.ok.has n (S.free n hm);have clX:∀x c,(eZ X.env.cells scope.names []).lookup x=some c->X.env.cells.lookup x=some c:=λx c e=>by
  rcases uM _ _ _ _ e a0 with h|h
  ·exact h.2
  ·simp at h
 have pinLt:∀p∈X.pn++a,p.1<s.heap.objs.size:=λp O=>Oy (I.pin p O).1;generalize hDD:s.heap.objs.size=D at a4 hDC ⊢;generalize hCC:h2.objs.size=C at hDC hCle L B ⊢;have leD:s.heap.objs.size<=D:=P2 hDD;have leC:s.heap.objs.size<=C:=by omega
 have a8:∀ {G:Hp} (o:Obj),(∀b∈fp,G b=none)->∀b∈fp,fj (cu X Nc scope C s H fp) (a++[(D,o)]) G b:=λ{G} o hn b k=>by
  refine⟨hn b k,OC (OH (a1 b k) leC),λz=>?_,.inl k,λx c e z=>(U b k).2.2.2.2.1 x c (clX x c e) z,λp O=>?_⟩
  ·rcases OT.mp (I.stkSub b z) with q|q
   ·exact (U b k).2.1 q
   ·exact (U b k).2.2.1 q
  ·have an:p∈X.pn++(a++[(D,o)]):=O;rw[<- Pr]at an;rcases Os.mp an with z|z
   ·exact (U b k).2.2.2.2.2 p z
   ·have e:p=(D,o):=by simpa using z
    subst e;exact λq=>iG (a1 b k) leD q.symm
 have N:∀s₃:Shared,s₃ = { s with heap:=h₁,toks:=s.toks+([]:List (Str × Value)).length } ->
  codeAny (model X.prog X.w) X.A (.compLoop (.ListComp elt [⟨tg,iter,ifs,0⟩] scope pos) 0 (.ref it) (.ref D) (compEnvC scope (eZ X.env.cells scope.names []) C X.env)) (RR (.ref D) C) s₃:=by
  rintro s₃ rfl;refine Ly (λn s'=>∃(i:Nat) (l:List V) (f:List Value) (nn:Nat) (Y:St) (G:Hp),ae (cu X Nc scope C s H fp) (a++[(D,hG f nn)]) Y G s'/\tn i s'.heap/\(∀b∈fp,G b=none)/\ay l f/\W i n l Y G) ?_ m0
   ⟨0,[],[],0,_,H,Ih S I U a1 leD leC hDC L a4 (yY _ _) ab,T.keep _ _ _ st λb _ o e=>ab b o e,λb k=>(U b k).1,.nil,w0⟩
  rintro n s' ⟨i,l,f,nn,Y,G,I1,av,ar,rv,w1⟩;have pinD:∀ {σ':St} {H':Hp} {a7:Shared} {pl:List (Addr × Obj)},ae (cu X Nc scope C s H fp) ((a++[(D,hG f nn)])++pl) σ' H' a7->a7.heap.get? D=some (hG f nn)/\H' D=none:=λ{σ' H' a7 pl} I'=>by
   have z:=I'.pin (D,hG f nn) (ON _ (OZ _ (ON _ (by simp))));exact⟨z.1,z.2.1⟩
  rcases ax i n l Y G w1 with ⟨stop,hz,q⟩|⟨go,hz,Nx,hNx,step⟩
  ·refine ap (T.done (cu X Nc scope C s H fp) Z Z Z hc i _ s' Y G _ I1 (a8 _ ar) av stop) λr s4 ⟨hr,I4⟩=>?_;subst hr;obtain⟨eD,nD⟩:=pinD (pl:=[]) (by rw[Pg];exact I4);obtain⟨m,hnC,_⟩:=I4.loc;have u4:Un (dg X.stack) fp H G s.heap s4.heap:=I4.base;have dNone:s.heap.get? D=none:=Rs (P2 hDD);have noD:∀b o,s.heap.get? b=some o->b≠D:=λb o e z=>by rw[z,dNone]at e;cases e
   have u5:Un (dg X.stack) fp H (upd G D (.lst l)) s.heap s4.heap:=by
    refine⟨u4.keep,u4.slot,λb o e n hx=>?_,u4.there,λb xs e=>?_,λb o u e=>?_,λb ps e=>?_⟩
    ·rw[am (noD b o e)];exact u4.free b o e n hx
    ·have z:=u4.tups b xs e;rw[am (aO z nD)];exact z
    ·have z:=u4.frzs b o u e;rw[am (aO z nD)];exact z
    ·obtain⟨al,z⟩:=u4.tbls b ps e;exact⟨al,by rw[am (aO z nD)];exact z⟩
   have hok:bn X.prog X.w (upd G D (.lst l)) s4.heap:=bn.adopt I4.hok nD ⟨hz,f,nn,rv,eD⟩;have IX:ae X a σ (upd G D (.lst l)) s4:=I.call' I4.os u5 hok I4.bare λb k=>⟨(U b k).2.2.2.1,(U b k).2.1,(U b k).2.2.2.2.1,(U b k).2.2.2.2.2⟩;have fpC:fj X a (upd G D (.lst l)) C:=by
    have hl:X.env.locals<s.heap.objs.size:=I.lt;exact⟨by rw[am (Ne.symm hDC)];exact I4.free,(iG hl leC).symm,I.nofs leC,.inr (OJ I.sz leC),λx c e z=>iG (cellLt x c e) leC z,λp O z=>iG (pinLt p O) leC z⟩
   exact hRR D C s4 _ IX fpC ⟨m,hnC⟩ (q D _ (.mk' nD))
  ·refine ap (T.item (cu X Nc scope C s H fp) Z Z Z hc i _ s' Y G _ I1 (a8 _ ar) av go) λr s4 ⟨u,hr,h4⟩=>?_;subst hr;refine ap h4 λ_ s5 ⟨x,H5,I5,r5,y5,a9,aJ⟩=>?_;have aH:=I5.pinned (a8 _ aJ) (T.obj _ _ a9);have a6:∀ {σ7:St} {H7:Hp} {s7:Shared},ae (cu X Nc scope C s H fp) ((a++[(D,hG f nn)])++mR fp s5.heap) σ7 H7 s7->tn (i+1) s7.heap/\∀b∈fp,H7 b=none:=λ{σ7 H7 s7} I7=>by
    refine⟨T.keep _ _ _ a9 λb k o e=>(I7.pin (b,o) (ON _ (ON _ (oV k e)))).1,λb k=>?_⟩;obtain⟨o,e,d⟩:=T.obj _ _ a9 b k;exact (I7.pin (b,o) (ON _ (ON _ (oV k e)))).2.1
   refine ap (hg _ _ _ _ _ s5 Y H5 x u _ aH r5 (step x H5 y5)) λ_ s6 ⟨σ6,H6,I6,q6⟩=>?_;refine ap (ht _ _ _ _ _ s6 σ6 H6 _ I6 q6) λb s7 ⟨H7,I7,q7⟩=>?_;cases b with
   | false =>
    obtain⟨m',hm,w7⟩:=hNx _ _ _ q7;obtain⟨t7,f7⟩:=a6 I7;exact⟨m',hm,i+1,l,f,nn,σ6,H7,I7.unpinned,t7,f7,rv,w7⟩
   | true =>
    refine ap (he _ _ _ _ _ s7 σ6 H7 _ I7 q7) λR s8 ⟨y,H8,I8,r8,n8⟩=>?_;obtain⟨m',hm,w8⟩:=hNx _ _ _ n8;obtain⟨t8,f8⟩:=a6 I8;obtain⟨eD,nD⟩:=pinD I8;have aV:=rv.length;refine call_meets F.slot_list_append ⟨_,eD,rfl⟩ F.entry_list_append (F.args_list_append_2 _ _) (PySem.list_append D f.toArray nn R (by rw[OE];omega)) ⟨eD,?_⟩;have ea:f.toArray.push R=(f++[R]).toArray:=by simp
    obtain⟨n9,e9⟩:∃n9,(s8.heap.update D (Obj.mapSeq (·.push R))).get? D=some (hG (f++[R]) n9):=⟨_,by
     have z:=PySem.IsL.update eD (·.push R);rw[ea]at z;exact z⟩
    have M:∀b o,b≠D->s8.heap.get? b=some o->(s8.heap.update D (Obj.mapSeq (·.push R))).get? b=some o:=λb o k e=>(RB _ _ (Ne.symm k)).trans e;have aI:∀b∈fp,b≠D:=λb k z=>iG (a1 b k) leD z;have aK:ae (cu X Nc scope C s H fp) a σ6 H8 s8:=I8.pins_of λp O=>I8.pin p (ON _ (OZ _ (OZ _ O)));have I9:=aK.turned (t':=s8.toks) (it:=D) M nD hDC (.inr leD) (λx c e z=>iG (cellLt x c (clX x c e)) leD z) (λp O z=>iG (pinLt p O) leD z);have t9:tn (i+1) (s8.heap.update D (Obj.mapSeq (·.push R))):=T.keep _ _ _ t8 λb k o e=>M b o (aI b k) e;refine⟨m',hm,i+1,l++[y],f++[R],n9,σ6,H8,I9.pins_of λp O=>?_,t9,f8,rv.append (.cons r8 .nil),w8⟩;rcases Os.mp O with z|z
    ·exact I9.pin p (ON _ z)
    ·have e:p=(D,hG (f++[R]) n9):=by simpa using z
     subst e;exact⟨e9,nD,hDC,λq=>iG (aL _ q) leD Z,yY _ _⟩
 have be:=λ(s₃:Shared) (e:s₃ = { s with heap:=h₁,toks:=s.toks+([]:List (Str × Value)).length })=>N s₃ e;exact codeAny_compStart_list (N _ Z) (T.self _ 0 _ _ _ (T.keep _ _ _ st λb _ o e=>ab b o e) (N _ Z))
def FU{r:TI}{g:TG}{l:TT}{p:TE}{pos:Pos}(hc:X.calm=true)(S:cq X Nc nv caps scope)(hi:PI X tg iter r)
 (U:∀C s H fp,PG (cu X Nc scope C s H fp) tg g) (B:∀C s H fp,ml (cu X Nc scope C s H fp) ifs l) (he:∀C s H fp,PE (cu X Nc scope C s H fp) elt p)
 (hs:∀x,foldedSetIterable iter X.env x=pure x:=by intro _;rfl):PE X (.ListComp elt [⟨tg,iter,ifs,0⟩] scope pos) (nX nv caps r g l p):=by
 intro d s σ H Q I h;rw[eval_ListComp];have a:∀n,(n,NameKind.free)∈scope.names->∃c,X.env.cells.lookup n=some c:=λn hm=>I.ok.has n (S.free n hm);refine wpAny_comprehension_free (use:=none) Z hs (At a) S.kind S.names (ap (hi d s σ H _ I h) λv s1 h1=>ap h1 λz s2 M=>?_);obtain⟨it,fp,tn,J,H2,rfl,R,T,j,u,W,⟨m0,w0⟩,f⟩:=M;refine Ar (RR:=λk C=>compPost (model X.prog X.w) X.A X.xe none (EP X d σ Q) k C) hc S U B he R T j u w0 f λD C F L I4 fC i q=>?_;obtain⟨m,i⟩:=i;refine⟨m,i,λh' N=>?_⟩;obtain⟨V,O,Y,y,f4,G⟩:=fC;exact⟨.ref D,L,I4.turned (t':=F.toks) (it:=C) (λb o hb e=>N.extBut b o hb e) V O y f4 G,Z,q⟩
def E6{V:TI}{g:TG}{M:TT}{R:TE}{pos f k:Pos}{i:Nat}{y:Str}(hN:X.N.Nodup)(hy:X.N[i]? = some y)(hx:gM X.env.scope y)(hc:X.calm=true)(S:cq X Nc nv caps scope)(hi:PI X tg iter V)
 (hg:∀C s H fp,PG (cu X Nc scope C s H fp) tg g) (ht:∀C s H fp,ml (cu X Nc scope C s H fp) ifs M) (he:∀C s H fp,PE (cu X Nc scope C s H fp) elt R)
 (B:swapsWith (.ListComp elt [⟨tg,iter,ifs,0⟩] scope pos) (some (.Name y k)) f.line X.env=pure true:=by rfl)
 (hs:∀x,foldedSetIterable iter X.env x=pure x:=by intro _;rfl) (hf:X.fn y=true\/X.env.scope.names.lookup y=some .local:=by first|exact .inl rfl|exact .inr rfl|assumption) :
 PS X (.Assign [.Name y k] (.ListComp elt [⟨tg,iter,ifs,0⟩] scope pos) f) (jO (nX nv caps V g M R) (bT i)):=by
 intro a s σ H G I h;have d:∀n,(n,NameKind.free)∈scope.names->∃c,X.env.cells.lookup n=some c:=λn hm=>I.ok.has n (S.free n hm);rw[exec_Assign_Name_used _ _ _ _ B];refine on (wpAny_standAt (on ?_));show wpAny _ X.A (do let _ <- comprehension (.ListComp elt [⟨tg,iter,ifs,0⟩] scope pos) scope X.env _ (newList []) false (eval iter X.env) (some (assign (.Name y k) X.env))) _ _ s;refine on (wpAny_mono (wpAny_comprehension_free (use:=some (assign (.Name y k) X.env)) (Q:=λ_ p=>SP X a G .next p) Z hs (At d) S.kind S.names
  (ap (hi a s σ H _ I h) λv s1 h1=>ap h1 λa1 s2 h2=>?_)) (λ_ p hq=>Sa (Sa hq)) λ_ _ e=>e)
 obtain⟨it,fp,tn,J,H2,rfl,I2,T,F,Y,W,⟨m0,w0⟩,l⟩:=h2;refine Ar (RR:=λL C=>compPost (model X.prog X.w) X.A X.xe (some (assign (.Name y k) X.env)) (λ_ p=>SP X a G .next p) L C) (Q:=λx H1=>bT i x σ H1 G.nx) hc S hg ht he I2 T F Y w0 l λD C s4 H4 I4 fC r q=>?_;obtain⟨m,r⟩:=r;obtain⟨f0,O,ah,f3,U,f5⟩:=fC;show wpAny _ X.A (assign (.Name y k) X.env (.ref D)) _ _ _;refine wpAny_assign_Name (xk I4 hN hy hx (show ax (.ref D) (.ref D) from rfl) (λs5 I5 j=>?_) hf);obtain⟨a5,j,u⟩:=j;have hCa:C≠a5:=by
  rcases u with z|z
  ·rw[z];exact O
  ·exact λe=>U _ _ z e.symm
 refine⟨m,r.sameBut j hCa,λh' sb=>?_⟩;exact⟨_,H4,I5.turned (t':=s5.toks) (it:=C) (λb o hb e=>sb.extBut b o hb e) f0 O f3 U f5,q⟩
end
def Aq{K:W.Frag}{a:Addr}{xs:List V}{cs:St}{r:TT}{o:TE}{H:Hp}{Q:VK}(f:Nat->List V->Hp->Prop)(s:f 0 [] H)(B:∀i d H,i<=xs.length->f i d H->aJ K H a xs/\d.length<=i)(hz:xs.length<=sizeLine)
 (v:∀i x d H (N:List V->Hp->Prop),xs[i]? = some x->f i d H->(∀c H',f (i+1) c H'->N c H')->r (some x::cs) H λb l=>if b=true then o (some x::cs) l λy u=>N (d++[y]) u else N d l)
 (hd:∀d H p H',f xs.length d H->aZ H p (.lst d) H'->Q (.ref p) H') :
 fU (jG K a) H (List.replicate 1 none++cs) (bT 0) r o Q:=by
 refine⟨λi m d σ H=>m=xs.length-i/\i<=xs.length/\f i d H/\∃h,σ=h::cs,⟨xs.length,by simp,Ox _,s,none,rfl⟩,?_⟩;rintro i m d σ k ⟨rfl,C,p,h,rfl⟩;obtain⟨q,D⟩:=B i d k C p;by_cases hlt:i<xs.length
 ·refine .inr ⟨⟨xs,xs[i],q,by simp[hlt]⟩,by omega,λc n H'=>f (i+1) c H'/\∃h,n=h::cs,λc n H' ⟨j,e⟩=>⟨xs.length-(i+1),by omega,rfl,hlt,j,e⟩,λx H' y=>?_⟩;obtain⟨e,y⟩:=y;subst e;exact v i x d H' (λc H'=>f (i+1) c H'/\∃h,some x::cs=h::cs) (y xs q) p λ_ _ z=>⟨z,_,Z⟩
 ·have e:i=xs.length:=by omega
  subst e;exact .inl ⟨⟨xs,q,Oo _⟩,by omega,λj H' g=>hd d k j H' p g⟩
def Lr{K:W.Frag}{a:Addr}{xs:List V}{cs:St}{r:TT}{o:TE}{H:Hp}{Q:VK}(f:Nat->List V->Hp->Prop)(s:f 0 [] H)(B:∀i d H,i<=xs.length->f i d H->bJ K H a xs/\d.length<=i)(hz:xs.length<=sizeLine)
 (v:∀i x d H (N:List V->Hp->Prop),xs[i]? = some x->f i d H->(∀c H',f (i+1) c H'->N c H')->r (some x::cs) H λb l=>if b=true then o (some x::cs) l λy u=>N (d++[y]) u else N d l)
 (hd:∀d H p H',f xs.length d H->aZ H p (.lst d) H'->Q (.ref p) H') :
 fU (wz K a) H (List.replicate 1 none++cs) (bT 0) r o Q:=by
 refine⟨λi m d σ H=>m=xs.length-i/\i<=xs.length/\f i d H/\∃h,σ=h::cs,⟨xs.length,by simp,Ox _,s,none,rfl⟩,?_⟩;rintro i m d σ k ⟨rfl,C,p,h,rfl⟩;obtain⟨q,D⟩:=B i d k C p;by_cases hlt:i<xs.length
 ·refine .inr ⟨⟨xs,xs[i],q,by simp[hlt]⟩,by omega,λc n H'=>f (i+1) c H'/\∃h,n=h::cs,λc n H' ⟨j,e⟩=>⟨xs.length-(i+1),by omega,rfl,hlt,j,e⟩,λx H' y=>?_⟩;obtain⟨e,y⟩:=y;subst e;exact v i x d H' (λc H'=>f (i+1) c H'/\∃h,some x::cs=h::cs) (y xs q) p λ_ _ z=>⟨z,_,Z⟩
 ·have e:i=xs.length:=by omega
  subst e;exact .inl ⟨⟨xs,q,Oo _⟩,by omega,λj H' g=>hd d k j H' p g⟩
def Ap{lo:Int}{n:Nat}{cs:St}{q:TT}{o:TE}{H:Hp}{Q:VK}(d:Nat->List V->Hp->Prop)(r:d 0 [] H)(v:∀i c H,i<=n->d i c H->c.length<=i)(hz:n<=sizeLine)
 (u:∀i c H (N:List V->Hp->Prop),i<n->d i c H->(∀a H',d (i+1) a H'->N a H')->q (some (.int (lo+i))::cs) H λb k=>if b=true then o (some (.int (lo+i))::cs) k λy s=>N (c++[y]) s else N c k)
 (hd:∀c H p H',d n c H->aZ H p (.lst c) H'->Q (.ref p) H') :
 fU (jC lo n) H (List.replicate 1 none++cs) (bT 0) q o Q:=by
 refine⟨λi m c σ H=>m=n-i/\i<=n/\d i c H/\∃f,σ=f::cs,⟨n,by simp,Ox _,r,none,rfl⟩,?_⟩;rintro i m c σ j ⟨rfl,B,p,f,rfl⟩;have C:=v i c j B p;by_cases hlt:i<n
 ·refine .inr ⟨hlt,by omega,λa l H'=>d (i+1) a H'/\∃f,l=f::cs,λa l H' ⟨h,e⟩=>⟨n-(i+1),by omega,rfl,hlt,h,e⟩,λx H' y=>?_⟩;obtain⟨e,y⟩:=y;subst e y;exact u i c H' (λa H'=>d (i+1) a H'/\∃f,some (V.int (lo+i))::cs=f::cs) hlt p λ_ _ z=>⟨z,_,Z⟩
 ·have e:i=n:=by omega
  subst e;exact .inl ⟨Oo _,by omega,λh H' g=>hd c j h H' p g⟩
def fP{α:Type}(xs:List α)(lo a:Option Int):List α:=(xs.drop (HT.sIx xs.length 0 lo)).take (HT.sIx xs.length xs.length a-HT.sIx xs.length 0 lo)
def Ln{α β:Type}(f:α->β)(xs:List α)(lo a:Option Int):fP (xs.map f) lo a=(fP xs lo a).map f:=by
 unfold fP;rw[On,List.map_take,List.map_drop]
def Ao{α:Type}(xs:List α)(k:Nat):fP xs none (some (k:Int))=xs.take k:=by
 unfold fP HT.sIx;simp only [Q5,Nat.sub_zero];have h:¬((k:Int)<0):=by omega
 rw[Sb h,OX,<- List.take_take,OK]
def pN{α:Type}(xs:List α)(k:Nat):fP xs (some (k:Int)) none=xs.drop k:=by
 unfold fP HT.sIx;have h:¬((k:Int)<0):=by omega
 dsimp only;rw[Sb h,OX];by_cases hk:k<=xs.length
 ·rw[Qx hk];exact Ps (by simp)
 ·rw[Q6 (by omega),List.drop_length,Q7,RG (by omega)]
def pM{α:Type}(xs:List α)(k m:Nat):fP xs (some (k:Int)) (some ((k:Int)+(m:Int)))=(xs.drop k).take m:=by
 unfold fP HT.sIx;have h:¬((k:Int)<0):=by omega
 have h':¬((k:Int)+(m:Int)<0):=by omega
 have e:((k:Int)+(m:Int)).toNat=k+m:=by omega
 dsimp only;rw[Sb h,Sb h',OX,e];by_cases hk:k<=xs.length
 ·rw[Qx hk];by_cases hm:k+m<=xs.length
  ·rw[Qx hm,RF]
  ·rw[Q6 (by omega),Ps (by simp),Ps (by simp;omega)]
 ·rw[Q6 (by omega:xs.length<=k),List.drop_length,Q7,RG (by omega),Q7]
def ic(ns ms:List Int):Int:=if ns=ms then 0 else if HT.lexLt ns ms=true then -1 else 1
def gE(ns:List Int)(lo a:Option Int):ce (ns.map V.int) lo a=(fP ns lo a).map V.int:=Ln _ _ _ _
def ud(ns ms:List Int):PyData.eqv (.list (ns.map PyData.int)) (.list (ms.map PyData.int))=decide (ns=ms):=by
 show PyData.eqvAll _ _=_;exact W.ked_eqvAll ns ms
def ma{K:W.Frag}{H:Hp}{a b:Addr}{ns ms:List Int}{neg:Bool}{Q:VK}(d:aJ K H a (ns.map V.int))(c:aJ K H b (ms.map V.int))(q:Q (.bl (if neg then !decide (ns=ms) else decide (ns=ms))) H) :
 gA K neg (.ref a) (.ref b) H Q:=by
 refine⟨_,_,aU.lst d (dt.ints ns),aU.lst c (dt.ints ms),W.ke_shaped_ints ns,W.ke_shaped_ints ms,?_⟩;rw[ud];exact q
structure QE (X:Cx) (e:Expr) (t:TE):Prop where
 h:PE X e t
structure QT (X:Cx) (e:Expr) (t:TT):Prop where
 h:PT X e t
structure QW (X:Cx) (e:Expr) (t:TT):Prop where
 h:PW X e t
structure QA (X:Cx) (es:List Expr) (t:TA):Prop where
 h:PA X es t
structure QS (X:Cx) (st:Stmt) (t:TS):Prop where
 h:PS X st t
structure fR (X:Cx) (st:List Stmt) (t:TS):Prop where
 h:eN X st t
structure QG (X:Cx) (e:Expr) (t:TG):Prop where
 h:PG X e t
structure nI (X:Cx) (es:List Expr) (t:gG):Prop where
 h:nJ X es t
structure QI (X:Cx) (tg e:Expr) (t:TI):Prop where
 h:PI X tg e t
structure QO (X:Cx) (e:Option Expr) (t:TO):Prop where
 h:PO X e t
structure qA (X:Cx) (es:List Expr) (t:TT):Prop where
 h:ml X es t
section
variable {X:Cx}{a b c e o:Expr}{es rest:List Expr}{pos p p2:Pos}{ta tb tc te to:TE}{tA tB' tt:TT}{t tk:TA}
def aq{i j pos}:QE X (.Constant (.int i) j pos) (tC (.int i)):=⟨oM⟩
def jf{b j pos}:QE X (.Constant (.bool b) j pos) (tC (.bl b)):=⟨yq⟩
def bL{j pos}:QE X (.Constant .none j pos) (tC .non):=⟨yn⟩
def je{x j pos}:QE X (.Constant (.str x) j pos) (tC (.str x)):=⟨yj⟩
def aa(i:Nat){x:Str}(hN:X.N[i]? = some x:=by rfl)(b:jy X.env.scope x:=by first|exact Or.inl rfl|exact Or.inr (Or.inl rfl)|exact Or.inr (Or.inr rfl))(hd:(x == ("__debug__" : Str))=false:=by decide)
 (a:(x == ("__classdict__" : Str))=false:=by decide):QE X (.Name x pos) (mV i):=⟨vv i hN b hd a⟩
def fM{x:Str}{n:Int}{u:Tok}(a:X.mg x=some (.int n u))(b:Gl X x:=by rfl)(hd:(x == ("__debug__" : Str))=false:=by decide):QE X (.Name x pos) (tC (.int n)):=⟨gi a b hd⟩
def xY {x:Str} {v:V} {u:Value} (b:Gl X x) (a:X.mg x=some u) (r:ax v u) (hd:(x == ("__debug__" : Str))=false:=by decide):QE X (.Name x pos) (tC v):=⟨yp b a r hd⟩
def lD {x:Str} {T:String} (d:Gl X x) (a:X.mg x=none) (c:bootBuiltins x=some (.type T)) (b:x ≠ "__name__":=by decide) (hd:(x == ("__debug__" : Str))=false:=by decide):QE X (.Name x pos) (tC (.ty T)):=⟨L3 d a c b hd⟩
def iz{j:Int}{k:Nat}(c:QE X a ta)(b:0<j/\j<1073741824:=by decide):QE X (.BinOp a .FloorDiv (.Constant (.int j) k p) pos) (yR j ta):=⟨Hg c.h b⟩
def dP{j:Int}{k:Nat}(c:QE X a ta)(b:0<j:=by decide):QE X (.BinOp a .Mod (.Constant (.int j) k p) pos) (yP j ta):=⟨He c.h b⟩
def bG{op:Operator}{r:R2}(d:aM X (binaryOp op) r)(e:QE X a ta)(c:QE X b tb):QE X (.BinOp a op b pos) (fW r ta tb):=⟨FI d e.h c.h⟩
def oE{op:UnaryOp}{r:V->Hp->VK->Prop}(b:nG X (unaryOp op) r)(c:QE X a ta):QE X (.UnaryOp op a pos) (wQ r ta):=⟨FF b c.h⟩
def xZ(b:QE X a ta):QE X (.UnaryOp .Not a pos) (yO ta):=⟨Hd b.h⟩
def gZ(d:QE X a ta)(c:QE X (.BoolOp .And (b::rest) pos) tb):QE X (.BoolOp .And (a::b::rest) pos) (yT ta tb):=⟨Hj d.h c.h⟩
def oF(d:QE X a ta)(c:QE X (.BoolOp .Or (b::rest) pos) tb):QE X (.BoolOp .Or (a::b::rest) pos) (yN ta tb):=⟨Hc d.h c.h⟩
def gW{op}(h:QE X a ta):QE X (.BoolOp op [a] pos) ta:=⟨FJ h.h⟩
def gX{op:CmpOp}{r:R2}(e:aM X (compareOp op) r)(f:QE X a ta)(d:QE X b tb)(c:behindInMarks op b=false):QE X (.Compare a [op] [b] pos) (fW r ta tb):=⟨FV e f.h d.h c⟩
def mN{op d:CmpOp}{r f:R2}(g:aM X (compareOp op) r)(e:aM X (compareOp d) f)(k:QE X a ta)(l:QE X b tb)(i:QE X c tc)
 (j:lastMarks [op,d] [b,c]=false:=by with_unfolding_all rfl):QE X (.Compare a [op,d] [b,c] pos) (oW r f ta tb tc):=⟨Hi g e k.h l.h i.h j⟩
def ix(e:QT X c tA)(d:QE X a ta)(f:QE X b tb):QE X (.IfExp c a b pos) (w6 tA ta tb):=⟨FN e.h d.h f.h⟩
def dQ(h:QW X e tt):QT X e tt:=⟨PW.pt h.h⟩
def gh(b:QT X a tA):QW X (.BoolOp .And [a] pos) tA:=⟨EK b.h⟩
def mJ(b:QT X a tA):QW X (.BoolOp .Or [a] pos) tA:=⟨EI b.h⟩
def gj(d:QT X a tA)(c:QW X (.BoolOp .And (b::rest) pos) tB'):QW X (.BoolOp .And (a::b::rest) pos) (xj tA tB'):=⟨EL d.h c.h⟩
def mK(d:QT X a tA)(c:QW X (.BoolOp .Or (b::rest) pos) tB'):QW X (.BoolOp .Or (a::b::rest) pos) (wV tA tB'):=⟨EJ d.h c.h⟩
def fz(b:QT X a tA):QT X (.UnaryOp .Not a pos) (wW tA):=⟨E1 b.h⟩
def aT{op:CmpOp}{r:R2}(e:aM X (compareOp op) r)(f:QE X a ta)(d:QE X b tb)(c:behindInMarks op b=false):QT X (.Compare a [op] [b] pos) (mB (fW r ta tb)):=⟨GI e f.h d.h c⟩
def Ez{op d:CmpOp}{r f:R2}(g:aM X (compareOp op) r)(e:aM X (compareOp d) f)(k:QE X a ta)(l:QE X b tb)(i:QE X c tc)
 (j:lastMarks [op,d] [b,c]=false:=by with_unfolding_all rfl):QT X (.Compare a [op,d] [b,c] pos) (mB (oW r f ta tb tc)):=⟨GJ g e k.h l.h i.h j⟩
def fL(h:QE X e te)(a:∀whole,isTrue e X.env whole=(do let v <- whole;standAt e.pos;holding [v] (truthy v)):=by intro _;rfl):QT X e (mB te):=⟨GE h.h a⟩
def Ey(h:QE X e te)(a:∀whole,isTrue e X.env whole=(do let v <- whole;standAt e.pos;holding [v] (truthy v)):=by intro _;rfl):QT X e (rQ X.K te):=⟨GF h.h a⟩
def ag:QA X [] fX:=⟨yt⟩
def ab(c:QE X e te)(b:QA X es t)(a:dY e=false:=by rfl):QA X (e::es) (qN te t):=⟨yw c.h b.h a⟩
def rp{vs:List V}(h:pV es=some vs):QA X es (xh vs):=⟨yu h⟩
def bh(h:QA X es t):QE X (.List es pos) (yQ t):=⟨Hf h.h⟩
def bE{x1}(h:QA X es t):QE X (.Tuple es x1 pos) (yM t):=⟨Hb h.h⟩
def oG:QE X (.Dict [] [] pos) yS:=⟨Hh⟩
def cL:QO X none wX:=⟨Fl⟩
def bN(h:QE X e te):QO X (some e) (wU te):=⟨Fk h.h⟩
def cb{r:V->Option Int->Option Int->Hp->VK->Prop}{lo c:Option Expr}{b a:TO}(i:iJ X r)(f:QE X e te)(g:QO X lo b)(d:QO X c a):QE X (.Subscript e (.Slice lo c none p2) pos) (wS r te b a):=⟨FH i f.h g.h d.h⟩
def aA{r:R2}(e:fh X r)(f:QE X a ta)(d:QE X b tb)(c:AQ b):QE X (.Subscript a b pos) (fW r ta tb):=⟨FM e f.h d.h c⟩
section
variable {k j:Nat}{f:Addr}{fd:FuncData}{ps:List Str}{sp:Sp}{x:Str}
def bb(F:bo X.prog X.w X.K X.mg X.base x j f fd ps sp)(i:bj k X.A)(g:QA X (e::es) t)(d:j<=k:=by decide)(b:Gl X x:=by rfl)
 (a:(x == ("__debug__" : Str))=false:=by decide) (c:c9 (e::es)=true:=by rfl):QE X (.Call (.Name x p) (e::es) [] pos) (qO sp [] E0 t):=⟨LI F i g.h d b a c⟩
def bq{id:String}{r:List V->Hp->VK->Prop}(d:bV X (.builtin id) r)(i:X.mg x=none)(f:bootBuiltins x=some (.builtin id))(g:QA X (e::es) t)(b:Gl X x:=by rfl)(hx:x ≠ "__name__":=by decide)(a:(x == ("__debug__" : Str))=false:=by decide)
 (c:c9 (e::es)=true:=by rfl):QE X (.Call (.Name x p) (e::es) [] pos) (jN r t):=⟨LH d i f g.h b hx a c⟩
def cO{T:String}{r:List V->Hp->VK->Prop}(d:bV X (.type T) r)(i:X.mg x=none)(f:bootBuiltins x=some (.type T))(g:QA X (e::es) t)(b:Gl X x:=by rfl)(hx:x ≠ "__name__":=by decide)(a:(x == ("__debug__" : Str))=false:=by decide)
 (c:c9 (e::es)=true:=by rfl):QE X (.Call (.Name x p) (e::es) [] pos) (jN r t):=⟨LG d i f g.h b hx a c⟩
end
section
variable {name:Str}{apos cpos:Pos}{T id:String}{r:V->List V->Hp->VK->Prop}
def Ew (e:PlainAttrs T) (slot:Slot T name id) (c:typeOf (.builtin id)=pure (.type "method_descriptor")) (f:gK X id r) (d:QE X o to)
 (a:attributeBase o name X.env (eval o X.env)=eval o X.env:=by rfl) (b:(apos.endLine == cpos.line)=true:=by rfl):QE X (.Call (.Attribute o name apos) [] [] cpos) (qP X.K T r to):=⟨FZ e slot c f d.h a b⟩
theorem yG{env:Env}{pos:Pos}:∀ {es:List Expr},c9 es=true->(backTo pos (starEach es env)).all (λx=>!x.1)=true
 | [],_=>rfl
 | e::r,h=>by
  obtain⟨a,b⟩:=dU h;rw[dH a];show (!false && (backTo pos (starEach r env)).all (λx=>!x.1))=true;rw[yG b]
  rfl
def Ex (g:PlainAttrs T) (slot:Slot T name id) (d:typeOf (.builtin id)=pure (.type "method_descriptor")) (k:gK X id r) (f:QE X o to) (j:QA X (e::es) t)
 (a:attributeBase o name X.env (eval o X.env)=eval o X.env:=by rfl) (c:c9 (e::es)=true:=by rfl) (i:decide ((e::es).length+0+0<30)=true:=by rfl)
 (b:(apos.endLine == cpos.line)=true:=by rfl):QE X (.Call (.Attribute o name apos) (e::es) [] cpos) (qQ X.K T r to t) :=
 ⟨Ga g slot d k f.h j.h a (by rw[yG c];exact i) b (dH (dU c).1) (iB (dU c).2)⟩
end
section
variable {st:Stmt}{sts ss2:List Stmt}{s t1 u1:TS}{tg it:Expr}{g:TG}{gs:gG}{wi:TI}
def bi:fR X [] jM:=⟨E3⟩
def ao(a:QS X st t1)(b:fR X sts u1):fR X (st::sts) (nW t1 u1):=⟨E4 a.h b.h⟩
def ak(a:QS X st t1):fR X [st] t1:=⟨E2 a.h⟩
def mL:QS X st wY:=⟨E9⟩
def aE(a:QE X e te):QS X (.Return (some e) pos) (wT te):=⟨E8 a.h⟩
def cU(a:QE X e te)(b:swapsWith e none pos.line X.env=pure false:=by rfl):QS X (.Expr e pos) (xb te):=⟨Fd a.h b⟩
def be(b:QT X c tA)(a:fR X sts t1)(d:fR X ss2 u1):QS X (.If c sts ss2 pos) (iW tA t1 u1):=⟨Fa b.h a.h d.h⟩
def aF{i:Nat}{x:Str}{a:Pos}(hN:X.N.Nodup)(f:X.N[i]? = some x)(hx:gM X.env.scope x)(c:QE X e te)(d:swapsWith e (some (.Name x a)) pos.line X.env=pure false:=by rfl)(b:X.fn x=true\/X.env.scope.names.lookup x=some .local:=by first|exact .inl rfl|exact .inr rfl|assumption) :
 QS X (.Assign [.Name x a] e pos) (jO te (bT i)):=⟨E7 hN f hx c.h d b⟩
def Ej(a:QE X e te)(d:QG X tg g)(b:swapsWithSole [tg] e pos.line X.env=pure false:=by rfl)(hw:swappedStores [tg] e X.env=pure none:=by rfl)
 (c:(assignEach [tg] X.env).map (·.2)=[assign tg X.env]:=by rfl):QS X (.Assign [tg] e pos) (jO te g):=⟨Fg a.h d.h b hw c⟩
def aG{i:Nat}{x:Str}(hN:X.N.Nodup)(a:X.N[i]? = some x)(hx:gM X.env.scope x)(b:X.fn x=true\/X.env.scope.names.lookup x=some .local:=by first|exact .inl rfl|exact .inr rfl|assumption):QG X (.Name x pos) (bT i):=⟨FC hN a hx b⟩
def cM:nI X [] lX:=⟨Fz⟩
def bp(b:QG X e g)(c:nI X es gs)(a:(assignEach (e::es) X.env).map (·.2)=assign e X.env::(assignEach es X.env).map (·.2):=by rfl):nI X (e::es) (gC g gs):=⟨FA b.h c.h a⟩
def Eu{k n:Nat}(c:X.calm=true)(h:nI X es gs)(b:(assignEach es X.env).length=n:=by rfl)(a:(assignEach es X.env).findIdx? (·.1)=none:=by rfl):QG X (.Tuple es k pos) (jp X.K n gs):=⟨FB c h.h b a⟩
def Ep{l:Expr}{a:TE}(b:QE X l a):QI X tg l (sj X.K a):=⟨Fv b.h⟩
def Em{l:Expr}{a:TE}(b:QE X l a):QI X tg l (si X.K a):=⟨Fr b.h⟩
def gU (e:Gl X "range") (b:X.mg "range" = none) (c:QA X [a] t) (d:dY a=false:=by rfl):QI X tg (.Call (.Name "range" p) [a] [] pos) (zi t):=⟨Fu e b c.h (dH d)⟩
def bz{body:List Stmt}{a:TS}(e:PassesOwn (model X.prog X.w) X.A X.env X.xe)(c:X.calm=true)(i:QI X tg it wi)(b:QG X tg g)(f:fR X body a)
 (d:∀x,foldedSetIterable it X.env x=pure x:=by intro _;rfl):QS X (.For tg it body [] pos) (w9 wi g a):=⟨Fb e c i.h b.h f.h d⟩
def rn{body:List Stmt}{a:TS}(d:PassesOwn (model X.prog X.w) X.A X.env X.xe)(e:QT X c tA)(b:fR X body a):QS X (.While c body [] pos) (wP tA a):=⟨E5 d e.h b.h⟩
def fu:qA X [] ft:=⟨EU⟩
def oz(h:QT X c tA):qA X [c] tA:=⟨ET h.h⟩
def fA{scope:Scope}{Nc:List Str}{nv:Nat}{caps:List Nat}{a:List Expr}(c:X.calm=true)(S:cq X Nc nv caps scope)(j:QI X tg it wi)
 (b:∀C s H fp,QG (cu X Nc scope C s H fp) tg g) (i:∀C s H fp,qA (cu X Nc scope C s H fp) a tt) (d:∀C s H fp,QE (cu X Nc scope C s H fp) e te)
 (f:∀x,foldedSetIterable it X.env x=pure x:=by intro _;rfl):QE X (.ListComp e [⟨tg,it,a,0⟩] scope pos) (nX nv caps wi g tt te) :=
 ⟨FU c S j.h (λC s H fp=>(b C s H fp).h) (λC s H fp=>(i C s H fp).h) (λC s H fp=>(d C s H fp).h) f⟩
def oB{scope:Scope}{Nc:List Str}{nv:Nat}{caps:List Nat}{b:List Expr}{a d:Pos}{i:Nat}{y:Str}(hN:X.N.Nodup)(hy:X.N[i]? = some y)(hx:gM X.env.scope y)(j:X.calm=true)(S:cq X Nc nv caps scope)(o:QI X tg it wi)
 (f:∀C s H fp,QG (cu X Nc scope C s H fp) tg g) (n:∀C s H fp,qA (cu X Nc scope C s H fp) b tt) (l:∀C s H fp,QE (cu X Nc scope C s H fp) e te)
 (c:swapsWith (.ListComp e [⟨tg,it,b,0⟩] scope pos) (some (.Name y d)) a.line X.env=pure true:=by rfl)
 (m:∀x,foldedSetIterable it X.env x=pure x:=by intro _;rfl) (k:X.fn y=true\/X.env.scope.names.lookup y=some .local:=by first|exact .inl rfl|exact .inr rfl|assumption) :
 QS X (.Assign [.Name y d] (.ListComp e [⟨tg,it,b,0⟩] scope pos) a) (jO (nX nv caps wi g tt te) (bT i)) :=
 ⟨E6 hN hy hx j S o.h (λC s H fp=>(f C s H fp).h) (λC s H fp=>(n C s H fp).h) (λC s H fp=>(l C s H fp).h) c m k⟩
end
end
section
variable {X:Cx}{K:W.Frag}{a b c e o:Expr}{es rest:List Expr}{pos p p2:Pos}{ta tb tc te to:TE}{tA tB' tt:TT}{t tk:TA}
def aB(h:X.K=K):fh X (zL K):=by subst h;exact Ka
def cD(h:X.K=K):iJ X (zK K):=by subst h;exact J2
def dw(h:X.K=K):aM X (binaryOp .Add) (zP K):=by subst h;exact Kw
def cK(h:X.K=K)(a:X.A.units+64<cLine):aM X (compareOp .Eq) (gA K false):=by subst h;exact Kl a
def jn(h:X.K=K)(a:X.A.units+64<cLine):aM X (compareOp .NotEq) (gA K true):=by subst h;exact J8 a
def zF(h:X.K=K):aM X (compareOp .NotIn) (zN K true):=by subst h;exact J7
def bO (h:X.K=K):bV X (.builtin "len") (sG K):=by subst h;exact LP
def fD (h:X.K=K):bV X (.type "list") (sF K):=by subst h;exact LN
def jx (h:X.K=K):bV X (.type "tuple") (sy K):=by subst h;exact LJ
def qh (h:X.K=K) (a:X.calm=true):bV X (.builtin "all") (sK K false):=by subst h;exact LR a
def mf (h:X.K=K):bV X (.builtin "isinstance") (sI K):=by subst h;exact LQ
def yI (h:X.K=K):gK X "list.extend" (sJ K):=by subst h;exact G9
def gY(h:X.K=K)(q:QE X e te)(a:∀whole,isTrue e X.env whole=(do let v <- whole;standAt e.pos;holding [v] (truthy v)):=by intro _;rfl):QT X e (rQ K te):=by subst h;exact Ey q a
def cV{c l:Expr}{a:TE}(h:X.K=K)(b:QE X l a):QI X c l (sj K a):=by subst h;exact Ep b
def El{c l:Expr}{a:TE}(h:X.K=K)(b:QE X l a):QI X c l (si K a):=by subst h;exact Em b
def cN{k n:Nat}{b:gG}(h:X.K=K)(d:X.calm=true)(q:nI X es b)(c:(assignEach es X.env).length=n:=by rfl)(a:(assignEach es X.env).findIdx? (·.1)=none:=by rfl):QG X (.Tuple es k pos) (jp K n b):=by subst h;exact Eu d q c a
def dJ {name:Str} {b a:Pos} {T id:String} {r:V->List V->Hp->VK->Prop} (h:X.K=K) (j:PlainAttrs T) (slot:Slot T name id) (f:typeOf (.builtin id)=pure (.type "method_descriptor")) (m:gK X id r) (g:QE X o to) (l:QA X (e::es) t)
 (c:attributeBase o name X.env (eval o X.env)=eval o X.env:=by rfl) (i:c9 (e::es)=true:=by rfl) (k:decide ((e::es).length+0+0<30)=true:=by rfl)
 (d:(b.endLine == a.line)=true:=by rfl):QE X (.Call (.Attribute o name b) (e::es) [] a) (qQ K T r to t):=by subst h;exact Ex j slot f m g l c i k d
def Ev {name:Str} {b a:Pos} {T id:String} {r:V->List V->Hp->VK->Prop} (h:X.K=K) (g:PlainAttrs T) (slot:Slot T name id) (e:typeOf (.builtin id)=pure (.type "method_descriptor")) (i:gK X id r) (f:QE X o to)
 (c:attributeBase o name X.env (eval o X.env)=eval o X.env:=by rfl) (d:(b.endLine == a.line)=true:=by rfl):QE X (.Call (.Attribute o name b) [] [] a) (qP K T r to):=by subst h;exact Ew g slot e i f c d
end
def aQ.okQ{P:Program}{w:World}{K:W.Frag}{mg:Str->Option Value}{base:Heap}{x qual:Str}{st:Stmt}{f:Addr}{c:FuncData}{N ps:List Str}{k:Nat}{sp:Sp}(F:aQ K x qual st f c)(S:aL N ps (aj st))(len:∀vs H Q E,sp vs H Q E->vs.length=ps.length)
 (b:∀(a:Value) (A:Around) (outer:List Env) (s:Shared) (H:Hp) (vs:List V) (Q:VK) (E:XK),bj k (A.deeper (envOfC qual (aj st) s.heap.objs.size f a))->sp vs H Q E ->
   ∃t,fR (ib bQ P w K mg base N qual (aj st) f a A outer s H E).nox (aI st) t/\t { nx:=λ_ H'=>Q .non H',rt:=Q } (fK N vs) H):bD P w K mg base bQ (k+1) f c ps sp :=
 F.ok S len λa A outer s H vs Q E d h=>let ⟨t,q,r⟩:=b a A outer s H vs Q E d h;⟨t,q.h,r⟩
section
variable {X:Cx}{pins:List (Addr × Obj)}{σ:St}{H:Hp}{s:Shared}{h':Heap}
def ae.turnedL{t':Nat}{fp:List Addr}(I:ae X pins σ H s)(k:∀b o,b∉fp->s.heap.get? b=some o->h'.get? b=some o)(f:∀b∈fp,fj X pins H b):ae X pins σ H { s with heap:=h',toks:=t' }:=by
 have d:∀b u,H b=some u->b∉fp:=λb u e z=>by rw[(f b z).1]at e;cases e
 refine I.step (g':=s.gens) (d':=s.drawn) (ch:=fp) (λb p=>?_) (λb o _ _ a e _=>k b o a e) (λb o _ _ a e _=>⟨o.slots,k b o a e⟩) (λ_ _ _ _ n=>n) (λb o a e=>⟨o,k b o a e⟩) (λ_ _ e=>e) (λ_ _ _ e=>e) (λb ps e=>⟨#[],by rw[e];simp⟩) (λm l=>?_) (λb u e=>?_) I.bare
 ·obtain⟨B,g,y,i,j,x⟩:=f b p;exact⟨i,g,j,x⟩
 ·obtain⟨o,es,ep,h,r⟩:=l;exact⟨o,es,ep,k _ o (λz=>(f _ z).2.1 Z) h,r⟩
 ·refine (I.hok b u e).stay (λc v a q=>k c v ?_ q) (λ_ q=>q) λ_ _ q=>q;rcases a with z|z
  ·rw[z];exact d b u e
  ·exact d c _ z
def ae.turnedN{t':Nat}{fp:List Addr}{T:Addr}{d:HO}(I:ae X pins σ H s)(k:∀b o,b∉fp->s.heap.get? b=some o->h'.get? b=some o)(c:∀b∈fp,fj X pins H b)(hT:s.heap.objs.size<=T)
 (new:bd X.prog X.w (upd H T d) h' T d):ae X pins σ (upd H T d) { s with heap:=h',toks:=t' }:=by
 have i:ae X pins σ H { s with heap:=h',toks:=t' }:=I.turnedL k c;have f:H T=none:=I.hok.fresh hT;have ne:∀b u,H b=some u->b≠T:=λb u e z=>by rw[z,f]at e;cases e
 refine I.step (g':=s.gens) (d':=s.drawn) (ch:=fp) (λb q=>?_) (λb o _ _ a e _=>k b o a e) (λb o _ _ a e _=>⟨o.slots,k b o a e⟩) (λb o _ e n=>?_) (λb o a e=>⟨o,k b o a e⟩) (λb xs e=>by rw[am (ne b _ e)];exact e) (λb o u e=>by rw[am (ne b _ e)];exact e) (λb ps e=>⟨#[],by rw[am (ne b _ e),e];simp⟩) (λm p=>?_) (i.hok.adopt f new) I.bare
 ·obtain⟨y,g,x,j,l,v⟩:=c b q;exact⟨j,g,l,v⟩
 ·rw[am (λz=>Sd (OH (Oy e) (by rw[z];exact hT)) (O5 _))];exact n
 ·obtain⟨o,es,ep,h,r⟩:=p;exact⟨o,es,ep,k _ o (λz=>(c _ z).2.1 Z) h,r⟩
end
def jH(K:W.Frag)(a:Addr):It :=
 ⟨λi H=>∃xs x,aJ K H a xs/\xs[i]? = some x,λi H x H'=>∃p v,x=.ref p/\(∀xs,aJ K H a xs->xs[i]? = some v)/\aZ H p (.tup [.int (i:Int),v]) H',λi H=>∃xs,aJ K H a xs/\xs.length<=i⟩
def oO{P:Program}{w:World}{H:Hp}{h:Heap}{T:Addr}{b a:V}{c d:Value}(hT:h.IsTuple T #[c,d])(f:ax b c)(e:ax a d):bd P w (upd H T (.tup [b,a])) h T (.tup [b,a]):=by
 refine⟨sz Z,[c,d],.cons f (.cons e .nil),?_⟩;exact hT
def B1{P:Program}{w:World}{K:W.Frag}{es:List Expr}{kk:Nat}{pp:Pos}(a e it:Addr)(F:e≠it):d7 P w K (.Tuple es kk pp) (jH K a) [e,it] e (λi h=>(∃f,IsEnum h e it i f)/\h.IsListIter it a i) where
 mem:=by simp
 obj:=λi h st b g=>by
  obtain⟨⟨f,m⟩,o,e2,c,d⟩:=st;have n:b=e\/b=it:=by simpa using g
  rcases n with z|z
  ·subst z;exact⟨_,m,λv z=>by cases (show Data.fields _=Data.cell v from z)⟩
  ·subst z;exact⟨o,e2,λv z=>by rw[d]at z;cases z⟩
 keep:=λi h h' st k=>by
  obtain⟨⟨f,m⟩,r⟩:=st
  exact⟨⟨f,k e (by simp) _ m⟩,r.at λo x=>k it (by simp) o x⟩
 item:=by
  intro X hP hw hK V i l s σ H E I J st S;subst hP hw hK;obtain⟨⟨f,m⟩,r⟩:=st;obtain⟨xs,x,L,hx⟩:=S;obtain⟨M,N,p,hz⟩:=I.list L;obtain⟨u,hu,Y⟩:=N.get hx;have j:e<s.heap.objs.size:=Oy m;have C:it<s.heap.objs.size:=by obtain⟨_,z,_⟩:=r;exact Oy z
  refine wpAny_pyNext_enum_item m r p.isList (x:=u) (by simpa using hu) F λh' ho B hT hsz hk=>?_;refine⟨_,rfl,wpAny_letOwnedTupleGo_enum (s:={ s with heap:=h',toks:=s.toks+1 }) ho λD R q=>?_⟩;have hTe:s.heap.objs.size≠e:=PB j;have hT2:D.get? s.heap.objs.size=some { cls:=.type "tuple",data:=.seq #[.int i s.toks,u] }:=(q.2 _ hTe).trans hT;have I2:ae X l σ (upd H s.heap.objs.size (.tup [.int (i:Int),x])) { s with heap:=D,toks:=s.toks+1 }:=by
   refine I.turnedN (fp:=[e,it]) (λb o g U=>?_) J (Oo _) (oO ⟨_,hT2,Z,_,Z⟩ ⟨_,Z⟩ Y);have G:b≠e:=λz=>g (by simp[z]);have O:b≠it:=λz=>g (by simp[z]);exact (q.2 b G).trans (hk b o G O U)
  refine⟨.ref s.heap.objs.size,_,I2,rfl,⟨_,x,rfl,λys hy=>by rw[I.list_inj hy L];exact hx,.mk' I.fresh⟩,⟨⟨_,by simpa using R⟩,B.at λo y=>(q.2 it F.symm).trans y⟩,λb g=>?_⟩;have n:b=e\/b=it:=by simpa using g
  rw[am (by rcases n with z|z<;>(rw[z];first|exact OC j|exact OC C))];exact (J b g).1
 done:=by
  intro X hP hw hK V i l s σ H E I J st S;subst hP hw hK;obtain⟨⟨f,m⟩,r⟩:=st;obtain⟨xs,L,hx⟩:=S;obtain⟨M,N,p,hz⟩:=I.list L;have hl:=N.length;refine wpAny_pyNext_enum_end (I.ok.hd V) m r p.isList (by simp;omega) λh' eb=>⟨rfl,I.turnedL (t':=s.toks) (fp:=[e,it]) (λb o g U=>eb b o (λz=>g (by simp[z])) U) J⟩
 self:=λ_ _ _ _ _ st h=>wpAny_pyIter_enum st.1.choose_spec h
def zl(K:W.Frag)(c:TA):TI:=λσ H R=>c σ H λvs b=>∃a xs,vs=[.ref a]/\aJ K b a xs/\R (jH K a) b
section
variable {X:Cx}{tg:Expr}{es:List Expr}{kk:Nat}{pp:Pos}
def Fy {a:Expr} {j:TA} {p pos:Pos} (v:Gl X "enumerate") (G:X.mg "enumerate" = none) (o:PA X [a] j) (F:starEach [a] X.env=[(false,eval a X.env)]:=by rfl):PI X (.Tuple es kk pp) (.Call (.Name "enumerate" p) [a] [] pos) (zl X.K j):=by
 intro c s σ H R I h;refine Call_ (hJ I v G boot_enumerate (Qg (ap (o pos c s σ H _ I h) λus s1 ⟨vs,k,f,y,B⟩=>?_) F Z));obtain⟨l,xs,e,x,q⟩:=B;subst e;cases y with
 | cons r rr =>
  cases rr;cases r;obtain⟨n,J,pl,hz⟩:=f.list x;refine call_enumerate_list pl.isList λh' m g hsz D=>?_;refine wpAny_pyIter_enum (s:={ s1 with heap:=h' }) m ?_;have u:ae X c σ k { s1 with heap:=h' }:=f.kept (t':=s1.toks) D;refine⟨s1.heap.objs.size+1,[s1.heap.objs.size+1,s1.heap.objs.size],_,jH X.K l,k,Z,u,B1 l _ _ (Nat.succ_ne_self _),⟨⟨_,m⟩,g⟩,λb C=>?_,q⟩;have i:b=s1.heap.objs.size+1\/b=s1.heap.objs.size:=by simpa using C
  have d:s1.heap.objs.size<=b:=by
   rcases i with z|z
   ·rw[z];exact Pk _
   ·rw[z];exact Oo _
  exact f.fpOk d (f.hok.fresh d)
end
def wA(lo c:Int)(n:Nat):It:=⟨λi _=>i<n,λi H x H'=>H'=H/\x=.int (lo+i*c),λi _=>n<=i⟩
def BU{P:Program}{w:World}{K:W.Frag}{G:Expr}(it:Addr)(lo c:Int)(n:Nat):d7 P w K G (wA lo c n) [it] it (λi h=>IsRangeIter h it (lo+(i:Nat)*c) ((n:Int)-(i:Nat)) c) where
 mem:=by simp
 obj:=λi h st b d=>by
  have e:b=it:=by simpa using d
  subst e;exact⟨_,st,λv z=>by
   have D:Data.fields _=Data.cell v:=z;cases D⟩
 keep:=λi h h' st k=>k it (by simp) _ st
 item:=by
  intro X hP hw hK r i a s σ H E I g st p;subst hP hw hK;obtain⟨q,m,y,j,u,l⟩:=g it (by simp);have W:=Walks.range (prog:=X.prog) (w:=X.w) (I.ok.hd r) it lo c n;refine W.item i s _ _ p st λv h' x C f F=>?_;obtain⟨t,rfl⟩:=C;have B:ae X a σ H { s with heap:=h',toks:=x }:=I.turned (λb o d e=>F b o (by simpa using d) e) q m j u l;exact⟨_,rfl,hX (s:={ s with heap:=h',toks:=x }) (n := "range_iterator") f rfl rfl (by decide) ⟨.int (lo+i*c),H,B,⟨t,rfl⟩,⟨rfl,rfl⟩,f,λb d=>(g b d).1⟩⟩
 done:=by
  intro X hP hw hK r i a s σ H E I g st p;subst hP hw hK;obtain⟨q,m,y,j,u,l⟩:=g it (by simp);exact wpAny_pyNext_range_end (I.ok.hd r) st (by have:n<=i:=p;omega) λh' J=>⟨rfl,I.turned (t':=s.toks) (λb o d e=>J b o d e) q m j u l⟩
 self:=λ_ _ _ _ _ st h=>wpAny_pyIter_rangeiter st h
def zg(a:TA):TI:=λσ H R=>a σ H λvs b=>∃(n c:Nat),vs=[.int 0,.int (n:Int),.int (c:Int)]/\n<=1000000000/\0<c/\c<=1000000/\R (wA 0 (c:Int) ((n+(c-1))/c)) b
def Dd{n c:Nat}(f:n<=1000000000)(d:0<c)(g:c<=1000000):Builtin.Range.rangeSize 0 (n:Int) (c:Int)=(((n+(c-1))/c:Nat):Int)/\Builtin.Range.small 0 (n:Int) (c:Int)=true:=by
 have e:Builtin.Range.rangeSize 0 (n:Int) (c:Int)=(((n+(c-1))/c:Nat):Int):=by
  rw[rangeSize_pos (by omega) (by omega)];rw[Int.natCast_ediv]
  congr 1
  omega
 refine⟨e,?_⟩;have b:(n+(c-1))/c<=n+(c-1):=Nat.div_le_self _ _;have a:(((n+(c-1))/c:Nat):Int)*(c:Int)<=n+(c-1):=by
  have:=Nat.div_mul_le_self (n+(c-1)) c;rw[<- Int.natCast_mul];omega
 unfold Builtin.Range.small;rw[e];generalize (n+(c-1))/c=k at b a ⊢;simp only [Builtin.Range.rangeFitsLong,Pc,Bool.or_eq_true,decide_eq_true_eq,beq_iff_eq];refine⟨by omega,Or.inr ?_⟩;rw[Sc (by omega)];simp only [Pc,decide_eq_true_eq];omega
section
variable {X:Cx}{tg:Expr}
def Fs {a b d:Expr} {l:TA} {p pos:Pos} (x:Gl X "range") (D:X.mg "range" = none) (C:PA X [a,b,d] l) (z:starEach [a,b,d] X.env=(false,eval a X.env)::starEach [b,d] X.env:=by rfl) (i:(backTo pos (starEach [b,d] X.env)).any (·.1)=false:=by rfl) :
 PI X tg (.Call (.Name "range" p) [a,b,d] [] pos) (zg l):=by
 intro f s σ H R I h;refine Call_ (hJ I x D boot_range (Qg (ap (C pos f s σ H _ I h) λus s1 ⟨vs,m,v,F,k⟩=>?_) z i));obtain⟨n,c,e,k,u,J,q⟩:=k;subst e;cases F with
 | cons r rr =>
  cases rr with
  | cons r' rr =>
   cases rr with
   | cons r'' rr =>
    cases rr;obtain⟨t,rfl⟩:=r;obtain⟨t',rfl⟩:=r';obtain⟨j,rfl⟩:=r'';obtain⟨e,sm⟩:=Dd k u J;refine call_range_3 (by omega) ?_ (Or.inl (Rv (by omega)));refine wpAny_pyIter_range (IsRange.new ..) sm ?_;have g:ae X f σ m { s1 with heap:=s1.heap.push { cls:=.type "range",data:=.fields #[.int 0 t,.int n t',.int c j] },toks:=s1.toks }:=v.kept λb o e=>Ow _ e;refine⟨_,[_],_,_,m,Z,g.kept (t':=s1.toks) λb o e=>Ow _ e,BU _ 0 (c:Int) ((n+(c-1))/c),?_,λb G=>?_,q⟩
    ·show IsRangeIter _ _ (0+((0:Nat):Int)*_) ((((n+(c-1))/c:Nat):Int)-((0:Nat):Int)) _;have B:(0:Int)+((0:Nat):Int)*(c:Int)=0:=by simp
     have y:((((n+(c-1))/c:Nat):Int)-((0:Nat):Int))=Builtin.Range.rangeSize 0 (n:Int) (c:Int):=by rw[e];simp
     rw[B,y];exact OB _ Z
    ·have e:=Op.mp G;subst e;exact g.fpOk (Oo _) (g.hok.fresh (Oo _))
def lY{K:W.Frag}{a:Addr}{xs:List V}{g:TG}{tb:TS}{D:dG}{σ:St}{H:Hp}(b:Nat->St->Hp->Prop)(h:b 0 σ H)(n:∀i σ H,i<=xs.length->b i σ H->aJ K H a xs)
 (l:∀i x p σ H H',xs[i]? = some x->b i σ H->aZ H p (.tup [.int (i:Int),x]) H'->g (.ref p) σ H' λf c=>tb { D with nx:=b (i+1),ct:=b (i+1),bk:=D.nx } f c) (hd:∀σ H,b xs.length σ H->D.nx σ H) :
 ∃W:Nat->Nat->St->Hp->Prop,(∃m,W 0 m σ H)/\∀i m σ H,W i m σ H ->
  ((jH K a).stop i H/\D.nx σ H)\/((jH K a).go i H/\∃N:St->Hp->Prop,(∀d H',N d H'->∃m',m'<m/\W (i+1) m' d H')/\∀x H',(jH K a).yld i H x H'->g x σ H' λf c=>tb { D with nx:=N,ct:=N,bk:=D.nx } f c):=by
 refine⟨λi m σ H=>m=xs.length-i/\i<=xs.length/\b i σ H,⟨xs.length,by simp,Ox _,h⟩,?_⟩;rintro i m σ H ⟨rfl,o,p⟩;have q:=n i σ H o p;by_cases hlt:i<xs.length
 ·refine .inr ⟨⟨xs,xs[i],q,by simp[hlt]⟩,b (i+1),λd H' j=>⟨xs.length-(i+1),by omega,rfl,hlt,j⟩,λx H' y=>?_⟩;obtain⟨pp,v,rfl,y,k⟩:=y;exact l i v pp σ H H' (y xs q) p k
 ·have e:i=xs.length:=by omega
  subst e;exact .inl ⟨⟨xs,q,Oo _⟩,hd σ H p⟩
end
def sE(K:W.Frag):List V->Hp->VK->Prop:=λxs H Q=>match xs with
 | [.ref p]=>∃ns:List Int,aJ K H p (ns.map V.int)/\Q (.int ns.sum) H
 | _=>False
theorem yg(ns:List Int):∀k,k<=ns.length->preSum (λi=>(ns[i]?).getD 0) k=(ns.take k).sum
 | 0,_=>by simp[preSum]
 | k+1,h=>by
  have a:k<ns.length:=by omega
  rw[preSum,yg ns k (by omega),<- List.take_append_getElem a,List.sum_append];simp[OF a]
def LL {X:Cx} (B:X.calm=true):bV X (.builtin "sum") (sE X.K):=by
 intro j s σ H xs us Q I r q;unfold sE at q
 split at q
 ·rename_i p;obtain⟨ns,C,q⟩:=q;obtain⟨u,rfl,F⟩:=jJ r;cases F;obtain⟨a,m,pl,_⟩:=I.list C;have l:=m.length;rw[On]at l;have c:p<s.heap.objs.size:=by
   obtain⟨o,n,e,_⟩:=pl;exact Oy e
  have f:p≠s.heap.objs.size:=OC c;refine call_sum_walkG (wpAny_pyIter_list pl.isList ⟨s.heap.objs.size,_,_,_,_,_,λi=>(ns[i]?).getD 0,rfl,Walks.list (A:=X.A.in1) (show X.A.in1.handled=none from I.ok.hd B) s.heap.objs.size p f a.toArray,⟨⟨_,OB _ rfl,rfl,rfl⟩,?_⟩,λb d=>?_,λi v g=>?_,λh' G t' k=>?_⟩)
  ·exact pl.isList.at λo e=>Ow _ e
  ·have h:b=s.heap.objs.size\/b=p:=by simpa using d
   show b<(s.heap.push _).objs.size;rw[Pp];rcases h with z|z
   ·rw[z];exact Pb _
   ·rw[z];exact PF c
  ·have L:i<a.length:=by
    have:=(RE.mp g).1;simpa using this
   have d:i<ns.length:=by omega
   obtain⟨u,y,D⟩:=m.get (i:=i) (x:=V.int ns[i]) (by simp[d]);have e:a.toArray[i]? = some u:=by simpa using y
   rw[e]at g;cases g;obtain⟨t,rfl⟩:=D;exact⟨t,by simp[d]⟩
  ·refine⟨.int ns.sum,H,I.kept (h':=h') (t':=G) λb o e=>k b o (λz=>?_) (Ow _ e),⟨t',?_⟩,q⟩
   ·have J:b=s.heap.objs.size:=by simpa using z
    exact Sd (Oy e) (by rw[J];exact O5 _)
   ·rw[OE,<- l,yg ns _ (Oo _),OK]
 ·exact q.elim
def Lw{K:W.Frag}{a:Addr}{xs:List V}{cs:St}{u:TT}{s:TE}{H:Hp}{Q:VK}(f:Nat->List V->Hp->Prop)(B:f 0 [] H)(F:∀i d H,i<=xs.length->f i d H->aJ K H a xs/\d.length<=i)(hz:xs.length<=sizeLine)
 (D:∀i x d H H' (N:List V->Hp->Prop),xs[i]? = some x->f i d H->af H H'->(∀c H',f (i+1) c H'->N c H')->u (some (.int (i:Int))::some x::cs) H' λb n=>if b=true then s (some (.int (i:Int))::some x::cs) n λy C=>N (d++[y]) C else N d n)
 (hd:∀d H p H',f xs.length d H->aZ H p (.lst d) H'->Q (.ref p) H') :
 fU (jH K a) H (List.replicate 2 none++cs) (jp K 2 (gC (bT 0) (gC (bT 1) lX))) u s Q:=by
 refine⟨λi m d σ H=>m=xs.length-i/\i<=xs.length/\f i d H/\∃h j,σ=h::j::cs,⟨xs.length,by simp,Ox _,B,none,none,rfl⟩,?_⟩;rintro i m d σ l ⟨rfl,G,p,h,j,rfl⟩;obtain⟨q,I⟩:=F i d l G p;by_cases hlt:i<xs.length
 ·refine .inr ⟨⟨xs,xs[i],q,by simp[hlt]⟩,by omega,λc o H'=>f (i+1) c H'/\∃h j,o=h::j::cs,λc o H' ⟨k,e⟩=>⟨xs.length-(i+1),by omega,rfl,hlt,k,e⟩,λx H' y=>?_⟩;obtain⟨pp,v,rfl,y,r⟩:=y;refine⟨pp,_,Z,r.tup,Z,_,_,Z,_,_,Z,Z,?_⟩;exact D i v d l H' (λc H'=>f (i+1) c H'/\∃h j,some (V.int (i:Int))::some v::cs=h::j::cs) (y xs q) p r.sm λ_ _ z=>⟨z,_,_,Z⟩
 ·have e:i=xs.length:=by omega
  subst e;exact .inl ⟨⟨xs,q,Oo _⟩,by omega,λk H' g=>hd d l k H' p g⟩
section
variable {X:Cx}{K:W.Frag}{a b c e o:Expr}{es rest:List Expr}{pos p p2 pos2:Pos}{t:TA}{kk:Nat}
def LK (h:X.K=K) (a:X.calm=true):bV X (.builtin "sum") (sE K):=by subst h;exact LL a
def jd (h:X.K=K) (e:Gl X "enumerate") (d:X.mg "enumerate" = none) (c:QA X [a] t) (b:dY a=false:=by rfl):QI X (.Tuple es kk p2) (.Call (.Name "enumerate" p) [a] [] pos) (zl K t):=by subst h;exact⟨Fy e d c.h (dH b)⟩
def Eo {f:Expr} (g:Gl X "range") (k:X.mg "range" = none) (j:QA X [a,b,c] t) (i:dY a=false:=by rfl) (d:dY b=false:=by rfl) (e:dY c=false:=by rfl):QI X f (.Call (.Name "range" p) [a,b,c] [] pos) (zg t) :=
 ⟨Fs g k j.h (dH i) (by rw[dH d,dH e];rfl)⟩
end
def iD:List Int->List Value->Bool
 | [],[]=>true
 | n::r,.int m _::u=>n == m && iD r u
 | _,_=>false
theorem iD.vals:∀ {ns:List Int} {us:List Value},iD ns us=true->ay (ns.map V.int) us
 | [],[],_=>.nil
 | n::r,.int m _::u,h=>by
  have h':(n == m && iD r u)=true:=h;rw[Pc,beq_iff_eq]at h';obtain⟨rfl,a⟩:=h';exact .cons ⟨_,Z⟩ (iD.vals a)
def B7 {K:W.Frag} {a:Addr} {c:Option Addr} {b:Array Value} {n:Nat} {e:Array (Option Value)} {ns:List Int} (h:K.lookup a=some ⟨.type "tuple",c,.seq b n,e⟩) (d:iD ns b.toList=true) (hz:b.size<=1000:=by decide) (H:Hp):bJ K H a (ns.map V.int) :=
 .inr ⟨_,b,n,h,rfl,rfl,sz (Nat.ble_eq_true_of_le hz),iD.vals d⟩
def aZ.after{H a b:Hp}{p:Addr}{o:HO}(s:af H a)(g:aZ a p o b):aZ H p o b:=⟨s.free g.nw,s.trans g.sm,g.at_⟩
def nU{α:Type}{a:List α}{i:Nat}{y:α}(h:a[i]? = some y):a.take (i+1)=a.take i++[y]:=by rw[OU,h];rfl
def JB{α β:Type}{xs:List α}{a:List β}{i:Nat}{x:α}(b:a.length=xs.length)(h:xs[i]? = some x):∃y,a[i]? = some y:=by
 have:=(Ou.mp h).1;exact⟨a[i]'(by omega),by simp⟩
def pX{K:W.Frag}{a:Addr}{xs:List V}{cs:St}{e:TE}{H:Hp}{Q:VK}(c:List V)(f:c.length=xs.length)(j:aJ K H a xs)(hz:xs.length<=sizeLine)
 (h:∀(i:Nat) x y H' (N:VK),xs[i]? = some x->c[i]? = some y->af H H'->(∀b,af H' b->N y b)->e (some x::cs) H' N) (hd:∀p H',aZ H p (.lst c) H'->Q (.ref p) H') :
 fU (jG K a) H (List.replicate 1 none++cs) (bT 0) ft e Q:=by
 refine Aq (λi d H'=>af H H'/\d=c.take i) ⟨af.refl _,rfl⟩ (λi d H' l z=>⟨z.1.seq j,by rw[z.2,OG];omega⟩) hz (λi x d H' N hx z hN=>?_) λd H' p b z g=>?_
 ·obtain⟨s,rfl⟩:=z;obtain⟨y,hy⟩:=JB f hx;simp only [ft,if_true];exact h i x y H' _ hx hy s λb k=>hN _ _ ⟨s.trans k,by rw[nU hy]⟩
 ·obtain⟨s,rfl⟩:=z;rw[<- f,OK]at g;exact hd p b (g.after s)
def iC{ns:List Int}{i:Nat}{x:V}(h:(ns.map V.int)[i]? = some x):∃p,ns[i]? = some p/\x=.int p:=by
 rw[Ov]at h;cases e:ns[i]? with
 | none=>rw[e]at h;cases h
 | some p=>rw[e]at h;cases h;exact⟨p,Z,Z⟩
def Lm{α:Type}{xs:List α}{lo a:Option Int}{x:α}(h:x∈fP xs lo a):x∈xs:=Q8 (Pj h)
def fY{t u:TS}{D:dG}{σ:St}{H:Hp}(M:St->Hp->Prop)(b:∀nx:St->Hp->Prop,(∀σ' H',M σ' H'->nx σ' H')->t { D with nx:=nx } σ H)(a:∀σ' H',M σ' H'->u D σ' H'):nW t u D σ H:=b (u D) a
structure fi (P:Program) (w:World) (K:W.Frag) (mg:Str->Option Value) (base:Heap) (C:Addr) (m:Str) (k:Nat) (f:Addr) (fd:FuncData) (ps:List Str) (sp:Sp):Prop where
 c:dO K C
 mt:bU K C m f
 b:az K fd ps []
 ok:bD P w K mg base bQ k f fd ps sp
structure N6 (P:Program) (w:World) (K:W.Frag) (mg:Str->Option Value) (base:Heap) (x:Str) (C:Addr) (k:Nat) (f:Addr) (fd:FuncData) (ps:List Str) (sp:Sp):Prop where
 g:mg x=some (.ref C)
 mkx:Mk K C f
 b:az K fd ps []
 ok:bD P w K mg base bQ k f fd ps sp
section
variable {X:Cx}{K:W.Frag}{k j:Nat}{f C:Addr}{fd:FuncData}{ps:List Str}{sp:Sp}{x m:Str}{p pos apos pos':Pos}{e o value:Expr}{es:List Expr}{ta tv:TE}{t:TA}
def oN{X:Cx}:iM bQ X E0:=λ_ _ _ _ _ _ _ z=>z.elim
def lj{pl:Sem Bool}(F:fi X.prog X.w X.K X.mg X.base C m j f fd ps sp)(n:bj k X.A)(d:QE X o ta)(i:QA X (e::es) t)(g:j<=k:=by decide)(a:c9 (e::es)=true:=by rfl)
 (l:eval (.Call (.Attribute o m apos) (e::es) [] pos) X.env=(do
   let ov <- eval o X.env
   standAt apos.atName
   let (f,first) <- holding [ov] (getMethod ov m pl)
   callWith pos f first (backTo pos (starEach (e::es) X.env)) (backToKw pos (keywordEach [] X.env))):=by rfl) :
 QE X (.Call (.Attribute o m apos) (e::es) [] pos) (eh C m sp [] E0 ta t) :=
 ⟨yo (pl:=pl) d.h F.c F.mt F.ok (n.mono g) F.b .nil oN i.h (dH (dU a).1) (iB (dU a).2) l⟩
def jg{pl:Sem Bool}(F:fi X.prog X.w X.K X.mg X.base C m j f fd ps sp)(g:bj k X.A)(d:QE X o ta)(e:j<=k:=by decide)
 (a:eval (.Call (.Attribute o m apos) [] [] pos) X.env=(do
   let ov <- eval o X.env
   standAt apos.atName
   let (f,first) <- holding [ov] (getMethod ov m pl)
   callWith pos f first (backTo pos (starEach [] X.env)) (backToKw pos (keywordEach [] X.env))):=by rfl) :
 QE X (.Call (.Attribute o m apos) [] [] pos) (eh C m sp [] E0 ta fX) :=
 ⟨FK (pl:=pl) d.h F.c F.mt F.ok (g.mono e) F.b .nil oN a⟩
def cW{f:Str}(h:X.K=K)(a:QE X e ta)(b:attributeBase e f X.env (eval e X.env)=eval e X.env:=by rfl):QE X (.Attribute e f pos) (xa K ta f):=by subst h;exact⟨FO a.h b⟩
def li{f:Str}(h:X.K=K)(c:QE X o ta)(b:QE X value tv)(a:swapsWith value (some (.Attribute o f pos')) pos.line X.env=pure false:=by rfl):QS X (.Assign [.Attribute o f pos'] value pos) (xH K ta tv f):=by subst h;exact⟨Fc c.h b.h a⟩
end
structure wy (K:W.Frag) (C:Addr):Prop where
 makes:W.makesIn K C=true
 init:W.findIn K (.ref C) "__init__" = some (some (.builtin "object.__init__"))
 kp:W.keepIn K (.ref C)=true
def wZ(C:Addr):TE:=λ_ H Q=>∀x dx,H x=none->H dx=none->dx≠x->Q (.ref x) (upd (upd H dx (.own x)) x (.ins C dx []))
section
variable {X:Cx}{C:Addr}{x:Str}{p pos:Pos}
def DW{c:List (Addr × Obj)}{σ:St}{H:Hp}{s:Shared}{Q:VK}(M:wy X.K C)(I:ae X c σ H s)(h:wZ C σ H Q) :
 wpAny (model X.prog X.w) X.A (call (.ref C) []) (EP X c σ Q) X.xe s:=by
 have l:=h (s.heap.objs.size+1) s.heap.objs.size (I.hok.fresh (Pk _)) (I.hok.fresh (Oo _)) (OC (Pb _));have f:=ae.made (C:=C) I;have Y:=W.makes_of (M:=model X.prog X.w) I.kIn M.makes;refine wpAny_call (Hr I.kIn M.makes M.init (λself=>W.Looks.of_pure (W.oi_bind self)) ?_);obtain⟨a,g,d,t,os⟩:=s;have k:((a.push W.emptyDict).push (W.instObj C a.objs.size)).get? (a.objs.size+1)=some (W.instObj C a.objs.size):=by
  have:=OB (a.push W.emptyDict) (o:=W.instObj C a.objs.size) rfl
  rwa [Pp]at this
 have j:W.Looks (model X.prog X.w) ((a.push W.emptyDict).push (W.instObj C a.objs.size)) (typeOf (.ref (a.objs.size+1))) (.ref C):=(W.Looks.ld k).andThen .now;have i:W.Looks (model X.prog X.w) ((a.push W.emptyDict).push (W.instObj C a.objs.size)) (isInstance (.ref (a.objs.size+1)) (.type "object")) true :=
  j.andThen (Y.top.keeps λb o e=>Ow _ (Ow _ e))
 refine codeAny_call_builtin W.oi_plain W.entry_oi (@W.check_slot (model X.prog X.w) _ _ _ "object.__init__" "object" "__init__" (.ref (a.objs.size+1)) [] [] _ W.oi_kind W.oi_split i (W.oi_args (.ref (a.objs.size+1))) ?_);rw[W.oi_run];exact Sa (And.intro Z ⟨V.ref (a.objs.size+1),_,f,Z,l⟩)
def EA(M:wy X.K C)(c:X.mg x=some (.ref C))(d:Gl X x:=by rfl)(a:(x == ("__debug__" : Str))=false:=by decide):QE X (.Call (.Name x p) [] [] pos) (wZ C):=⟨by
 intro b s σ H Q I h;refine wpAny_Call_Name_kw (o6 I d c ?_ a);exact W.callWith_K0 I.kIn M.kp (DW M I h)⟩
end
structure fI (K:W.Frag) (x qual:Str) (st:Stmt) (f:Addr) (fd:FuncData) (vs:List Value):Prop where
 ex:∃(oc:Value) (od:Option Addr) (kV doc pm:Value) (an:Option Addr) (cdv ct:Value) (osl:Array (Option Value)) (d:Addr) (dc:Value) (dd:Option Addr) (n:Nat) (dsl:Array (Option Value)),
  fd=W.fnOf x qual (aK st) (aI st) (aj st) (.ref d) kV doc pm an cdv ct/\K.lookup f=some ⟨oc,od,.func fd,osl⟩/\W.codeIn K cdv qual=true/\K.lookup d=some ⟨dc,dd,.seq vs.toArray n,dsl⟩
 kp:W.keepIn K (.ref f)=true
section
variable {P:Program}{w:World}{K:W.Frag}{mg:Str->Option Value}{base:Heap}{x qual:Str}{st:Stmt}{f:Addr}{fd:FuncData}{N ps:List Str}{k:Nat}{sp:Sp}{vs:List Value}
def fI.okQ(F:fI K x qual st f fd vs)(S:aL N ps (aj st))(len:∀vs H Q E,sp vs H Q E->vs.length=ps.length)
 (b:∀(a:Value) (A:Around) (outer:List Env) (s:Shared) (H:Hp) (vs:List V) (Q:VK) (E:XK),bj k (A.deeper (envOfC qual (aj st) s.heap.objs.size f a))->sp vs H Q E ->
   ∃t,fR (ib bQ P w K mg base N qual (aj st) f a A outer s H E).nox (aI st) t/\t { nx:=λ_ H'=>Q .non H',rt:=Q } (fK N vs) H):bD P w K mg base bQ (k+1) f fd ps sp:=by
 obtain⟨u,p,kV,j,v,y,a,ct,m,d,r,o,n,g,rfl,i,e,_⟩:=F.ex;refine sL i e S len λA outer s H vs Q E l c=>?_;obtain⟨t,h,q⟩:=b a A outer s H vs Q E l c;exact⟨t,h.h.nox,q⟩
def jq{p m:Value}{o i j:Option Addr}{g e:Array (Option Value)}{kV b h a ct:Value}{d:Addr}{n:Nat}(l:K.lookup f=some ⟨p,o,.func (W.fnOf x qual (aK st) (aI st) (aj st) (.ref d) kV b h i a ct),g⟩)
 (c:W.codeIn K a qual=true) (k:W.keepIn K (.ref f)=true) (ld:K.lookup d=some ⟨m,j,.seq vs.toArray n,e⟩):fI K x qual st f (W.fnOf x qual (aK st) (aI st) (aj st) (.ref d) kV b h i a ct) vs :=
 ⟨⟨p,o,kV,b,h,i,a,ct,g,d,m,j,n,e,rfl,l,c,ld⟩,k⟩
def fI.binds{ds:List Value}(F:fI K x qual st f fd vs)
 (h:∀(d:Addr) (kV a e:Value) (c:Option Addr) (b ct:Value) (us:List Value),(us++ds).length=ps.length->∃g:Option (Array Value)->Sem (List (Str × Value)),
   bindArgs (W.fnOf x qual (aK st) (aI st) (aj st) (.ref d) kV a e c b ct) ⟨us,[]⟩=seqItems? (.ref d) >>= g/\g (some vs.toArray)=pure (ps.zip (us++ds))):az K fd ps ds:=by
 obtain⟨y,u,kV,a,e,c,b,ct,p,d,r,q,n,i,rfl,v,l,ld⟩:=F.ex;intro s us k o;obtain⟨g,m,j⟩:=h d kV a e c b ct us o;exact BindsTo.of_defaults (T:=d) Z (k _ _ ld) Z m j
end
structure gN (P:Program) (w:World) (K:W.Frag) (mg:Str->Option Value) (base:Heap) (C:Addr) (m:Str) (k:Nat) (f:Addr) (fd:FuncData) (ps:List Str) (dvs:List V) (sp:Sp):Prop where
 c:dO K C
 mt:bU K C m f
 b:∃ds,az K fd ps ds/\ay dvs ds
 ok:bD P w K mg base bQ k f fd ps sp
section
variable {X:Cx}{k j:Nat}{f C:Addr}{fd:FuncData}{ps:List Str}{sp:Sp}{m:Str}{pos apos:Pos}{e o:Expr}{es:List Expr}{ta:TE}{t:TA}{dvs:List V}
def gk{pl:Sem Bool}(F:gN X.prog X.w X.K X.mg X.base C m j f fd ps dvs sp)(p:bj k X.A)(d:QE X o ta)(l:QA X (e::es) t)(i:j<=k:=by decide)(a:c9 (e::es)=true:=by rfl)
 (n:eval (.Call (.Attribute o m apos) (e::es) [] pos) X.env=(do
   let ov <- eval o X.env
   standAt apos.atName
   let (f,first) <- holding [ov] (getMethod ov m pl)
   callWith pos f first (backTo pos (starEach (e::es) X.env)) (backToKw pos (keywordEach [] X.env))):=by rfl) :
 QE X (.Call (.Attribute o m apos) (e::es) [] pos) (eh C m sp dvs E0 ta t):=by
 obtain⟨ds,g,hd⟩:=F.b;exact⟨yo (pl:=pl) d.h F.c F.mt F.ok (p.mono i) g hd oN l.h (dH (dU a).1) (iB (dU a).2) n⟩
end
def vI:Value->Option Int
 | .int k _=>some k
 | _=>none
def vR:Value->Option Addr
 | .ref a=>some a
 | _=>none
def dictOf:List DictEntry->Option (List (Int × Addr))
 | []=>some []
 | e::r=>(vI e.key).bind λk=>(vR e.val).bind λa=>if e.hash == hashInt k then (dictOf r).bind λl=>some ((k,a)::l) else none
structure Oc (K:W.Frag) (a:Addr) (m:List (Int × Addr)):Prop where
 ex:∃es ep,K.lookup a=some ⟨.type "dict",none,.dict es ep,#[]⟩/\dictOf es.toList=some m
 nd:(m.map (·.1)).Nodup
 ns:(a == sysModules)=false
structure nB (h:Heap) (e C:Addr) (od:Option Addr) (tb:Value) (oe:Obj) (vs:Array Value) (q:Bool:=false):Prop where
 at_:h.get? e=some oe
 cls:oe.cls=.ref C
 dict:oe.dict=od
 data:oe.data=.fields vs
 size:vs.size=6
 tb1:vs[1]? = some tb
 cx:q=false->vs[2]? = some .none
def wq(h:Heap)(e T:Addr)(a:Value):Prop:=∃oT ts,h.get? T=some oT/\oT.data=.fields ts/\ts[3]? = some a/\T≠e
section
variable {M:Model}{A:Around}{E:Value->Shared->Prop}{s:Shared}
structure N0 (l:List Env) (e C T':Addr) (od:Option Addr) (tb fl:Value) (h h':Heap) (q:Bool:=false):Prop where
 keep:∀b o,h.get? b=some o->b≠e->.ref b≠tb->b∉dg l->h'.get? b=some o
 slot:∀b o,h.get? b=some o->b∈dg l->∃sl,h'.get? b=some { o with slots:=sl }
 there:∀b o,h.get? b=some o->∃o',h'.get? b=some o'
 new:h.objs.size<=T'
 size:h.objs.size<=h'.objs.size
 exc:∃oe vs,nB h' e C od (.ref T') oe vs q
 ent:wq h' e T' fl
def Nj(h:Heap)(e:Addr)(tb:Value):Prop:=tb=.none\/∃T,tb=.ref T/\wq h e T .none
end
def xφ(e C:Addr)(a:Option Addr)(q:Bool):Heap->Prop:=λh=>∃tb oe vs,nB h e C a tb oe vs q
def xν(e C:Addr)(a:Option Addr):Heap->Prop:=λh=>∃oe vs,nB h e C a .none oe vs
def XO(e C:Addr)(a:Option Addr)(q:Bool:=false):HO:=.ext (xφ e C a q)
def XN(e C:Addr)(a:Option Addr):HO:=.ext (xν e C a)
def wG(P:Program)(w:World):eQ:=λouter H s E v a=>∃(e C T:Addr) (b:Option Addr) (q:Bool) (H':Hp) (c:Obj) (vs:Array Value),v=.ref e/\a.os=s.os/\AllBare a.gens /\
 Un (dg outer) [] H H' s.heap a.heap/\bn P w H' a.heap/\H' e=some (XO e C b q)/\s.heap.get? e=none/\s.heap.objs.size<=T/\s.heap.objs.size<=a.heap.objs.size/\H' T=none /\
 nB a.heap e C b (.ref T) c vs q/\wq a.heap e T .none/\E (.ref C) (some e) H'
def No(X:Cx)(a:List (Addr × Obj))(Es:St->XK)(v:Value)(b:Shared):Prop:=∃(σ:St) (H':Hp) (e C:Addr) (c:Option Addr) (q:Bool) (tb:Value) (d:Obj) (vs:Array Value),v=.ref e/\ae X a σ H' b /\
 H' e=some (XO e C c q)/\nB b.heap e C c tb d vs q/\Nj b.heap e tb/\(∀T,tb=.ref T->H' T=none/\X.s₀.heap.objs.size<=T/\∀p∈X.pn++a,p.1≠T)/\(X.ex=[]->X.s₀.heap.get? e=none)/\Es σ (.ref C) (some e) H'
structure N1 (X:Cx) (Es:St->XK):Prop where
 up:∀pins v s',No X pins Es v s'->X.xe v s'
structure N3 (P:Program) (w:World) (K:W.Frag) (mg:Str->Option Value) (base:Heap) (x:Str) (k:Nat) (f:Addr) (fd:FuncData) (ps:List Str) (dvs:List V) (sp:Sp):Prop where
 g:mg x=some (.ref f)
 kp:W.keepIn K (.ref f)=true
 b:∃ds,az K fd ps ds/\ay dvs ds
 ok:bD P w K mg base (wG P w) k f fd ps sp
structure N4 (P:Program) (w:World) (K:W.Frag) (mg:Str->Option Value) (base:Heap) (C:Addr) (m:Str) (k:Nat) (f:Addr) (fd:FuncData) (ps:List Str) (dvs:List V) (sp:Sp):Prop where
 c:dO K C
 mt:bU K C m f
 b:∃ds,az K fd ps ds/\ay dvs ds
 ok:bD P w K mg base (wG P w) k f fd ps sp
structure N5 (P:Program) (w:World) (K:W.Frag) (mg:Str->Option Value) (base:Heap) (x:Str) (C:Addr) (k:Nat) (f:Addr) (fd:FuncData) (ps:List Str) (dvs:List V) (sp:Sp):Prop where
 g:mg x=some (.ref C)
 mkx:Mk K C f
 b:∃ds,az K fd ps ds/\ay dvs ds
 ok:bD P w K mg base (wG P w) k f fd ps sp
abbrev AB:List Value:=[.type "ValueError",.type "Exception",.type "BaseException",.type "object"]
structure wB (P:Program) (w:World) (K:W.Frag) (mg:Str->Option Value) (base:Heap) (x:Str) (C:Addr) (k:Nat) (f:Addr) (fd:FuncData) (ps:List Str) (dvs:List V) (sp:Sp):Prop where
 g:mg x=some (.ref C)
 mkx:Mk K C f
 b:∃ds,az K fd ps ds/\ay dvs ds
 ok:bD P w K mg base bQ k f fd ps sp
section
variable {X:Cx}{k j:Nat}{f C:Addr}{fd:FuncData}{ps:List Str}{sp:Sp}{x:Str}{p pos:Pos}{e:Expr}{es:List Expr}{t:TA}{dvs:List V}
def gf{c b:TE}(f:QE X e c)(d:QE X e b):QE X e (λσ H Q=>c σ H Q\/b σ H Q) :=
 ⟨λa s σ H Q I z=>z.elim (f.h a s σ H Q I) (d.h a s σ H Q I)⟩
def x5(F:wB X.prog X.w X.K X.mg X.base x C j f fd ps dvs sp)(n:bj k X.A)(l:QA X (e::es) t)(i:j+1<=k:=by decide)(d:Gl X x:=by rfl)(a:(x == ("__debug__" : Str))=false:=by decide)(c:c9 (e::es)=true:=by rfl) :
 QE X (.Call (.Name x p) (e::es) [] pos) (w4 C sp dvs E0 t):=by
 obtain⟨ds,m,hd⟩:=F.b;exact⟨FL F.mkx F.ok (n.mono i) d F.g m hd oN l.h a (dH (dU c).1) (iB (dU c).2)⟩
end
end L2
namespace L2
open PySem PySem.Spec PyProof.Rows PySem.W
structure wo (K:W.Frag) (C:Addr):Prop where
 ga:findIn K (.ref C) "__getattribute__" = some (some (.builtin "BaseException.__getattribute__"))
 noga:findIn K (.ref C) "__getattr__" = some none
 base:mroIn K C (.type "BaseException")=some true
 obj:mroIn K C (.type "object")=some true
 hd:hasDictIn K C=true
 cls:findIn K (.ref C) "__class__" = some (some (.builtin "object.__class__"))
 clsG:specialIn K (.builtin "object.__class__") "__get__" = some (some (.builtin "getset_descriptor.__get__"))
 clsT:takesIn K (.builtin "object.__class__")=some true
inductive wp (K:W.Frag) (H:Hp):V->Value->Prop where
 | of {x:V} {t:Value} (h:cQ K H x t):wp K H x t
 | exc {e C:Addr} {q:Bool} (h:H e=some (XO e C none q)) (c:wo K C):wp K H (.ref e) (.ref C)
def zV(K:W.Frag)(C:Addr)(bmB:List Value)(newId:String):Bool:=match K.lookup C with
 | some ⟨.type "type",_,.cls cd,sl⟩=>(match cd.mro,sl.toList with
  | .ref C'::bm,[_,_,_,_,some (.builtin n),_]=>C' == C && (n == newId && (!cd.hasDel && (W.tailIn K bmB bm && W.nsOkIn K cd.ns)))
  | _,_=>false)
 | _=>false
structure AT (K:W.Frag) (C f:Addr):Prop where
 x:zV K C AB "ValueError.__new__" = true
 init:W.findIn K (.ref C) "__init__" = some (some (.ref f))
 fn:W.isFn K (.ref f)=true
 kp:W.keepIn K (.ref C)=true
structure N9 (P:Program) (w:World) (K:W.Frag) (mg:Str->Option Value) (base:Heap) (x:Str) (C:Addr) (k:Nat) (f:Addr) (fd:FuncData) (ps:List Str) (sp:Sp):Prop where
 g:mg x=some (.ref C)
 mkx:AT K C f
 b:az K fd ps []
 ok:bD P w K mg base bQ k f fd ps sp
section
variable {X:Cx}{pins:List (Addr × Obj)}{σ:St}{H:Hp}{s:Shared}{h':Heap}{e C d0:Addr}{fs:List (Str × V)}{f:Str}
structure NZ (K:W.Frag) (C:Addr):Prop where
 x:zV K C AB "ValueError.__new__" = true
 c:wo K C
 sa:W.findIn K (.ref C) "__setattr__" = some (some (.builtin "object.__setattr__"))
end
structure Oe (K:W.Frag) (Y:Addr):Prop where
 sp:W.specialIn K (.ref Y) "__getattribute__" = some (some (.builtin "type.__getattribute__"))
 rd:W.readsIn K Y (.type "type")=true
 fc:W.findCls K (.ref Y) (.type "type") "__init__" = some (.val (.builtin "ValueError.__init__"))
inductive AM (K:W.Frag) (H:Hp):V->Value->Prop where
 | of {x:V} {t:Value} (h:wp K H x t):AM K H x t
 | exd {e C d0:Addr} {fs:List (Str × V)} (h:H e=some (XN e C (some d0))\/∃q,H e=some (XO e C (some d0) q)) (hd:H d0=some (.xd fs)) (c:wo K C):AM K H (.ref e) (.ref C)
structure Nl (k:Nat) (A:Around):Prop where
 dp:A.depth+3*k+5<recursionLimit
 un:A.units+16*k+200<cLine
structure AY (P:Program) (w:World) (K:W.Frag) (mg:Str->Option Value) (base:Heap) (k:Nat) (f:Addr) (fd:FuncData) (ps:List Str) (sp:Sp):Prop where
 len:∀vs H Q E,sp vs H Q E->vs.length=ps.length
 run:∀(A:Around) (outer:List Env) (s:Shared) (H:Hp) (args:Args) (us:List Value) (vs:List V) (Q:VK) (E:XK),Nl k A->fk P w K mg base A outer s H->BindsTo s fd args (ps.zip us)->ay vs us->sp vs H Q E ->
  codeAny (model P w) A (.call (.ref f) args) (CR bQ outer P w H s Q E) s
structure N8 (P:Program) (w:World) (K:W.Frag) (mg:Str->Option Value) (base:Heap) (x:Str) (C:Addr) (k:Nat) (f:Addr) (fd:FuncData) (ps:List Str) (sp:Sp):Prop where
 g:mg x=some (.ref C)
 mkx:AT K C f
 b:az K fd ps []
 ok:AY P w K mg base k f fd ps sp
section
variable {X:Cx}{k j:Nat}{f C:Addr}{fd:FuncData}{ps:List Str}{sp:Sp}{x m:Str}{p pos:Pos}{e:Expr}{es:List Expr}{t:TA}{dvs:List V}{ds:List Value}{Es:St->XK}
structure N7 (P:Program) (w:World) (K:W.Frag) (mg:Str->Option Value) (base:Heap) (x:Str) (k:Nat) (f:Addr) (fd:FuncData) (ps:List Str) (sp:Sp):Prop where
 g:mg x=some (.ref f)
 kp:W.keepIn K (.ref f)=true
 b:az K fd ps []
 ok:AY P w K mg base k f fd ps sp
end
section
variable {X:Cx}{K:W.Frag}{o i value:Expr}{td ty tv:TE}{pos pos':Pos}
def Kx:R2:=λy x H Q=>∃a ov,x=.ref a/\cw H a y ov/\Q (.bl (!ov.isSome)) H
def J5(h:X.A.units+64<cLine):aM X (compareOp .NotIn) Kx:=by
 intro b s σ H x y v u Q I d e q;obtain⟨a,f,rfl,g,q⟩:=q;obtain rfl:u=Value.ref a:=e;exact Lb (by omega) I g d λi c=>⟨.bl (!f.isSome),H,c,rfl,q⟩
def oH(d:X.A.units+64<cLine)(b:QE X o td)(c:QE X i ty)(a:mn i:=by intro _ _;rfl):QE X (.Subscript o i pos) (xf td ty):=⟨FS (by omega) b.h c.h a⟩
def lC(e:X.A.units+64<cLine)(a:QE X o td)(d:QE X i ty)(b:QE X value tv)(c:swapsWith value (some (.Subscript o i pos')) pos.line X.env=pure false:=by rfl):QS X (.Assign [.Subscript o i pos'] value pos) (xI td ty tv):=⟨Fe (by omega) a.h d.h b.h c⟩
end
section
variable {X:Cx}{K:W.Frag}
def KC:R2:=λy x H Q=>∃a ov,x=.ref a/\cw H a y ov/\Q (.bl ov.isSome) H
def sv(h:X.A.units+64<cLine):aM X (compareOp .In) KC:=by
 intro b s σ H x y v u Q I d e q;obtain⟨a,f,rfl,g,q⟩:=q;obtain rfl:u=Value.ref a:=e;exact Lc (by omega) I g d λi c=>⟨.bl f.isSome,H,c,rfl,q⟩
end
section
open HT
variable {prog:Program}{w:World}{A:Around}{E:Value->Shared->Prop}{s:Shared}
def JE{t e:Addr}{items:Array Value}{g i:Value}{lo c:Option Int}{Q:Value->Shared->Prop}(b:IsTup s.heap t items)(j:s.heap.IsSliceOf e g i .none)(pl:IsPart g lo)(k:IsPart i c)
 (hw:sIx items.size 0 lo=0/\sIx items.size items.size c=items.size) (h:Q (.ref t) s):wpAny (model prog w) A (getItem (.ref t) (.ref e)) Q E s:=by
 obtain⟨os,d,f,l⟩:=id j;have hTs:s.TypeIs (.ref e) "slice":=⟨os,d,f⟩;unfold getItem
 try with_reducible refine wpAny_holding ?_
 first|refine on (Sa ?_)|skip
 refine on (wpAny_sequenceKey b.typeIs (by decide) ?_);refine on (wpAny_callSpecial?_slot (name:=Str.ofString "__getitem__") b.typeIs P5
  (wpAny_call_entry P5 b.typeIs entry_tuple_getitem ?_ (args_tuple_getitem _ _)))
 show wpAny _ _ (Builtin.Tuple.tupleItemsOf (.ref t) >>= _) _ _ s;refine on (tupleItemsOf_ b ?_);refine on (wpAny_typeOf hTs ?_);rw[Sc (by decide)];refine on (xx j pl k ?_);have a:((((sIx items.size 0 lo:Nat):Int) == 0 && (1:Int) == 1 && (sIx items.size items.size c-sIx items.size 0 lo) == items.size)=true):=by
  rw[hw.1,hw.2];simp
 show wpAny _ _ (if (((sIx items.size 0 lo:Nat):Int) == 0 && (1:Int) == 1 && (sIx items.size items.size c-sIx items.size 0 lo) == items.size)=true then _ else _) _ _ s;rw[Sc a];unfold Builtin.Tuple.tupleIsExact;refine on (on (wpAny_typeOf b.typeIs (Sa ?_)));rw[Sc (by decide)];refine on (wpAny_rule ?_)
 first
  | exact Sa ⟨_,rfl,Sa h⟩
  | exact on (Sa ⟨_,rfl,Sa h⟩)
  | exact on (Sa (Sa ⟨_,rfl,Sa h⟩))
end
section
variable {X:Cx}{K:W.Frag}{pos:Pos}
def Hu:TE:=λ_ H Q=>∀p H',aZ H p (.dT []) H'->Q (.ref p) H'
def x3:QE X (.Dict [] [] pos) Hu:=⟨FP.imp λσ H Q q=>λp a=>q p _ (.mk' a)⟩
def zJ(K:W.Frag):V->Option Int->Option Int->Hp->VK->Prop:=λx lo b H Q=>match x with
 | .ref a=>∃xs,bJ K H a xs/\H a=some (.tup xs)/\∀p H',af H H'->H' p=some (.tup (ce xs lo b))->Q (.ref p) H'
 | _=>False
def J1:iJ X (zJ X.K):=by
 intro b s σ H x v m o lo k n Q I h f pl e q;cases x with
 | ref a =>
  obtain⟨xs,g,l,q⟩:=q;by_cases hw:HT.sIx xs.length 0 lo=0/\HT.sIx xs.length xs.length k=xs.length
  ·cases h;obtain⟨d,r,j,hz⟩:=I.tuple g;have c:d.toArray.size=xs.length:=by rw[OE];exact r.length.symm
   refine⟨"tuple",_,P5.lookup,j.typeIs,?_⟩;refine JE j f pl e (by rw[c];exact hw) ?_;refine⟨.ref a,H,I,Z,q a H (af.refl _) ?_⟩;rw[l];unfold ce;rw[hw.1,hw.2,Q5,Ps (by omega)]
  ·exact Dg b s σ H _ v m o lo k n Q I h f pl e ⟨a,xs,Z,g,hw,λp i=>q p _ (aZ.mk' i).sm (aZ.mk' i).at_⟩
 | _=>exact False.elim q
def zE(h:X.K=K):iJ X (zJ K):=by subst h;exact J1
end
section
variable {X:Cx}{o e:Expr}{apos cpos:Pos}{td ty:TE}
def x8 (i:X.A.units+64<cLine) (a:QE X o td) (d:QE X e ty) (b:attributeBase o "get" X.env (eval o X.env)=eval o X.env:=by rfl)
 (c:((backTo cpos (starEach [e] X.env)).all (λx=>!x.1) && (backToKw cpos (keywordEach [] X.env)).all (λx=>x.1.isSome)
   && decide (([e]:List Expr).length+([]:List Keyword).length+(if ([]:List Keyword).isEmpty then 0 else 1)<30))=true:=by rfl)
 (g:(apos.endLine == cpos.line)=true:=by rfl) (f:backTo cpos (starEach [e] X.env)=[(false,eval e X.env)]:=by rfl) :
 QE X (.Call (.Attribute o "get" apos) [e] [] cpos) (xc td ty):=⟨FR (by omega) a.h d.h ⟨b,c,g,f⟩⟩
end
theorem Paired.nth{α β:Type}{F:α->β->Prop}:∀ {c:List α} {l₂:List β},Paired F c l₂->∀ {i:Nat} {a:α} {b:β},c[i]? = some a->l₂[i]? = some b->F a b
 | _,_,.nil,_,_,_,h,_=>by simp at h
 | _,_,.cons r t,0,_,_,h,h'=>by simp at h h';subst h;subst h';exact r
 | _,_,.cons r t,i+1,_,_,h,h'=>Paired.nth t (i:=i) (by simpa using h) (by simpa using h')
def HY{P:Program}{w:World}{k:aw}{u:Value}(h:(bX P w).is k u=true):ax (kV k) u:=by
 rw[G7]at h;cases k with
 | inl i =>
  cases u<;>simp[hV,Value.isInt]at h;subst h;exact⟨_,Z⟩
 | inr x =>
  cases u<;>simp[hV,Value.isStrOf]at h;subst h;exact⟨_,Z⟩
def ue:entryFor table "dict_itemiterator.__iter__" = some Builtin.«dict_keyiterator.__iter__» :=
 entryFor_alias (id' := "dict_keyiterator.__iter__") (by kernel_rfl) (by first|rfl|decide +kernel|(unfold String.splitOn;simp +decide [String.splitOnAux])) (by decide +kernel) (by kernel_rfl)
def jF(d:Addr)(a:Obj)(kvs:List (aw × V)):It :=
 ⟨λi H=>H d=some (.frz a (.dK kvs))/\i<kvs.length,λi H x H'=>∃p k v,x=.ref p/\kvs[i]? = some (k,v)/\aZ H p (.tup [kV k,v]) H',λi H=>H d=some (.frz a (.dK kvs))/\kvs.length<=i⟩
def pB{X:Cx}{a:List (Addr × Obj)}{σ:St}{H:Hp}{s:Shared}{d:Addr}{c:Obj}{kvs:List (aw × V)}{es:Array DictEntry}{ep:Nat}(I:ae X a σ H s)(h:H d=some (.frz c (.dK kvs)))(g:c.data=.dict es ep):∃vs,KV kvs vs/\s.heap.DictAt (bX X.prog X.w) d vs ep:=by
 obtain⟨i,z,hd,vs,b,n,l,k,e,j,f,m⟩:=I.hok d _ h;rw[i]at e;cases e;rw[g]at f;cases f;exact⟨vs,b,c,es,i,j,g,m⟩
def BZ{P:Program}{w:World}{K:W.Frag}{F:List Expr}{kk:Nat}{pp:Pos}(d it:Addr)(R:Obj)(kvs:List (aw × V))(es:Array DictEntry)(ep:Nat)(U:R.data=.dict es ep)(a0:d≠it):d7 P w K (.Tuple F kk pp) (jF d R kvs) [it] it (λi h=>∃ok l,IsItemIter h it d i kvs.length ep ok l) where
 mem:=by simp
 obj:=λi h st b g=>by
  obtain⟨ok,l,a⟩:=st;have j:b=it:=by simpa using g
  subst j;exact⟨_,a,λv z=>by cases (show Data.fields _=Data.cell v from z)⟩
 keep:=λi h h' st k=>by
  obtain⟨ok,l,a⟩:=st;exact⟨ok,l,k it (by simp) _ a⟩
 item:=by
  intro X hP hw hK S i e s σ H E I C st M;subst hP hw hK;obtain⟨ok,l,a⟩:=st;obtain⟨N,Y⟩:=M;obtain⟨vs,c,J⟩:=pB I N U;have B:=c.length;obtain⟨⟨k,v⟩,n⟩:∃kv,kvs[i]? = some kv:=⟨_,OF Y⟩;obtain⟨⟨k',u⟩,D,G,ru⟩:∃q,vs[i]? = some q/\k=q.1/\ax v q.2:=by
   obtain⟨q,x⟩:∃q,vs[i]? = some q:=⟨_,OF (by omega)⟩;exact⟨q,x,Paired.nth c n x⟩
  obtain rfl:k=k':=G;have f:it<s.heap.objs.size:=Oy a;rw[B]at a;refine wpAny_pyNext_items_item a J D λkey h' m ho hT hsz hk=>?_;refine⟨_,rfl,wpAny_letOwnedTupleGo_items (s:={ s with heap:=h' }) ho λp L r=>?_⟩;have hTe:s.heap.objs.size≠it:=PB f;have hT2:p.get? s.heap.objs.size=some { cls:=.type "tuple",data:=.seq #[key,u] }:=(r.2 _ hTe).trans hT;have I2:ae X e σ (upd H s.heap.objs.size (.tup [kV k,v])) { s with heap:=p }:=by
   refine I.turnedN (t':=s.toks) (fp:=[it]) (λb o g O=>?_) C (Oo _) (oO ⟨_,hT2,Z,_,Z⟩ (HY m) ru);have y:b≠it:=λz=>g (by simp[z]);exact (r.2 b y).trans (hk b o y O)
  refine⟨.ref s.heap.objs.size,_,I2,rfl,⟨_,k,v,rfl,n,.mk' I.fresh⟩,⟨_,_,by rw[B];exact L⟩,λb g=>?_⟩;have j:b=it:=by simpa using g
  rw[am (by rw[j];exact OC f)];exact (C b g).1
 done:=by
  intro X hP hw hK S i e s σ H E I C st M;subst hP hw hK;obtain⟨ok,l,a⟩:=st;obtain⟨N,Y⟩:=M;obtain⟨vs,c,J⟩:=pB I N U;have B:=c.length;rw[B]at a;exact wpAny_pyNext_items_end (I.ok.hd S) a J (PV (by omega)) λh' eb=>⟨rfl,I.turnedL (t':=s.toks) (fp:=[it]) (λb o g O=>eb b o (λz=>g (by simp[z])) O) C⟩
 self:=λA i s Q E st h=>by
  obtain⟨ok,l,a⟩:=st;have hT:s.TypeIs (.ref it) "dict_itemiterator":=⟨_,a,rfl⟩;refine wpAny_pyIter_slot hT P7 (wpAny_call_entry P7 hT ue ?_ (Q9 _));show wpAny _ _ (ret (.ref it)) _ _ s;exact Sa ⟨_,Z, "dict_itemiterator",_,hT,PH.lookup,h⟩
def zk(b:TE):TI:=λσ H R=>b σ H λx a=>∃d kvs,x=.ref d/\a d=some (.dK kvs)/\∀ob,R (jF d ob kvs) (upd a d (.frz ob (.dK kvs)))
section
variable {X:Cx}{o:Expr}{es:List Expr}{kk:Nat}{pp apos cpos:Pos}{td:TE}
def Fx (G:PE X o td) (v:attributeBase o "items" X.env (eval o X.env)=eval o X.env) (C:(apos.endLine == cpos.line)=true):PI X (.Tuple es kk pp) (.Call (.Attribute o "items" apos) [] [] cpos) (zk td):=by
 intro k s σ H R I h;refine wpAny_Call_method (T := "dict") (id := "dict.items") v Z C PU P8 Ra (ap (G k s σ H _ I h) λu s1 ⟨x,S,r,N,d,kvs,ex,hd,q⟩=>?_);subst ex;obtain rfl:u=Value.ref d:=N;obtain⟨z,hdS,vs,i,m⟩:=pJ r.hok hd;refine⟨m.typeIs,m.mapOf.noDict,?_⟩;show wpAny _ _ (callWith cpos (.builtin "dict.items") [.ref d] [] []) _ _ s1;refine method_meetsIn P8 Rb rfl (Qy ⟨rfl,m.typeIs,Rc _,_,meets_dict_items (bX X.prog X.w) d hdS,⟨vs,m⟩,?_⟩);obtain⟨ep,y⟩:=m.dictAt;refine wpAny_pyIter_items (knd:=bX X.prog X.w) (d:=d) (kvs:=vs) (ep:=ep) ⟨_,OB _ Z,Z,Z⟩ (y.push _) ?_;obtain⟨a,j,p,O,B,J⟩:=id y;have hsz:(s1.heap.push { cls:=.type "dict_items",data:=.fields #[.ref d] }).objs.size=s1.heap.objs.size+1:=Pp ..;have k2:∀b o,s1.heap.get? b=some o->((s1.heap.push { cls:=.type "dict_items",data:=.fields #[.ref d] }).push { cls:=.type "dict_itemiterator",data:=.fields #[.none,.bool false,.ref d,.int 0 0,.int vs.length 0,.int ep 0,.none,.none] }).get? b=some o:=λb o e=>Ow _ (Ow _ e);have F:=r.kept (t':=s1.toks) k2;have g:=k2 d a p;have L:=F.write (x:=d) (e:=d) (o:=.frz a (.dK kvs)) (t':=s1.toks) (by rw[hd];exact True.intro) (.inl Z) (λb u _ e=>e) ⟨a,g⟩ ⟨g,z,hdS,vs,i,a,j,ep,g,O,B,J⟩;have n:s1.heap.objs.size<=(s1.heap.push { cls:=.type "dict_items",data:=.fields #[.ref d] }).objs.size:=by rw[hsz];exact Pk _
 have l:d≠(s1.heap.push { cls:=.type "dict_items",data:=.fields #[.ref d] }).objs.size:=by rw[hsz];exact OC (PF (Oy p))
 refine⟨_,[_],_,jF d a kvs,_,rfl,L,BZ d _ a kvs j ep B l,⟨.none,.none,by rw[i.length];exact OB _ Z⟩,λb v=>?_,q a⟩;have c:b=(s1.heap.push { cls:=.type "dict_items",data:=.fields #[.ref d] }).objs.size:=by simpa using v
 have D:=r.fpOk (b:=b) (by rw[c];exact n) (r.hok.fresh (by rw[c];exact n));obtain⟨M,f⟩:=D;exact⟨by rw[am (by rw[c];exact l.symm)];exact M,f⟩
def oC (b:QE X o td) (c:attributeBase o "items" X.env (eval o X.env)=eval o X.env:=by rfl) (a:(apos.endLine == cpos.line)=true:=by rfl):QI X (.Tuple es kk pp) (.Call (.Attribute o "items" apos) [] [] cpos) (zk td):=⟨Fx b.h c a⟩
def KI{d:Addr}{b:Obj}{kvs:List (aw × V)}{g:TG}{tb:TS}{D:dG}{σ:St}{H:Hp}(a:Nat->St->Hp->Prop)(j:a 0 σ H)(r:∀i σ H,i<=kvs.length->a i σ H->H d=some (.frz b (.dK kvs)))
 (o:∀i k v p σ H H',kvs[i]? = some (k,v)->a i σ H->aZ H p (.tup [kV k,v]) H'->g (.ref p) σ H' λh c=>tb { D with nx:=a (i+1),ct:=a (i+1),bk:=D.nx } h c) (hd:∀σ H,a kvs.length σ H->D.nx σ H) :
 ∃W:Nat->Nat->St->Hp->Prop,(∃m,W 0 m σ H)/\∀i m σ H,W i m σ H ->
  ((jF d b kvs).stop i H/\D.nx σ H)\/((jF d b kvs).go i H/\∃N:St->Hp->Prop,(∀f H',N f H'->∃m',m'<m/\W (i+1) m' f H')/\∀x H',(jF d b kvs).yld i H x H'->g x σ H' λh c=>tb { D with nx:=N,ct:=N,bk:=D.nx } h c):=by
 refine⟨λi m σ H=>m=kvs.length-i/\i<=kvs.length/\a i σ H,⟨kvs.length,by simp,Ox _,j⟩,?_⟩;rintro i m σ H ⟨rfl,s,p⟩;have q:=r i σ H s p;by_cases hlt:i<kvs.length
 ·refine .inr ⟨⟨q,hlt⟩,a (i+1),λf H' l=>⟨kvs.length-(i+1),by omega,rfl,hlt,l⟩,λx H' y=>?_⟩;obtain⟨pp,k,v,rfl,y,n⟩:=y;exact o i k v pp σ H H' y p n
 ·have e:i=kvs.length:=by omega
  subst e;exact .inl ⟨⟨q,Oo _⟩,hd σ H p⟩
end
section
variable {prog:Program}{w:World}
def dD(prog:Program)(w:World)(h:Heap)(k:Int × List Int)(a:Addr):Prop :=
 ∃(o:Obj) (t b n:Nat),h.get? a=some o/\o.cls=.type "tuple"/\o.data=.seq #[.int k.1 t,.ref b] n/\IsTupleKey (intKind prog w) h k.2 b
def dD.ty {s:Shared} {k:Int × List Int} {a:Addr} (x:dD prog w s.heap k a):s.TypeIs (.ref a) "tuple":=by
 obtain⟨o,t,b,n,d,c,_⟩:=x;exact⟨o,d,c⟩
def dD.one{h:Heap}{a:Addr}{x y:Int × List Int}(hx:dD prog w h x a)(hy:dD prog w h y a):x=y:=by
 obtain⟨o,t,b,n,j,_,f,i⟩:=hx;obtain⟨l,t',b',k,c,_,d,g⟩:=hy;rw[j]at c;cases c;rw[f]at d
 injection d with e _
 injection e with e
 injection e with e1 e2
 injection e1 with e1 _
 injection e2 with e2 _
 injection e2 with e2
 subst e2;exact Prod.ext e1 (i.inj g)
def dD.stay{h h':Heap}{k:Int × List Int}{a d:Addr}{o:Obj}{es:Array DictEntry}{ep:Nat}(x:dD prog w h k a)(c:h.get? d=some o)(hd:o.data=.dict es ep)(f:Heap.SameBut d h h'):dD prog w h' k a:=by
 obtain⟨u,t,b,n,g,i,e,j⟩:=x;refine⟨u,t,b,n,(f.2 a ?_).trans g,i,e,j.keeps c hd f⟩;intro z;subst z;rw[g]at c;cases c;rw[hd]at e;cases e
variable {A:Around}{E:Value->Shared->Prop}{s:Shared}
def xl(prog:Program)(w:World)(k:Int × List Int):Int:=reduceHash (Builtin.Tuple.tupleHashOf [(intKind prog w).hash k.1,tupleKeyHash (intKind prog w) k.2])
def Cu{k:Int × List Int}{a:Addr}{Q:Int->Shared->Prop}(l:A.units+8<cLine)(f:dD prog w s.heap k a)(q:Q (xl prog w k) { s with toks:=s.toks+(k.2.length+3) }):wpAny (model prog w) A (pyHash (.ref a)) Q E s:=by
 have ty:=f.ty;obtain⟨o,t,b,n,j,m,h,i⟩:=f;unfold pyHash
 first|unfold pyHashByItsType|skip
 first|refine on (wpAny_cRoomFor_or (.inr (by omega)) ?_)|skip
 refine on (wpAny_specialOf ty PJ.lookup ?_);show wpAny _ _ (if (some (Value.builtin "tuple.__hash__") == some Value.none)=true then _ else _) _ _ _;rw[Sb (by rw[beq_builtin_none];decide)];refine on (wpAny_specialOf ty PJ.lookup ?_);show wpAny _ _ (callSpecialIfBoundUnlessNone? (.ref a) "__hash__" _ >>= _) _ _ _;refine on (wpAny_callSpecialIfBoundUnlessNone?_slot ty PJ (wpAny_call_entry PJ ty RH ?_ (RI _)));show wpAny _ _ (Builtin.Tuple.tupleItemsOf (.ref a) >>= _) _ _ _;refine on (wpAny_tupleItemsOf j h ?_);refine on ?_;rw[<- P9];rw[O3];refine on (on ((intKind prog w).pyHash (k:=k.1) (by exact (beq_self_eq_true k.1)) ?_))
 first
  | refine Sa ?_
  | refine on (Sa (Sa ?_))
 dsimp only;rw[O3];refine on (on (wpAny_pyHash_tuple (knd:=intKind prog w) (ks:=k.2) ?_ i ?_))
 ·show A.units+1<cLine;omega
 first
  | refine Sa ?_
  | refine on (Sa (Sa ?_))
 dsimp only;rw[PX];refine Sa ?_;refine wpAny_ret_mkInt ?_;have e:((#[].push ((intKind prog w).hash k.1)).push (tupleKeyHash (intKind prog w) k.2)).toList=[(intKind prog w).hash k.1,tupleKeyHash (intKind prog w) k.2]:=rfl;rw[e];generalize eH:Builtin.Tuple.tupleHashOf [(intKind prog w).hash k.1,tupleKeyHash (intKind prog w) k.2]=N;have d:Q (reduceHash N) { s with toks:=s.toks+(k.2.length+3) }:=by rw[<- eH];exact q
 unfold reduceHash at d;have g:s.toks+1+(k.2.length+1)+1=s.toks+(k.2.length+3):=by omega
 show wpAny _ _ (if (decide (-(2:Int) ^ 63<=N) && decide (N<2 ^ 63))=true then _ else _) _ _ { s with toks:=s.toks+1+(k.2.length+1)+1 };rw[g]
 split
 ·rename_i c;rw[Sc c]at d;exact Sa d
 ·rename_i c;rw[Sb c]at d;exact on (wpAny_rule (Sa d))
def Cv{x y:Int × List Int}{a b:Addr}{P:Fin->Shared->Prop}(k:A.units+4<cLine)(hx:dD prog w s.heap x a)(hy:dD prog w s.heap y b)(q:P (.done (.ret (.bool (decide (x=y))))) s) :
 wpAny (model prog w) A (Builtin.«tuple.__eq__» ⟨[.ref a,.ref b],[]⟩) P E s:=by
 have ty:=hy.ty;obtain⟨o,t,c,n,i,l,e,h⟩:=hx;obtain⟨p,t',j,m,d,r,g,f⟩:=hy;show wpAny _ _ (isInstance (.ref b) (.type "tuple") >>= _) _ _ _;refine on (wpAny_isInstance ty isSubtype_tuple_tuple ?_);simp only [OW,OO,if_false];refine on (wpAny_tupleItemsOf i e ?_);refine on (wpAny_tupleItemsOf d g ?_);refine on ?_;show wpAny _ _ (forIn [(Value.int x.1 t,Value.int y.1 t'),(Value.ref c,Value.ref j)] _ _) _ _ _;rw[O3];refine on (on ((intKind prog w).eqBool (a:=x.1) (b:=y.1) (by exact (beq_self_eq_true x.1)) (by exact (beq_self_eq_true y.1)) ?_));by_cases e1:x.1=y.1
 ·rw[Sf e1];simp only [OW,OO,if_false];refine Sa ?_;dsimp only;rw[O3];refine on (on (wpAny_eqBool_tuple (knd:=intKind prog w) (x:=x.2) (y:=y.2) (by omega) h f ?_));by_cases e2:x.2=y.2
  ·rw[Sf e2];simp only [OW,OO,if_false];refine Sa ?_;dsimp only;rw[PX];refine Sa (Sa ?_);rw[Sf (Prod.ext e1 e2)]at q;exact q
  ·rw[Sh e2];simp only [Qa,if_true];rw[Sh (λz=>e2 (by rw[z]))]at q;exact on (Sa (Sa (Sa (Sa q))))
 ·rw[Sh e1];simp only [Qa,if_true];rw[Sh (λz=>e1 (by rw[z]))]at q;exact on (Sa (Sa (Sa (Sa q))))
def Cw{x y:Int × List Int}{a b:Addr}{Q:Bool->Shared->Prop}(c:A.units+8<cLine)(hx:dD prog w s.heap x a)(hy:dD prog w s.heap y b)(q:Q (decide (x=y)) s):wpAny (model prog w) A (eqBool (.ref a) (.ref b)) Q E s:=by
 unfold eqBool
 try with_reducible refine wpAny_holding ?_
 show wpAny _ _ (if (Value.ref a == Value.ref b)=true then _ else _) _ _ _;by_cases e:(Value.ref a == Value.ref b)=true
 ·rw[Sc e];have z:a=b:=by
   have:=eq_of_beq e
   injection this
  subst z;obtain rfl:=hx.one hy;rw[Sf rfl]at q;exact on (wpAny_rule (Sa q))
 ·rw[Sb e];exact on (wpAny_richCompare_same_room (op:=.Eq) hx.ty hy.ty PK (wpAny_call_entry PK hx.ty RJ (Cv (by show A.units+1+4<cLine;omega) hx hy ⟨_,rfl,nofun,wpAny_truthy_bool q⟩) (RK _ _)) (by omega))
def Eh(n:Nat){ks:List Int}{a:Addr}{Q:Bool->Shared->Prop}(d:IsTupleKey (intKind prog w) s.heap ks a)(q:Q true s):wpAny (model prog w) A (eqIsQuiet (n+1) (.ref a)) Q E s:=by
 have ty:=d.typeIs;obtain⟨o,b,m,i,_,g,h⟩:=d;unfold eqIsQuiet;refine on (wpAny_specialOf ty PK.lookup ?_);show wpAny _ _ (isInstance (.ref a) (.type "tuple") >>= _) _ _ _;refine on (wpAny_isInstance ty isSubtype_tuple_tuple ?_);simp only [OW,OO,if_false];refine on (wpAny_seqItems i g ?_);refine on ?_;show wpAny _ _ (forIn b _ _) _ _ _;rw[<- P9];refine wpAny_forIn_list _ (λl r c=>r.1=none/\c=s/\∀v∈l,carriedByValue v=true) _ ?_ ?_ _ _ ⟨rfl,rfl,h.byValue⟩
 ·rintro v l r c ⟨e,rfl,f⟩;rw[eqIsQuiet_byValue _ (f v (OP ..))];refine on (Sa ?_);simp only [OW,OO,if_false];exact Sa ⟨rfl,rfl,λu z=>f u (OQ _ z)⟩
 ·rintro⟨r1,r2⟩ c ⟨e,rfl,_⟩;obtain rfl:r1=none:=e;exact Sa q
def Ct{k:Int × List Int}{a:Addr}{Q:Bool->Shared->Prop}(c:dD prog w s.heap k a)(q:Q true s):wpAny (model prog w) A (eqIsQuiet 8 (.ref a)) Q E s:=by
 have ty:=c.ty;obtain⟨o,t,b,n,f,g,d,e⟩:=c;unfold eqIsQuiet;refine on (wpAny_specialOf ty PK.lookup ?_);show wpAny _ _ (isInstance (.ref a) (.type "tuple") >>= _) _ _ _;refine on (wpAny_isInstance ty isSubtype_tuple_tuple ?_);simp only [OW,OO,if_false];refine on (wpAny_seqItems f d ?_);refine on ?_;show wpAny _ _ (forIn #[Value.int k.1 t,Value.ref b] _ _) _ _ _;rw[<- P9];rw[O3,eqIsQuiet_byValue _ (show carriedByValue (Value.int k.1 t)=true from rfl)];refine on (on (Sa ?_));simp only [OW,OO,if_false];refine Sa ?_;dsimp only;rw[O3];refine on (on (Eh 6 e ?_));simp only [OW,OO,if_false];refine Sa ?_;dsimp only;rw[PX];exact Sa (Sa q)
def jP(prog:Program)(w:World):HeapKind prog w (Int × List Int) where
 is:=dD prog w
 hash:=xl prog w
 draws:=λk=>k.2.length+3
 room:=λA=>A.units+8<cLine
 inj:=λx y=>x.one y
 keeps:=λx c hd d=>x.stay c hd d
 pyHash:=λb a q=>Cu b a q
 eqBool:=λb hx hy q=>Cw b hx hy q
 quiet:=λa q=>Ct a q
end
structure eM (h:Heap) (d:Addr) (es:Array DictEntry) (ep:Nat):Prop where
 big:(d == sysModules)=false
 obj:∃o,h.get? d=some o/\o.ExactDict/\o.data=.dict es ep
def eM.ty {s:Shared} {d:Addr} {es:Array DictEntry} {ep:Nat} (r:eM s.heap d es ep):s.TypeIs (.ref d) "dict":=by
 obtain⟨o,e,c,_⟩:=r.obj;exact⟨o,e,c.1⟩
def eM.to{h h':Heap}{d:Addr}{es:Array DictEntry}{ep:Nat}(r:eM h d es ep)(k:∀o,h.get? d=some o->h'.get? d=some o):eM h' d es ep:=by
 obtain⟨b,o,e,c⟩:=r;exact⟨b,o,k o e,c⟩
def eM.lt{h:Heap}{d:Addr}{es:Array DictEntry}{ep:Nat}(r:eM h d es ep):d<h.objs.size:=by
 obtain⟨o,e,_⟩:=r.obj;exact Oy e
section
variable {prog:Program}{w:World}{A:Around}{E:Value->Shared->Prop}{s:Shared}{it d:Addr}{i ep:Nat}{es:Array DictEntry}
def xN{Q:Value->Shared->Prop}(r:eM s.heap d es ep)(q:Q (.ref s.heap.objs.size) { s with heap:=s.heap.push { cls:=.type "dict_keyiterator",data:=.fields #[.ref d,.int 0 0,.int es.size 0,.int ep 0] } }):wpAny (model prog w) A (pyIter (.ref d)) Q E s:=by
 have ty:=r.ty;obtain⟨o,b,c,a⟩:=r.obj;refine wpAny_pyIter_slot ty Qz (wpAny_call_entry Qz ty RL ?_ (RM _));unfold Builtin.«dict.__iter__» Builtin.Dict.dictSlotNone;refine on (on (wpAny_notOrdered_dict ty ?_));show wpAny _ _ (pure (Value.ref d)) _ _ _;refine Sa ?_;show wpAny _ _ (Builtin.Dict.showsAll d >>= _) _ _ _;unfold Builtin.Dict.showsAll;rw[Sb (by rw[r.big];decide)];refine on (Sa (on (wpAny_dictEntries b a (on (wpAny_dictEpoch b a ?_)))));refine on (wpAny_newObj_type (Sa ⟨_,Z, "dict_keyiterator",_,⟨_,OB _ Z,Z⟩,Pl.lookup,?_⟩));exact q
def xO{e:DictEntry}{Q:Option Value->Shared->Prop}(a:s.heap.IsKeyIter it d i es.size ep)(r:eM s.heap d es ep)(f:es[i]? = some e)
 (q:∀h',h'.IsKeyIter it d (i+1) es.size ep->Heap.SameBut it s.heap h'->Q (some e.key) { s with heap:=h' }):wpAny (model prog w) A (pyNext (.ref it)) Q E s:=by
 obtain⟨o,k1,k2,k3⟩:=id a;obtain⟨u,b,g,c⟩:=r.obj;unfold pyNext;refine on (wpAny_attempt (wpAny_callSpecial?_slot (name:=Str.ofString "__next__") a.typeIs Pl (wpAny_call_entry Pl a.typeIs QB ?_ (QC _))));refine on (Sa (on (on ?_)))
 first|refine on (wpAny_typeNameOfWhole_keyiter a.typeIs (Sa ?_))|refine on (wpAny_typeNameOf_keyiter a.typeIs (Sa ?_))
 refine on (wpAny_fieldsOf k1 k3 ?_);simp only [show Builtin.Dict_items.ownsTuple "dict_keyiterator" = false by decide,OO,if_false];show wpAny _ _ (if (Value.ref d == Value.none)=true then _ else _) _ _ _;rw[Sb (by intro z;cases z)];refine on (Sa (on (wpAny_dictEntries b c ?_)));rw[Sb (by simp)];refine on (Sa (on (wpAny_dictEpoch b c ?_)));rw[Sb (by simp)];refine Sa ?_;simp only [show ¬((i:Int)<0) by omega,if_false,OX,f];refine on ?_
 first|refine on (wpAny_typeNameOfWhole_keyiter a.typeIs (Sa ?_))|refine on (wpAny_typeNameOf_keyiter a.typeIs (Sa ?_))
 refine on (wpAny_isOneOf_keyiter a.typeIs ?_);show wpAny _ _ (setField (.ref it) 1 (rawInt ((i:Int)+1)) >>= _) _ _ _;refine on (wpAny_setField k1 k3 (by simp) ?_);have nx:(s.heap.update it (Obj.mapFields (·.setIfInBounds 1 (rawInt ((i:Int)+1))))).IsKeyIter it d (i+1) es.size ep:=⟨_,Qm _ k1 (Obj.isFreed_of_fields (Obj.data_mapFields k3 _)),(Obj.cls_mapFields ..).trans k2,by rw[Obj.data_mapFields k3];simp[rawInt]⟩;refine on (wpAny_holding (on (wpAny_isOneOf_keyiter (s:={ s with heap:=s.heap.update it (Obj.mapFields (·.setIfInBounds 1 (rawInt ((i:Int)+1)))) }) nx.typeIs ?_)));show wpAny _ _ (pure e.key) _ _ _;exact Sa (Sa ⟨_,Z,Sa (q _ nx (O6 ..))⟩)
def xP{Q:Option Value->Shared->Prop}(h:A.handled=none)(c:s.heap.IsKeyIter it d i es.size ep)(r:eM s.heap d es ep)(g:es.size<=i)(q:∀h',Heap.ExtBut it s.heap h'->Q none { s with heap:=h' }):wpAny (model prog w) A (pyNext (.ref it)) Q E s:=by
 obtain⟨o,k1,k2,k3⟩:=id c;obtain⟨u,e,j,f⟩:=r.obj;unfold pyNext;refine on (wpAny_attempt (wpAny_callSpecial?_slot (name:=Str.ofString "__next__") c.typeIs Pl (wpAny_call_entry Pl c.typeIs QB ?_ (QC _))));refine on (Sa (on (on ?_)))
 first|refine on (wpAny_typeNameOfWhole_keyiter c.typeIs (Sa ?_))|refine on (wpAny_typeNameOf_keyiter c.typeIs (Sa ?_))
 refine on (wpAny_fieldsOf k1 k3 ?_);simp only [show Builtin.Dict_items.ownsTuple "dict_keyiterator" = false by decide,OO,if_false];show wpAny _ _ (if (Value.ref d == Value.none)=true then _ else _) _ _ _;rw[Sb (by intro z;cases z)];refine on (Sa (on (wpAny_dictEntries e f ?_)));rw[Sb (by simp)];refine on (Sa (on (wpAny_dictEpoch e f ?_)));rw[Sb (by simp)];refine Sa ?_;simp only [show ¬((i:Int)<0) by omega,if_false,OX,Re g];refine on ?_
 first|refine on (wpAny_typeNameOfWhole_keyiter c.typeIs (Sa ?_))|refine on (wpAny_typeNameOf_keyiter c.typeIs (Sa ?_))
 show wpAny _ _ (setField (.ref it) 0 .none >>= _) _ _ _;refine on (wpAny_setField k1 k3 (by simp) ?_);show wpAny _ _ (newExc (.type "StopIteration") [] >>= _) _ _ _;refine on ?_;simp only [newExc,newTuple];refine on (wpAny_newObj_type ?_ (by size_fits));refine on (m:=firstArgMember _ _) (wpAny_of_eq (a:=Value.none) (by first|rfl|(simp only [firstArgMember];rfl)) (wpAny_newObj_type ?_ (by size_fits)));simp only [raiseNew];refine on (wpAny_handled ?_);rw[show A.in1.handled=none from h];refine on (Sa (wpAny_throw ?_));refine on (wpAny_isInstance (T := "StopIteration") (b:=true) ⟨_,OB _ rfl,by rfl⟩ isSubtype_stop ?_);exact Sa (q _ (((O6 ..).extBut.push _).push _))
end
abbrev ai:=Int × List Int
def iX(x:ai × Addr × Value):DictEntry:=⟨reduceHash (Builtin.Tuple.tupleHashOf [hashInt x.1.1,reduceHash (Builtin.Tuple.tupleHashOf (x.1.2.map hashInt))]),.ref x.2.1,x.2.2⟩
def xn(P:Program)(w:World):entryOfKey (jP P w)=iX:=rfl
def iT(a:Addr)(xs:List (ai × Addr × Value))(ep:Nat):HO:=.ext λh=>eM h a (xs.map iX).toArray ep
def cG(H:Hp)(k:ai)(p:Addr):Prop:=∃b,H p=some (.tup [.int k.1,.ref b])/\H b=some (.tup (k.2.map V.int))
abbrev KN:List (ai × Addr × V)->List (ai × Addr × Value)->Prop:=Paired λp q=>p.1=q.1/\p.2.1=q.2.1/\ax p.2.2 q.2.2
structure DN (H:Hp) (a:Addr) (kvs:List (ai × Addr × V)):Prop where
 ex:∃xs ep,H a=some (iT a xs ep)/\KN kvs xs
 key:∀x∈kvs,cG H x.1 x.2.1
 nd:(kvs.map (·.1)).Nodup
 le:kvs.length<=sizeLine
def cG.same{H H':Hp}{k:ai}{p:Addr}(s:af H H')(h:cG H k p):cG H' k p:=by
 obtain⟨b,c,a⟩:=h;exact⟨b,s _ _ c,s _ _ a⟩
def DN.same{H H':Hp}{a:Addr}{kvs:List (ai × Addr × V)}(s:af H H')(d:DN H a kvs):DN H' a kvs:=by
 obtain⟨⟨xs,ep,c,b⟩,k,n,l⟩:=d
 exact⟨⟨xs,ep,s _ _ c,b⟩,λx hx=>(k x hx).same s,n,l⟩
def cH(kvs:List (ai × Addr × V))(k:ai):Option V:=(kvs.find? λx=>decide (x.1=k)).map (·.2.2)
def gp(kvs:List (ai × Addr × V))(k:ai)(b:Addr)(v:V):List (ai × Addr × V) :=
 if (cH kvs k).isSome then kvs.map (λx=>if x.1=k then (x.1,x.2.1,v) else x) else kvs++[(k,b,v)]
def KN.val{kvs:List (ai × Addr × V)}{xs:List (ai × Addr × Value)}(r:KN kvs xs)(k:ai):cg (cH kvs k) ((atKey xs k).map (·.2)):=by
 induction r with
 | nil=>exact True.intro
 | @cons p q ps qs h t ih =>
  obtain⟨d,_,f⟩:=h;by_cases e:p.1=k
  ·have a:q.1=k:=d.symm.trans e;have b:atKey (q::qs) k=some q.2:=by simp[atKey,OR,a]
   have c:cH (p::ps) k=some p.2.2:=by simp[cH,OR,e]
   rw[b,c];exact f
  ·have a:¬q.1=k:=λz=>e (d.trans z);have b:atKey (q::qs) k=atKey qs k:=by simp[atKey,OR,a]
   have c:cH (p::ps) k=cH ps k:=by simp[cH,OR,e]
   rw[b,c];exact ih
def KN.put{kvs:List (ai × Addr × V)}{xs:List (ai × Addr × Value)}(r:KN kvs xs)(k:ai){b:Addr}{y:V}{u:Value}(c:ax y u):KN (gp kvs k b y) (storedH xs k b u):=by
 have e:(cH kvs k).isSome=(atKey xs k).isSome:=by rw[(r.val k).isSome_eq,PQ]
 unfold gp storedH;rw[e]
 split
 ·induction r with
  | nil=>exact .nil
  | @cons p q ps qs h t ih =>
   rw[OD,OD];have all:∀ {l m},KN l m->KN (l.map λx=>if x.1=k then (x.1,x.2.1,y) else x) (m.map (putAt k u)):=by
    intro l m r
    induction r with
    | nil=>exact .nil
    | @cons p q ps qs h t ih =>
     rw[OD,OD];refine .cons ?_ ih;obtain⟨a,d,f⟩:=h;unfold putAt;by_cases z:p.1=k
     ·rw[Sc z,Sc (a.symm.trans z)];exact⟨a,d,c⟩
     ·rw[Sb z,Sb (λy=>z (a.trans y))];exact⟨a,d,f⟩
   exact all (.cons h t)
 ·exact Paired.snoc r ⟨rfl,rfl,c⟩
def KN.keys{kvs:List (ai × Addr × V)}{xs:List (ai × Addr × Value)}(r:KN kvs xs):kvs.map (·.1)=xs.map (·.1):=by
 induction r with
 | nil=>rfl
 | cons h t ih=>rw[OD,OD,ih,h.1]
theorem y6:∀ {kvs:List (ai × Addr × V)} {xs:List (ai × Addr × Value)},KN kvs xs->∀ {i:Nat} {a:ai × Addr × V} {b:ai × Addr × Value},kvs[i]? = some a->xs[i]? = some b->a.1=b.1/\a.2.1=b.2.1/\ax a.2.2 b.2.2
 | _,_,.nil,_,_,_,h,_=>by simp at h
 | _,_,.cons r t,0,_,_,h,h'=>by simp at h h';subst h;subst h';exact r
 | _,_,.cons r t,i+1,_,_,h,h'=>y6 t (i:=i) (by simpa using h) (by simpa using h')
def ES(kvs:List (ai × Addr × V))(k:ai)(b:Addr)(v:V):∀x∈gp kvs k b v,(∃y∈kvs,y.1=x.1/\y.2.1=x.2.1)\/x=(k,b,v):=by
 intro x hx;unfold gp at hx
 split at hx
 ·obtain⟨y,hy,rfl⟩:=Oq.mp hx;refine .inl ⟨y,hy,?_⟩
  split<;>exact⟨rfl,rfl⟩
 ·rcases Os.mp hx with z|z
  ·exact .inl ⟨x,z,Z,Z⟩
  ·exact .inr (Op.mp z)
def ER(kvs:List (ai × Addr × V))(k:ai)(b:Addr)(v:V):(gp kvs k b v).length<=kvs.length+1:=by
 unfold gp
 split<;>simp
def nZ{P:Program}{w:World}{H:Hp}{h:Heap}{k:ai}{p:Addr}(ok:bn P w H h)(e:cG H k p):dD P w h k p:=by
 obtain⟨b,s,j⟩:=e;obtain⟨_,g,r,o,u,m,n,v⟩:=(show bd P w H h p (.tup [.int k.1,.ref b]) from ok p _ s);obtain⟨_,d,l,f,i,q,y,x⟩:=(show bd P w H h b (.tup (k.2.map V.int)) from ok b _ j);cases r with
 | cons c r=>cases r with
  | cons c2 r=>cases r with
   | nil =>
    obtain⟨t,rfl⟩:=c;cases c2;refine⟨o,t,b,n,u,m,v,f,d.toArray,y,i,q,x,?_⟩;have all:∀ {ks:List Int} {us:List Value},ay (ks.map V.int) us->ItemsAre (intKind P w) ks us:=by
     intro ks
     induction ks with
     | nil=>intro us r;cases r;exact .nil
     | cons k ks ih =>
      intro us r;cases r with
      | cons a b =>
       obtain⟨t,rfl⟩:=a;exact .cons (by exact beq_self_eq_true k) (ih b)
    simpa using all l
section
variable {X:Cx}{pins:List (Addr × Obj)}{σ:St}{H:Hp}{s:Shared}{a b:Addr}{kvs:List (ai × Addr × V)}{k:ai}{v:V}{A:Around}{E:Value->Shared->Prop}
def jv(I:ae X pins σ H s)(d:DN H a kvs):∃xs ep,H a=some (iT a xs ep)/\KN kvs xs/\eM s.heap a (xs.map iX).toArray ep/\s.heap.DictOfH (jP X.prog X.w) a xs:=by
 obtain⟨⟨xs,ep,c,b⟩,f,nd,le⟩:=d;obtain⟨r,_⟩:=I.hok a _ c;obtain⟨o,i,g,j⟩:=r.obj;refine⟨xs,ep,c,b,r,o,_,ep,i,g,j,by rw[xn],λx hx=>?_,by rw[<- b.keys];exact nd⟩;have all:∀ {l m},KN l m->(∀x∈l,cG H x.1 x.2.1)->∀x∈m,dD X.prog X.w s.heap x.1 x.2.1:=by
  intro l m r
  induction r with
  | nil=>intro _ x hx;cases hx
  | @cons p q ps qs h t ih =>
   intro e x hx;rcases OT.mp hx with z|z
   ·subst z;rw[<- h.1,<- h.2.1];exact nZ I.hok (e p (OP ..))
   ·exact ih (λy hy=>e y (OQ _ hy)) x z
 exact all b f x hx
def K6{Q:Value->Shared->Prop}(m:A.units+16<cLine)(I:ae X pins σ H s)(d:DN H a kvs)(i:cG H k b)(e:cH kvs k=some v)(q:∀c s',ae X pins σ H s'->ax v c->Q c s'):wpAny (model X.prog X.w) A (getItem (.ref a) (.ref b)) Q E s:=by
 obtain⟨xs,ep,n,j,r,h⟩:=jv I d;obtain⟨c,hw,f⟩:=cg.some_of (v:=v) (o:=(atKey xs k).map (·.2)) (by rw[<- e];exact j.val k);obtain⟨p,l,g⟩:=OS.mp hw;refine wpAny_getItem_heap (knd:=jP X.prog X.w) (by show A.units+1+8<cLine;omega) (nZ I.hok i) h l ?_;rw[g];exact q c _ (I.tok _) f
def K5 {d0:V} {c:Value} {Q:Value->Shared->Prop} (i:A.units+16<cLine) (I:ae X pins σ H s) (d:DN H a kvs) (h:cG H k b) (f:ax d0 c) (q:∀w' s',ae X pins σ H s'->ax ((cH kvs k).getD d0) w'->Q w' s'):wpAny (model X.prog X.w) A (call (.builtin "dict.get") [.ref a,.ref b,c]) Q E s:=by
 obtain⟨xs,ep,j,g,r,e⟩:=jv I d;refine call_meetsIn Qj e.typeIs QZ (PySem.F.args_dict_get_3 _ _ _) (meetsH_dict_get_default (jP X.prog X.w) a b r.big c) ⟨by show A.units+1+8<cLine;omega,k,xs,nZ I.hok h,e,q _ _ (I.tok _) ?_⟩;exact (g.val k).getD f
def K4{u:Value}{Q:Unit->Shared->Prop}(hu:A.units+16<cLine)(I:ae X pins σ H s)(d:DN H a kvs)(B:cG H k b)(W:kvs.length<sizeLine)(n:ax v u)(q:∀H' s',ae X pins σ H' s'->DN H' a (gp kvs k b v)->(∀c,c≠a->H' c=H c)->Q () s'):wpAny (model X.prog X.w) A (setItem (.ref a) (.ref b) u) Q E s:=by
 obtain⟨xs,ep,G,j,r,L⟩:=jv I d;have hz:xs.length<=sizeLine:=by rw[<- Paired.length j];exact d.le
 refine wpAny_setItem_heap (hsz:=hz) (knd:=jP X.prog X.w) (by show A.units+1+8<cLine;omega) (nZ I.hok B) L λh' i U=>?_;obtain⟨o,es,e,g,S,O,p,e5,J⟩:=i;have D:∀c m,H c=some (.tup m)->c≠a:=λc m z y=>by subst y;rw[G]at z;cases z
 have h:es=((storedH xs k b u).map iX).toArray:=by
  rw[xn]at p;rw[<- p,QD]
 have M:ae X pins σ (upd H a (iT a (storedH xs k b u) e)) { s with heap:=h',toks:=s.toks+(jP X.prog X.w).draws k }:=by
  refine nj I (by rw[G];exact True.intro) U ⟨o,g⟩ ⟨⟨r.big,o,g,S,by rw[O,h]⟩,⟨o,g⟩,λV Y f N=>f.to N⟩
 refine q _ _ M ⟨⟨_,e,aP,j.put k n⟩,λx hx=>?_,?_,?_⟩ λc R=>am R
 ·have l:cG H x.1 x.2.1:=by
   rcases ES kvs k b v x hx with ⟨y,hy,z1,z2⟩|z
   ·rw[<- z1,<- z2];exact d.key y hy
   ·rw[z];exact B
  obtain⟨c,F,C⟩:=l;exact⟨c,by rw[am (D _ _ F)];exact F,by rw[am (D _ _ C)];exact C⟩
 ·rw[(j.put k n).keys];exact J
 ·have:=ER kvs k b v;omega
end
def Hx:TE:=λ_ H Q=>∀p H',aZ H p (iT p [] 0) H'->Q (.ref p) H'
def DN.new{H H':Hp}{p:Addr}(g:aZ H p (iT p [] 0) H'):DN H' p []:=⟨⟨[],0,g.at_,.nil⟩,λ_ hx=>(nomatch hx),PR,Ox _⟩
def Cq(e ty:TE):TE:=λσ H Q=>e σ H λx d=>ty σ d λy c=>∃a b kvs k v,x=.ref a/\y=.ref b/\DN c a kvs/\cG c k b/\cH kvs k=some v/\Q v c
def Cp(g ty e:TE):TE:=λσ H Q=>g σ H λx d=>∃a kv0,x=.ref a/\DN d a kv0/\ty σ d λy f=>e σ f λz c=>∃b kvs k,y=.ref b/\DN c a kvs/\cG c k b/\Q ((cH kvs k).getD z) c
def DS(h ty f:TE):TS:=λD σ H=>f σ H λv g=>h σ g λx e=>ty σ e λy d=>∃a b kvs k,x=.ref a/\y=.ref b/\DN d a kvs/\cG d k b/\kvs.length<sizeLine/\∀H4,DN H4 a (gp kvs k b v)->(∀c,c≠a->H4 c=d c)->D.nx σ H4
def mv(d:Addr)(o:HO)(kvs:List (ai × Addr × V)):It :=
 ⟨λi H=>H d=some o/\i<kvs.length,λi H x H'=>H'=H/\∃k b v,kvs[i]? = some (k,b,v)/\x=.ref b,λi H=>H d=some o/\kvs.length<=i⟩
def Ir(b:TE):TI:=λσ H R=>b σ H λx a=>∃d kvs,x=.ref d/\DN a d kvs/\∀o,a d=some o->R (mv d o kvs) a
def Kz:List V->Hp->VK->Prop:=λus H Q=>∃a kvs,us=[.ref a]/\DN H a kvs/\∀p H',aZ H p (.lst (kvs.map λx=>V.ref x.2.1)) H'->Q (.ref p) H'
def B4{P:Program}{w:World}{K:W.Frag}{Y:Expr}(d it:Addr)(xs:List (ai × Addr × Value))(ep:Nat)(kvs:List (ai × Addr × V))(q:KN kvs xs):d7 P w K Y (mv d (iT d xs ep) kvs) [it] it (λi h=>h.IsKeyIter it d i (xs.map iX).toArray.size ep) where
 mem:=by simp
 obj:=λi h st b f=>by
  have e:b=it:=by simpa using f
  subst e;obtain⟨o,e,c,d⟩:=st;exact⟨o,e,λv z=>by rw[d]at z;cases z⟩
 keep:=λi h h' st k=>st.at λo e=>k it (by simp) o e
 item:=by
  intro X hP hw hK J i a s σ H E I m st B;subst hP hw hK;obtain⟨C,L⟩:=B;obtain⟨r,_⟩:=I.hok d _ C;obtain⟨D,x,M,n,F,p⟩:=m it (by simp);have R:=Paired.length q;obtain⟨⟨k,b,v⟩,g⟩:∃y,kvs[i]? = some y:=⟨_,OF L⟩;obtain⟨⟨U,b',u⟩,j⟩:∃y,xs[i]? = some y:=⟨_,OF (by omega)⟩;obtain⟨z1,z2,z3⟩:=y6 q g j;have G:b=b':=z2;subst G;refine xO (e:=iX (U,b,u)) st r (by rw[Pn,Ov,j];rfl) λh' l O=>?_;have N:ae X a σ H { s with heap:=h' }:=I.turned (t':=s.toks) (λb o f e=>(O.2 b f).trans e) D x n F p;obtain⟨o,e,c,S⟩:=id l;exact⟨.ref b,rfl,hX (s:={ s with heap:=h' }) e c S (by decide) ⟨.ref b,H,N,rfl,⟨rfl,k,b,v,g,rfl⟩,l,λb f=>(m b f).1⟩⟩
 done:=by
  intro X hP hw hK J i a s σ H E I m st B;subst hP hw hK;obtain⟨C,L⟩:=B;obtain⟨r,_⟩:=I.hok d _ C;obtain⟨D,x,M,n,F,p⟩:=m it (by simp);have R:=Paired.length q;exact xP (I.ok.hd J) st r (by simp;omega) λh' eb=>⟨rfl,I.turned (t':=s.toks) (λb o f e=>eb b o f e) D x n F p⟩
 self:=λ_ _ _ _ _ st h=>wpAny_pyIter_keyiter st h
def DY {P:Program} {w:World} (d:Addr) (es:Array DictEntry) (ep:Nat):W.KdlSrc P w "dict" d d es.size (λi v=>∃e,es[i]? = some e/\v=e.key) (λh=>eM h d es ep) where
 type:=λ_ r=>r.ty
 there:=λ_ r=>⟨r.lt,r.lt⟩
 keep:=λ_ _ r k=>r.to λo e=>k d (.inl rfl) o e
 notList:=by decide
 notTuple:=by decide
 hint:=λ_ _ _ _ r q=>W.kdl_hint_dict r.ty q
 iter:=λA s m r=>⟨_,λi h=>h.IsKeyIter s.heap.objs.size d i es.size ep/\eM h d es ep,(λ_ _ q=>xN r q),{
  sub:=λb a=>by simp at a;simp[a]
  frame:=λ_ _ _ st j=>⟨st.1.at λo e=>j _ (by simp) o e,st.2.to λo e=>j d (by simp) o e⟩
  item:=λi s1 Q E n st hQ=>by
   obtain⟨e,g⟩:∃e,es[i]? = some e:=⟨_,Array.getElem?_eq_getElem n⟩;refine xO st.1 st.2 g λh' c f=>hQ _ h' s1.toks ⟨e,g,rfl⟩ ⟨c,st.2.to λo z=>(f.2 d (OC r.lt)).trans z⟩ λb o a z=>(f.2 b (λy=>a (by simp[y]))).trans z
  done:=λs1 Q E st hQ=>xP m st.1 st.2 (Oo _) λh' l=>hQ h' s1.toks λb o a z=>l b o (λy=>a (by simp[y])) z
  self:=λ_ _ _ _ st q=>wpAny_pyIter_keyiter st.1 q },⟨⟨_,OB _ rfl,rfl,rfl⟩,r.to λo e=>Ow _ e⟩⟩
section
variable {X:Cx}{K:W.Frag}{o i e f value tg l:Expr}{td ty tx tv tl:TE}{pos pos' apos cpos:Pos}
def x4:QE X (.Dict [] [] pos) Hx:=⟨λb s σ H Q I h=>by
 refine wpAny_Dict_empty ⟨.ref s.heap.objs.size,_,I.laid (a:=s.heap.objs.size) (o:=iT s.heap.objs.size [] 0) (t':=s.toks) (λ_ _ q=>Ow _ q) (Oo _) ?_,Z,h _ _ (.mk' (I.hok.fresh (Oo _)))⟩;refine⟨⟨beq_eq_false_iff_ne.mpr (Ne.symm (OC I.big)),_,OB _ rfl,⟨rfl,rfl,rfl⟩,rfl⟩,⟨_,OB _ rfl⟩,λd e f c=>f.to c⟩⟩
def EF(O:X.A.units+64<cLine)(z:QE X o td)(L:QE X i ty)(J:mn i:=by intro _ _;rfl):QE X (.Subscript o i pos) (Cq td ty):=⟨λc s σ H Q I h=>by
 refine nY Qv.lookup J (ap (z.h c s σ H _ I h) λu s1 ⟨x,q,p,D,F⟩=>ap (L.h c s1 σ q _ p F) λm N ⟨y,G,f,j,a,b,kvs,k,v,ex,g,d,C,n,l⟩=>?_);subst ex g;obtain rfl:u=Value.ref a:=D;obtain rfl:m=Value.ref b:=j;obtain⟨xs,ep,_,_,r,_⟩:=jv f d;exact⟨r.ty,K6 (by omega) f d C n λR M B e=>⟨v,G,B,e,l⟩⟩⟩
def EG (hu:X.A.units+64<cLine) (M:QE X o td) (he:QE X e ty) (S:QE X f tx) (W:attributeBase o "get" X.env (eval o X.env)=eval o X.env:=by rfl)
 (hw:((backTo cpos (starEach [e,f] X.env)).all (λx=>!x.1) && (backToKw cpos (keywordEach [] X.env)).all (λx=>x.1.isSome)
   && decide (([e,f]:List Expr).length+([]:List Keyword).length+(if ([]:List Keyword).isEmpty then 0 else 1)<30))=true:=by rfl)
 (G:(apos.endLine == cpos.line)=true:=by rfl) (m:backTo cpos (starEach [e,f] X.env)=[(false,eval e X.env),(false,eval f X.env)]:=by rfl) :
 QE X (.Call (.Attribute o "get" apos) [e,f] [] cpos) (Cp td ty tx):=⟨λc s σ H Q I h=>by
 refine wpAny_Call_method W hw G PU Qj RA (ap (M.h c s σ H _ I h) λu s1 ⟨x,D,i,U,a,N,ex,d,V⟩=>?_);subst ex;obtain rfl:u=Value.ref a:=U;obtain⟨xs,ep,_,_,r,_⟩:=jv i d;refine⟨r.ty,λb z=>?_,?_⟩
 ·cases z;obtain⟨l,j,e2,_⟩:=r.obj;exact⟨l,j,e2.2.1⟩
 rw[m];refine Calls.callWith_builtin Z (Calls.evalArgs_plain (Calls.spliced_cons (ap (he.h c s1 σ D _ i V) λB C ⟨y,Y,L,p,v⟩ =>
  Calls.spliced_cons (ap (S.h c C σ Y _ L v) λfv s3 ⟨z,J,O,F,b,kvs,k,n,d3,R,q⟩=>Calls.spliced_nil ?_))))
 subst n;obtain rfl:B=Value.ref b:=p;exact K5 (by omega) O d3 R F λw' s4 I4 g=>⟨_,J,I4,g,q⟩⟩
def x6(hu:X.A.units+64<cLine)(G:QE X o td)(U:QE X i ty)(q:QE X value tv)(S:swapsWith value (some (.Subscript o i pos')) pos.line X.env=pure false:=by rfl):QS X (.Assign [.Subscript o i pos'] value pos) (DS td ty tv):=⟨λc s σ H D I h=>by
 refine wpAny_Assign_Subscript (ap (q.h c s σ H _ I h) λr s1 ⟨v,C,p,l,N⟩=>ap (G.h c s1 σ C _ p N) λu B ⟨x,O,F,M,m⟩=>ap (U.h c B σ O _ F m) λn W ⟨y,Y,J,g,a,b,kvs,k,ex,f,d,L,lt,j⟩=>?_) S;subst ex f;obtain rfl:u=Value.ref a:=M;obtain rfl:n=Value.ref b:=g;exact K4 (by omega) J d L lt l λe V R z k4=>⟨σ,e,R,j e z k4⟩⟩
def Et(n:QE X l tl):QI X tg l (Ir tl):=⟨λa s σ H R I h=>by
 refine ap (n.h a s σ H _ I h) λv s1 ⟨x,m,c,k,d,kvs,ex,f,q⟩=>?_;subst ex;obtain rfl:v=Value.ref d:=k;obtain⟨xs,ep,j,i,r,_⟩:=jv c f;refine xN r ?_;refine⟨s1.heap.objs.size,[s1.heap.objs.size],_,mv d (iT d xs ep) kvs,m,Z,c.kept (t':=s1.toks) λb o e=>Ow _ e,B4 d _ xs ep kvs i,⟨_,OB _ Z,Z,Z⟩,λb g=>?_,q _ j⟩;have e:b=s1.heap.objs.size:=by simpa using g
 subst e;exact c.fpOk (Oo _) (c.hok.fresh (Oo _))⟩
def KK{d:Addr}{o:HO}{kvs:List (ai × Addr × V)}{g:TG}{tb:TS}{D:dG}{σ:St}{H:Hp}(a:Nat->St->Hp->Prop)(j:a 0 σ H)(r:∀i σ H,i<=kvs.length->a i σ H->H d=some o)
 (n:∀i k b v σ H,kvs[i]? = some (k,b,v)->a i σ H->g (.ref b) σ H λh c=>tb { D with nx:=a (i+1),ct:=a (i+1),bk:=D.nx } h c) (hd:∀σ H,a kvs.length σ H->D.nx σ H) :
 ∃W:Nat->Nat->St->Hp->Prop,(∃m,W 0 m σ H)/\∀i m σ H,W i m σ H ->
  ((mv d o kvs).stop i H/\D.nx σ H)\/((mv d o kvs).go i H/\∃N:St->Hp->Prop,(∀f H',N f H'->∃m',m'<m/\W (i+1) m' f H')/\∀x H',(mv d o kvs).yld i H x H'->g x σ H' λh c=>tb { D with nx:=N,ct:=N,bk:=D.nx } h c):=by
 refine⟨λi m σ H=>m=kvs.length-i/\i<=kvs.length/\a i σ H,⟨kvs.length,by simp,Ox _,j⟩,?_⟩;rintro i m σ H ⟨rfl,s,p⟩;have q:=r i σ H s p;by_cases hlt:i<kvs.length
 ·refine .inr ⟨⟨q,hlt⟩,a (i+1),λf H' l=>⟨kvs.length-(i+1),by omega,rfl,hlt,l⟩,λx H' y=>?_⟩;obtain⟨rfl,k,b,v,y,rfl⟩:=y;exact n i k b v σ H' y p
 ·have e:i=kvs.length:=by omega
  subst e;exact .inl ⟨⟨q,Oo _⟩,hd σ H p⟩
def LM (O:X.calm=true):bV X (.type "list") Kz:=by
 intro C s σ H us vs Q I r q;obtain⟨a,kvs,rfl,d,q⟩:=q;cases r with
 | cons r1 r2=>cases r2 with
  | nil =>
   cases r1;obtain⟨xs,ep,S,D,B,_⟩:=jv I d;have F:=Paired.length D;have sz:(xs.map iX).toArray.size=kvs.length:=by simp[F]
   refine W.kdl_call (DY a _ ep) (I.ok.hd O) B (by rw[sz];exact d.le) λh' R f c N hD J=>?_;have M:=I.hok.fresh (Oo s.heap.objs.size);refine⟨.ref s.heap.objs.size,upd H s.heap.objs.size (.lst (kvs.map λx=>V.ref x.2.1)),I.laid (a:=s.heap.objs.size) (o:=.lst (kvs.map λx=>V.ref x.2.1)) (t':=R) N (Oo _) ⟨by rw[On];exact d.le,f.toList,c,?_,by rw[QD];exact hD⟩,Z,q _ _ (.mk' M)⟩;obtain⟨k,y⟩:=J;have go:∀(m:List (ai × Addr × V)) (i:List (ai × Addr × Value)) (us:List Value) (_:KN m i) (_:us.length=i.length) (_:∀(j:Nat) (v:Value),us[j]? = some v->∃z:ai × Addr × Value,i[j]? = some z/\v=Value.ref z.2.1),ay (m.map λx=>V.ref x.2.1) us:=by
    intro m i us L
    induction L generalizing us with
    | nil =>
     intro l _;obtain rfl:=Qn l;exact .nil
    | @cons p q ps qs h t ih =>
     intro l G;cases us with
     | nil=>simp at l
     | cons u us =>
      obtain⟨z,b,g⟩:=G 0 u rfl;simp at b;subst b;refine .cons ?_ (ih us (by simpa using l) λj v n=>?_)
      ·rw[g];show Value.ref q.2.1=Value.ref p.2.1;rw[h.2.1]
      ·obtain⟨z,b,g⟩:=G (j+1) v (by simpa using n);exact⟨z,by simpa using b,g⟩
   refine go kvs xs f.toList D (by rw[Pz,k,sz,F]) λj v n=>?_;obtain⟨e,b,g⟩:=y j v (by rw[<- Qw];exact n);rw[Pn,Ov]at b;obtain⟨z,z1,z2⟩:=OS.mp b;exact⟨z,z1,by rw[g,<- z2];rfl⟩
end
section
variable {prog:Program}{w:World}{A:Around}{E:Value->Shared->Prop}{s:Shared}
def LC{t b:Addr}{c:Array Value}{Q:Value->Shared->Prop}(i:IsTup s.heap t #[])(j:IsTup s.heap b c)(q:Q (.ref b) s):wpAny (model prog w) A (binaryOp .Add (.ref t) (.ref b)) Q E s:=by
 obtain⟨⟨l,d1,o,l1⟩,f,z1,h,a⟩:=i;obtain⟨⟨n,d2,m,g⟩,d,z2,k,e⟩:=j;simp only at z1 a z2 e;subst z1 a z2 e;exact concat_meets ⟨_,f,Z⟩ ⟨_,d,Z⟩ noFill_tuple_add seq_tuple_add Q0 Q1 (Q2 _ _) (tuple_addW0 t b #[] c h k d1 d2 l1 g Z) ⟨f,d,q⟩
end
def KE(K:W.Frag):R2:=λx y H Q=>∃a b xs ys,x=.ref a/\y=.ref b/\H a=some (.tup xs)/\H b=some (.tup ys)/\xs.length+ys.length<=sizeLine/\∀p H',af H H'->H' p=some (.tup (xs++ys))->Q (.ref p) H'
def nM(K:W.Frag)(a:Addr)(n:Nat):It :=
 ⟨λi H=>∃xs,aJ K H a xs/\xs.length=n/\i<n,λi H x H'=>H'=H/\∀xs,aJ K H a xs->xs.length=n->xs.reverse[i]? = some x,λi H=>∃xs,aJ K H a xs/\xs.length=n/\n<=i⟩
def Im(K:W.Frag)(c:TA):TI:=λσ H R=>c σ H λvs b=>∃a xs,vs=[.ref a]/\aJ K b a xs/\R (nM K a xs.length) b
def BT{P:Program}{w:World}{K:W.Frag}{tg:Expr}(a it:Addr)(n:Nat)(ne:a≠it):d7 P w K tg (nM K a n) [it] it (λi h=>i<=n/\h.IsRevIter it a ((n:Int)-1-(i:Int))) where
 mem:=by simp
 obj:=λi h st b m=>by
  have e:b=it:=by simpa using m
  subst e;obtain⟨_,o,e,c,d⟩:=st;exact⟨o,e,λv z=>by rw[d]at z;cases z⟩
 keep:=λi h h' st k=>⟨st.1,st.2.at λo e=>k it (by simp) o e⟩
 item:=by
  intro X hP hw hK M i j s σ H E I r st G;subst hP hw hK;obtain⟨xs,x,rfl,S⟩:=G;obtain⟨g,q,p,hz⟩:=I.list x;obtain⟨J,F,U,y,N,B⟩:=r it (by simp);have D:=q.length;have W:=Walks.listRev (prog:=X.prog) (w:=X.w) (I.ok.hd M) it a ne g.toArray;have sz:g.toArray.size=xs.length:=by rw[OE];exact D.symm
  refine W.item i s _ _ (by rw[sz];exact S) ⟨by rw[sz];exact st.1,by rw[sz];exact st.2,p.isList⟩ λv h' R C O L=>?_;have Y:ae X j σ H { s with heap:=h',toks:=R }:=I.turned (λb o m e=>L b o (by simpa using m) e) J F y N B;obtain⟨l,f,_⟩:=O;rw[sz]at l f C;obtain⟨o,e,c,d⟩:=id f;have hx:xs[xs.length-1-i]? = some (xs[xs.length-1-i]'(by omega)):=OF _;obtain⟨u,hu,ru⟩:=q.get hx;have V:v=u:=by
   rw[Pn,hu]at C;exact (OI C).symm
  subst V;refine⟨v,rfl,hX (s:={ s with heap:=h',toks:=R }) e c d (by decide) ⟨_,H,Y,ru,⟨rfl,λys hy ly=>?_⟩,⟨l,f⟩,λb m=>(r b m).1⟩⟩;rw[I.list_inj hy x,RN S];exact hx
 done:=by
  intro X hP hw hK M i j s σ H E I r st G;subst hP hw hK;obtain⟨xs,x,rfl,S⟩:=G;obtain⟨g,q,p,hz⟩:=I.list x;obtain⟨J,F,U,y,N,B⟩:=r it (by simp);have D:=q.length;have W:=Walks.listRev (prog:=X.prog) (w:=X.w) (I.ok.hd M) it a ne g.toArray;have sz:g.toArray.size=xs.length:=by rw[OE];exact D.symm
  obtain⟨l,f⟩:=st;have ei:i=xs.length:=by omega
  rw[ei]at f;exact W.done s _ _ ⟨Oo _,by rw[sz];exact f,p.isList⟩ λh' R L=>⟨rfl,I.turned (λb o m e=>L b o (by simpa using m) e) J F y N B⟩
 self:=λ_ _ _ _ _ st h=>wpAny_pyIter_revIter st.2 h
section
variable {X:Cx}{K:W.Frag}{a e tg:Expr}{ta:TA}{te:TE}{p pos pos':Pos}
def Ko(h:X.K=K):aM X (binaryOp .Add) (KE K):=by
 subst h;intro c s σ H x y v u Q I g i q;obtain⟨a,b,xs,k,rfl,rfl,e,d,hz,q⟩:=q;by_cases hx:xs=[]
 ·subst hx;cases g;cases i;obtain⟨j,o,m,_⟩:=I.tuple (.of e);obtain⟨f,r,n,_⟩:=I.tuple (.of d);cases o;exact LC m n ⟨.ref b,H,I,Z,q b H (af.refl _) d⟩
 ·refine Gu c s σ H _ _ v u Q I g i ⟨a,b,xs,k,Z,Z,.of e,.of d,hx,hz,λz=>?_,λ_ l p=>q l _ (af.new p) aP⟩;subst z;exact q a H (af.refl _) (by rw[Pg];exact e)
def Ei{i:Nat}{x:Str}(hN:X.N.Nodup)(g:X.N[i]? = some x)(hx:gM X.env.scope x)(c:QE X e te)(b:X.fn x=true\/X.env.scope.names.lookup x=some .local:=by first|exact .inl rfl|exact .inr rfl|assumption):QS X (.AugAssign (.Name x pos') .Sub e pos) (xi i te (gc λi j=>.int (i-j))):=⟨Ff hN g hx c.h (λa s σ H x y v u Q I d f q=>zd a s σ H x y v u Q I d f q) b⟩
def En (h:X.K=K) (k:Gl X "reversed") (x:X.mg "reversed" = none) (v:QA X [a] ta) (n:dY a=false:=by rfl):QI X tg (.Call (.Name "reversed" p) [a] [] pos) (Im K ta):=⟨by
 subst h;intro c s σ H R I h;have g:starEach [a] X.env=[(false,eval a X.env)]:=dH n;refine Call_ (hJ I k x boot_reversed (Qg (ap (v.h pos c s σ H _ I h) λus s1 ⟨vs,i,f,z,y⟩=>?_) g Z));obtain⟨l,xs,rfl,m,q⟩:=y;cases z with
 | cons r rr =>
  cases rr;cases r;obtain⟨d,C,pl,hz⟩:=f.list m;have u:=C.length;have sz:d.toArray.size=xs.length:=by rw[OE];exact u.symm
  have ll:l<s1.heap.objs.size:=by obtain⟨o,_,e,_⟩:=pl;exact Oy e
  refine call_reversed_list pl.isList ?_;have j:ae X c σ i { s1 with heap:=s1.heap.push (revObj l ((d.toArray.size:Int)-1)) }:=f.kept (t':=s1.toks) λb o e=>Ow _ e;refine wpAny_pyIter_revIter ⟨_,OB _ Z,Z,Z⟩ ⟨s1.heap.objs.size,[s1.heap.objs.size],_,_,i,Z,j,BT l _ xs.length (OC ll),⟨Ox _,?_⟩,λb B=>?_,q⟩
  ·refine⟨_,OB _ Z,Z,?_⟩;rw[sz];simp[revObj]
  ·have e:b=s1.heap.objs.size:=by simpa using B
   subst e;exact f.fpOk (Oo _) (f.hok.fresh (Oo _))⟩
def KH{a:Addr}{xs:List V}{g:TG}{tb:TS}{D:dG}{σ:St}{H:Hp}(b:Nat->St->Hp->Prop)(h:b 0 σ H)(l:∀i σ H,i<=xs.length->b i σ H->aJ K H a xs)
 (k:∀i x σ H,xs.reverse[i]? = some x->b i σ H->g x σ H λf c=>tb { D with nx:=b (i+1),ct:=b (i+1),bk:=D.nx } f c) (hd:∀σ H,b xs.length σ H->D.nx σ H) :
 ∃W:Nat->Nat->St->Hp->Prop,(∃m,W 0 m σ H)/\∀i m σ H,W i m σ H ->
  ((nM K a xs.length).stop i H/\D.nx σ H)\/((nM K a xs.length).go i H/\∃N:St->Hp->Prop,(∀d H',N d H'->∃m',m'<m/\W (i+1) m' d H')/\∀x H',(nM K a xs.length).yld i H x H'->g x σ H' λf c=>tb { D with nx:=N,ct:=N,bk:=D.nx } f c):=by
 refine⟨λi m σ H=>m=xs.length-i/\i<=xs.length/\b i σ H,⟨xs.length,by simp,Ox _,h⟩,?_⟩;rintro i m σ H ⟨rfl,n,p⟩;have q:=l i σ H n p;by_cases hlt:i<xs.length
 ·refine .inr ⟨⟨xs,q,rfl,hlt⟩,b (i+1),λd H' j=>⟨xs.length-(i+1),by omega,rfl,hlt,j⟩,λx H' y=>?_⟩;obtain⟨rfl,y⟩:=y;exact k i x σ H' (y xs q Z) p
 ·have e:i=xs.length:=by omega
  subst e;exact .inl ⟨⟨xs,q,Z,Oo _⟩,hd σ H p⟩
end
def uC{K:W.Frag}{d:Addr}{r:Obj}{kvs:List (aw × V)}{cs:St}{u:TT}{C:TE}{H:Hp}{Q:VK}(f:Nat->List V->Hp->Prop)(D:f 0 [] H)(F:∀i a H,i<=kvs.length->f i a H->H d=some (.frz r (.dK kvs))/\a.length<=i)(hz:kvs.length<=sizeLine)
 (I:∀i k v a H H' (N:List V->Hp->Prop),kvs[i]? = some (k,v)->f i a H->af H H'->(∀c H',f (i+1) c H'->N c H')->u (some (kV k)::some v::cs) H' λb s=>if b=true then C (some (kV k)::some v::cs) s λy G=>N (a++[y]) G else N a s)
 (hd:∀a H p H',f kvs.length a H->aZ H p (.lst a) H'->Q (.ref p) H') :
 fU (jF d r kvs) H (List.replicate 2 none++cs) (jp K 2 (gC (bT 0) (gC (bT 1) lX))) u C Q:=by
 refine⟨λi m a σ H=>m=kvs.length-i/\i<=kvs.length/\f i a H/\∃h j,σ=h::j::cs,⟨kvs.length,by simp,Ox _,D,none,none,rfl⟩,?_⟩;rintro i m a σ n ⟨rfl,J,p,h,j,rfl⟩;obtain⟨q,L⟩:=F i a n J p;by_cases hlt:i<kvs.length
 ·refine .inr ⟨⟨q,hlt⟩,by omega,λc o H'=>f (i+1) c H'/\∃h j,o=h::j::cs,λc o H' ⟨l,e⟩=>⟨kvs.length-(i+1),by omega,rfl,hlt,l,e⟩,λx H' y=>?_⟩;obtain⟨pp,k,v,rfl,y,B⟩:=y;refine⟨pp,_,Z,B.tup,Z,_,_,Z,_,_,Z,Z,?_⟩;exact I i k v a n H' (λc H'=>f (i+1) c H'/\∃h j,some (kV k)::some v::cs=h::j::cs) y p B.sm λ_ _ z=>⟨z,_,_,Z⟩
 ·have e:i=kvs.length:=by omega
  subst e;exact .inl ⟨⟨q,Oo _⟩,by omega,λl H' g=>hd a n l H' p g⟩
def mq(d:Addr)(a:Obj)(kvs:List (aw × V)):It :=
 ⟨λi H=>H d=some (.frz a (.dK kvs))/\i<kvs.length,λi H x H'=>H'=H/\∃k,kvs[i]? = some (k,x),λi H=>H d=some (.frz a (.dK kvs))/\kvs.length<=i⟩
def KU:entryFor table "dict_valueiterator.__iter__" = some Builtin.«dict_keyiterator.__iter__» :=
 entryFor_alias (id' := "dict_keyiterator.__iter__") (by kernel_rfl) rfl (by decide +kernel) (by kernel_rfl)
def BR{P:Program}{w:World}{K:W.Frag}{tg:Expr}(d it:Addr)(D:Obj)(kvs:List (aw × V))(es:Array DictEntry)(ep:Nat)(J:D.data=.dict es ep):d7 P w K tg (mq d D kvs) [it] it (λi h=>h.IsValIter it d i kvs.length ep) where
 mem:=by simp
 obj:=λi h st b g=>by
  have e:b=it:=by simpa using g
  subst e;obtain⟨o,e,c,y⟩:=st;exact⟨o,e,λv z=>by rw[y]at z;cases z⟩
 keep:=λi h h' st k=>by
  obtain⟨o,e,c⟩:=st;exact⟨o,k it (by simp) o e,c⟩
 item:=by
  intro X hP hw hK G i f s σ H E I p st B;subst hP hw hK;obtain⟨C,L⟩:=B;obtain⟨vs,a,x⟩:=pB I C J;have n:=a.length;obtain⟨⟨k,v⟩,j⟩:∃kv,kvs[i]? = some kv:=⟨_,OF L⟩;obtain⟨⟨k',u⟩,r,N,U⟩:∃q,vs[i]? = some q/\k=q.1/\ax v q.2:=by
   obtain⟨q,l⟩:∃q,vs[i]? = some q:=⟨_,OF (by omega)⟩;exact⟨q,l,Paired.nth a j l⟩
  obtain⟨f0,Y,f2,M,f4,O⟩:=p it (by simp);rw[n]at st;refine wpAny_pyNext_values_item st x r λh' m S=>?_;have R:ae X f σ H { s with heap:=h' }:=I.turned (t':=s.toks) (λb o g e=>(S.2 b g).trans e) f0 Y M f4 O;obtain⟨o,e,c,y⟩:=id m;exact⟨u,rfl,hX (s:={ s with heap:=h' }) e c y (by decide) ⟨v,H,R,U,⟨rfl,k,j⟩,by rw[n];exact m,λb g=>(p b g).1⟩⟩
 done:=by
  intro X hP hw hK G i f s σ H E I p st B;subst hP hw hK;obtain⟨C,L⟩:=B;obtain⟨vs,a,x⟩:=pB I C J;have n:=a.length;rw[n]at st;exact wpAny_pyNext_values_end (I.ok.hd G) st x (PV (by omega)) λh' eb=>⟨rfl,I.turnedL (t':=s.toks) (fp:=[it]) (λb o g eo=>eb b o (λz=>g (by simp[z])) eo) p⟩
 self:=λA i s Q E st h=>by
  have hT:=st.typeIs;refine wpAny_pyIter_slot hT RO (wpAny_call_entry RO hT KU ?_ (PySem.F.args_dict_valueiterator_iter_1 _));show wpAny _ _ (ret (.ref it)) _ _ s;exact Sa ⟨_,Z, "dict_valueiterator",_,hT,PySem.F.slot_dict_valueiterator_next.lookup,h⟩
def zf(b:TE):TI:=λσ H R=>b σ H λx a=>∃d kvs,x=.ref d/\a d=some (.dK kvs)/\∀ob,R (mq d ob kvs) (upd a d (.frz ob (.dK kvs)))
section
variable {X:Cx}{o tg:Expr}{apos cpos:Pos}{td:TE}
def Fq (J:PE X o td) (v:attributeBase o "values" X.env (eval o X.env)=eval o X.env) (C:(apos.endLine == cpos.line)=true):PI X tg (.Call (.Attribute o "values" apos) [] [] cpos) (zf td):=by
 intro k s σ H R I h;refine wpAny_Call_method (T := "dict") (id := "dict.values") v Z C PU RP PySem.F.type_dict_values (ap (J k s σ H _ I h) λu s1 ⟨x,U,p,O,d,kvs,ex,hd,q⟩=>?_);subst ex;obtain rfl:u=Value.ref d:=O;obtain⟨z,hdS,vs,i,l⟩:=pJ p.hok hd;refine⟨l.typeIs,l.mapOf.noDict,?_⟩;show wpAny _ _ (callWith cpos (.builtin "dict.values") [.ref d] [] []) _ _ s1;refine method_meetsIn RP PySem.F.entry_dict_values rfl (Qy ⟨rfl,l.typeIs,PySem.F.args_dict_values_1 _,_,meets_dict_values (bX X.prog X.w) d hdS,⟨vs,l⟩,?_⟩);obtain⟨ep,y⟩:=l.dictAt;refine wpAny_pyIter_values (knd:=bX X.prog X.w) (d:=d) (kvs:=vs) (ep:=ep) ⟨_,OB _ Z,Z,Z⟩ (y.push _) ?_;obtain⟨a,j,n,S,B,L⟩:=id y;have hsz:(s1.heap.push { cls:=.type "dict_values",data:=.fields #[.ref d] }).objs.size=s1.heap.objs.size+1:=Pp ..;have k2:∀b o,s1.heap.get? b=some o->((s1.heap.push { cls:=.type "dict_values",data:=.fields #[.ref d] }).push { cls:=.type "dict_valueiterator",data:=.fields #[.ref d,.int 0 0,.int vs.length 0,.int ep 0] }).get? b=some o:=λb o e=>Ow _ (Ow _ e);have G:=p.kept (t':=s1.toks) k2;have g:=k2 d a n;have M:=G.write (x:=d) (e:=d) (o:=.frz a (.dK kvs)) (t':=s1.toks) (by rw[hd];exact True.intro) (.inl Z) (λb u _ e=>e) ⟨a,g⟩ ⟨g,z,hdS,vs,i,a,j,ep,g,S,B,L⟩;have m:s1.heap.objs.size<=(s1.heap.push { cls:=.type "dict_values",data:=.fields #[.ref d] }).objs.size:=by rw[hsz];exact Pk _
 have r:d≠(s1.heap.push { cls:=.type "dict_values",data:=.fields #[.ref d] }).objs.size:=by rw[hsz];exact OC (PF (Oy n))
 refine⟨_,[_],_,mq d a kvs,_,rfl,M,BR d _ a kvs j ep B,⟨_,OB _ rfl,rfl,by rw[i.length];rfl⟩,λb v=>?_,q a⟩;have c:b=(s1.heap.push { cls:=.type "dict_values",data:=.fields #[.ref d] }).objs.size:=by simpa using v
 have D:=p.fpOk (b:=b) (by rw[c];exact m) (p.hok.fresh (by rw[c];exact m));obtain⟨N,f⟩:=D;exact⟨by rw[am (by rw[c];exact r.symm)];exact N,f⟩
def Ek (b:QE X o td) (c:attributeBase o "values" X.env (eval o X.env)=eval o X.env:=by rfl) (a:(apos.endLine == cpos.line)=true:=by rfl):QI X tg (.Call (.Attribute o "values" apos) [] [] cpos) (zf td):=⟨Fq b.h c a⟩
end
section
variable {X:Cx}{pins:List (Addr × Obj)}{σ:St}{H:Hp}{s:Shared}{d:Addr}{ob:Obj}{u:HO}
def ae.thaw(I:ae X pins σ H s)(h:H d=some (.frz ob u))(j:∀o v,X.H₀ d≠some (.frz o v)):ae X pins σ (upd H d u) s:=by
 have a:∀ {b:Addr},H b=none->b≠d:=λ{b} e z=>by rw[z,h]at e;cases e
 have nd:∀ {b:Addr} {v:HO},H b=some v->(∀o w,v ≠ .frz o w)->b≠d:=λ{b v} e k z=>by
  rw[z,h]at e;exact k _ _ (OI e).symm
 obtain⟨i,g⟩:=(show bd X.prog X.w H s.heap d (.frz ob u) from I.hok d _ h);have st:∀ {b:Addr} {v:HO},bd X.prog X.w H s.heap b v->bd X.prog X.w (upd H d u) s.heap b v:=λ{b v} x =>
  x.stay (λc v C r=>r) (λc r=>by rw[am (nd r λo w z=>nomatch z)];exact r) λc xs r=>by rw[am (nd r λo w z=>nomatch z)];exact r
 refine⟨I.ok,I.os,I.bare,⟨I.base.keep,I.base.slot,λb o e n hx=>?_,I.base.there,λb xs e=>?_,λb o v e=>?_,λb ps e=>?_⟩,I.loc,I.cell,?_,λx c e=>?_,λp B=>?_,λb v e=>?_,I.len⟩
 ·have:=I.base.free b o e n hx;rw[am (a this)];exact this
 ·have:=I.base.tups b xs e;rw[am (nd this λo w z=>nomatch z)];exact this
 ·have q:=I.base.frzs b o v e;rw[am (show b≠d from λz=>j o v (by rw[<- z];exact e))];exact q
 ·obtain⟨m,q⟩:=I.base.tbls b ps e;exact⟨m,by rw[am (nd q λo w z=>nomatch z)];exact q⟩
 ·rw[am (a I.free)];exact I.free
 ·rw[am (a (I.freeC x c e))];exact I.freeC x c e
 ·obtain⟨l,f,y⟩:=I.pin p B;exact⟨l,by rw[am (a f)];exact f,y⟩
 ·by_cases z:b=d
  ·subst z;rw[aP]at e;cases e;exact st g
  ·rw[am z]at e;exact st (I.hok b v e)
def wR(t:TE):TE:=λσ H Q=>∃d u,(∀o v,H d≠some (.frz o v))/\t σ H λx H'=>(∃ob,H' d=some (.frz ob u))/\Q x (upd H' d u)
def FG{e:Expr}{t:TE}(h:PE X e t):PE X e (wR t):=by
 intro a s σ H Q I q;obtain⟨d,u,f,q⟩:=q;refine wpAny_mono (h a s σ H _ I q) (λv s1 z=>?_) λ_ _ e=>e;obtain⟨x,i,c,r,⟨g,b⟩,k⟩:=z;exact⟨x,_,c.thaw b λo v e=>f o v (I.base.frzs _ _ _ e),r,k⟩
def rk{e:Expr}{t:TE}(h:QE X e t):QE X e (wR t):=⟨FG h.h⟩
end
end L2
namespace L2
open PySem PySem.Spec PyProof.Rows PySem.W
structure fG (h:Heap) (d:Addr) (es:Array DictEntry) (ep:Nat):Prop where
 big:(d == sysModules)=false
 obj:∃o,h.get? d=some o/\o.ExactDict/\o.data=.dict es ep
section
variable {prog:Program}{w:World}{A:Around}{E:Value->Shared->Prop}{s:Shared}{it d:Addr}{i ep:Nat}{es:Array DictEntry}{ok ov:Value}
def oa{h:Heap}{it:Addr}{vs:Array Value}{c x:Value}{i:Nat}(k:h.get? it=some { cls:=c,data:=.fields vs }):(h.update it (Obj.mapFields (·.setIfInBounds i x))).get? it=some { cls:=c,data:=.fields (vs.setIfInBounds i x) }/\Heap.SameBut it h (h.update it (Obj.mapFields (·.setIfInBounds i x))):=by
 refine⟨?_,O6 ..⟩;rw[Qm _ k (Obj.isFreed_of_fields (Obj.data_mapFields rfl _))]
 rfl
def xR{e:DictEntry}{Q:Option Value->Shared->Prop}(k:IsItemIter s.heap it d i es.size ep ok ov)(r:fG s.heap d es ep)(I:es[i]? = some e)
 (q:∀h',IsItemIterOut h' it d (i+1) es.size ep e.key e.val s.heap.objs.size->h'.get? s.heap.objs.size=some { cls:=.type "tuple",data:=.seq #[e.key,e.val] }->(∀b o,b≠it->s.heap.get? b=some o->h'.get? b=some o)->Q (some (.ref s.heap.objs.size)) { s with heap:=h' }):wpAny (model prog w) A (pyNext (.ref it)) Q E s:=by
 have ty:s.TypeIs (.ref it) "dict_itemiterator":=⟨_,k,rfl⟩;obtain⟨u,p,J,D⟩:=r.obj;unfold pyNext;refine on (wpAny_attempt (wpAny_callSpecial?_slot (name:=Str.ofString "__next__") ty PH (wpAny_call_entry PH ty RQ ?_ (RS _))));refine on (Sa (on (on ?_)))
 first|refine on (wpAny_typeNameOfWhole_itemiter ty (Sa ?_))|refine on (wpAny_typeNameOf_itemiter ty (Sa ?_))
 refine on (wpAny_fieldsOf k Z ?_);simp only [show Builtin.Dict_items.ownsTuple "dict_itemiterator" = true by decide,if_true];show wpAny _ _ (if (Value.ref d == Value.none)=true then _ else _) _ _ _;rw[Sb (by intro z;cases z)];refine on (Sa (on (wpAny_dictEntries p D ?_)));rw[Sb (by simp)];refine on (Sa (on (wpAny_dictEpoch p D ?_)));rw[Sb (by simp)];refine Sa ?_;simp only [show ¬((i:Int)<0) by omega,if_false,OX,I];refine on ?_
 first|refine on (wpAny_typeNameOfWhole_itemiter ty (Sa ?_))|refine on (wpAny_typeNameOf_itemiter ty (Sa ?_))
 refine on (wpAny_isOneOf_itemiter ty ?_);show wpAny _ _ (setField (.ref it) 3 (rawInt ((i:Int)+1)) >>= _) _ _ _;obtain⟨h,f⟩:∃h,h=s.heap.update it (Obj.mapFields (·.setIfInBounds 3 (rawInt ((i:Int)+1)))):=⟨_,rfl⟩;have k1:IsItemIter h it d (i+1) es.size ep ok ov:=by
  rw[f];show _=_;rw[Qm _ k (Obj.isFreed_of_fields (Obj.data_mapFields rfl _))]
  rfl
 have j:Heap.SameBut it s.heap h:=by rw[f];exact O6 ..
 refine on (wpAny_setField k rfl (by simp) ?_);rw[<- f];clear f;have l:(Shared.TypeIs { s with heap:=h } (.ref it) "dict_itemiterator"):=⟨_,k1,rfl⟩;refine on (wpAny_holding (on (wpAny_isOneOf_itemiter (s:={ s with heap:=h }) l ?_)));rw[Sb (by decide)];refine on (wpAny_isOneOf_itemiter (s:={ s with heap:=h }) l ?_);rw[Sb (by decide)];unfold Builtin.Dict_items.pairFromOwner;refine on (wpAny_newTuple ?_ (by show 2<=_;decide));have hz:h.objs.size=s.heap.objs.size:=j.1;obtain⟨a,c⟩:∃a,a=h.push { cls:=.type "tuple",data:=.seq [e.key,e.val].toArray }:=⟨_,rfl⟩;have k2:IsItemIter a it d (i+1) es.size ep ok ov:=by rw[c];exact Ow _ k1
 have G:a.get? s.heap.objs.size=some { cls:=.type "tuple",data:=.seq #[e.key,e.val] }:=by rw[c,<- hz];exact OB _ Z
 have m:∀b o,b≠it->s.heap.get? b=some o->a.get? b=some o:=λb o g z=>by rw[c];exact Ow _ ((j.2 b g).trans z)
 rw[<- c];dsimp only;rw[hz];clear c;unfold Builtin.Dict_items.ownedTupleIsFree;refine on (on (wpAny_field (s:={ s with heap:=a }) (x:=.none) k2 rfl rfl (Sa ?_)));show wpAny _ _ (if true=true then _ else _) _ _ _;rw[Sc rfl];refine on (wpAny_field (s:={ s with heap:=a }) (x:=ok) k2 rfl rfl ?_);refine on (wpAny_field (s:={ s with heap:=a }) (x:=ov) k2 rfl rfl ?_);obtain⟨k3,B⟩:=oa (i:=6) (x:=e.key) k2;refine on (wpAny_setField (s:={ s with heap:=a }) k2 rfl (by simp) ?_);generalize (a.update it (Obj.mapFields (·.setIfInBounds 6 e.key)))=h3 at k3 B ⊢;obtain⟨k4,v⟩:=oa (i:=7) (x:=e.val) k3;refine on (wpAny_setField (s:={ s with heap:=h3 }) k3 rfl (by simp) ?_);generalize (h3.update it (Obj.mapFields (·.setIfInBounds 7 e.val)))=h4 at k4 v ⊢;obtain⟨k5,y⟩:=oa (i:=0) (x:=rawInt (s.heap.objs.size:Nat)) k4;refine on (wpAny_setField (s:={ s with heap:=h4 }) k4 rfl (by simp) ?_);generalize (h4.update it (Obj.mapFields (·.setIfInBounds 0 (rawInt (s.heap.objs.size:Nat)))))=h5 at k5 y ⊢;obtain⟨k6,n⟩:=oa (i:=1) (x:=.bool false) k5;refine on (wpAny_setField (s:={ s with heap:=h5 }) k5 rfl (by simp) ?_);generalize (h5.update it (Obj.mapFields (·.setIfInBounds 1 (.bool false))))=h6 at k6 n ⊢;refine on (wpAny_letGo (Sa ?_));have C:∀b,b≠it->h6.get? b=a.get? b:=λb g=>(n.2 b g).trans ((y.2 b g).trans ((v.2 b g).trans (B.2 b g)));have F:s.heap.objs.size≠it:=PB (Oy k);exact Sa ⟨_,Z,Sa (q h6 k6 ((C _ F).trans G) λb o g z=>(C b g).trans (m b o g z))⟩
def xS{Q:Option Value->Shared->Prop}(h:A.handled=none)(c:IsItemIter s.heap it d i es.size ep ok ov)(r:fG s.heap d es ep)(g:es.size<=i)(q:∀h',Heap.ExtBut it s.heap h'->Q none { s with heap:=h' }):wpAny (model prog w) A (pyNext (.ref it)) Q E s:=by
 have ty:s.TypeIs (.ref it) "dict_itemiterator":=⟨_,c,rfl⟩;obtain⟨u,e,j,f⟩:=r.obj;unfold pyNext;refine on (wpAny_attempt (wpAny_callSpecial?_slot (name:=Str.ofString "__next__") ty PH (wpAny_call_entry PH ty RQ ?_ (RS _))));refine on (Sa (on (on ?_)))
 first|refine on (wpAny_typeNameOfWhole_itemiter ty (Sa ?_))|refine on (wpAny_typeNameOf_itemiter ty (Sa ?_))
 refine on (wpAny_fieldsOf c Z ?_);simp only [show Builtin.Dict_items.ownsTuple "dict_itemiterator" = true by decide,if_true];show wpAny _ _ (if (Value.ref d == Value.none)=true then _ else _) _ _ _;rw[Sb (by intro z;cases z)];refine on (Sa (on (wpAny_dictEntries e f ?_)));rw[Sb (by simp)];refine on (Sa (on (wpAny_dictEpoch e f ?_)));rw[Sb (by simp)];refine Sa ?_;simp only [show ¬((i:Int)<0) by omega,if_false,OX,Re g];refine on ?_
 first|refine on (wpAny_typeNameOfWhole_itemiter ty (Sa ?_))|refine on (wpAny_typeNameOf_itemiter ty (Sa ?_))
 show wpAny _ _ (setField (.ref it) 2 .none >>= _) _ _ _;refine on (wpAny_setField c rfl (by simp) ?_);show wpAny _ _ (newExc (.type "StopIteration") [] >>= _) _ _ _;refine on ?_;simp only [newExc,newTuple];refine on (wpAny_newObj_type ?_ (by size_fits));refine on (m:=firstArgMember _ _) (wpAny_of_eq (a:=Value.none) (by first|rfl|(simp only [firstArgMember];rfl)) (wpAny_newObj_type ?_ (by size_fits)));simp only [raiseNew];refine on (wpAny_handled ?_);rw[show A.in1.handled=none from h];refine on (Sa (wpAny_throw ?_));refine on (wpAny_isInstance (T := "StopIteration") (b:=true) ⟨_,OB _ rfl,by rfl⟩ isSubtype_stop ?_);exact Sa (q _ (((O6 ..).extBut.push _).push _))
def yL(d:Addr)(lo:(d == sysModules)=false):MeetsIn prog w (Builtin.«dict.items» { pos:=[Value.ref d] }) λx R s=>s.TypeIs (.ref d) "dict"/\R (Except.ok (Flow.ret (Value.ref s.heap.objs.size))) { s with heap:=s.heap.push { cls:=Value.type "dict_items",data:=Data.fields #[Value.ref d] } }:=by
 intro A R s ⟨ty,q⟩;unfold Builtin.«dict.items» Builtin.Dict.noArgs;refine on (on (wpAny_notOrdered_dict ty ?_));refine on (m:=Builtin.Dict.nameIsSure _ _ _) ?_;show wpAny _ _ (pure ()) _ _ _;refine Sa ?_;refine on (m:=selfOnly _ _) ?_;show wpAny _ _ (pure (Value.ref d)) _ _ _;refine Sa ?_;show wpAny _ _ (pure d) _ _ _;refine Sa ?_;unfold Builtin.Dict.showsAll;rw[Sb (by rw[lo];decide)];refine on (Sa (on (wpAny_newObj_type (Sa q))))
def xQ{v:Addr}{Q:Value->Shared->Prop}(f:s.heap.IsItemsView v d)(r:fG s.heap d es ep)(q:Q (.ref s.heap.objs.size) { s with heap:=s.heap.push { cls:=.type "dict_itemiterator",data:=.fields #[.none,.bool false,.ref d,.int 0 0,.int es.size 0,.int ep 0,.none,.none] } }):wpAny (model prog w) A (pyIter (.ref v)) Q E s:=by
 obtain⟨o,b,e,g⟩:=id f;have ty:s.TypeIs (.ref v) "dict_items":=⟨o,b,e⟩;obtain⟨u,a,h,c⟩:=r.obj;refine wpAny_pyIter_slot ty RT (wpAny_call_entry RT ty PySem.F.entry_dict_items_iter ?_ (PySem.F.args_dict_items_iter_1 _));unfold Builtin.«dict_items.__iter__» Builtin.Dict_items.slot0;refine on (on ?_);show wpAny _ _ (pure (Value.ref v,[])) _ _ _;refine Sa (Sa ?_);unfold Builtin.Dict_items.dictOf;refine on (on (wpAny_field (x:=.ref d) b g Z ?_));show wpAny _ _ (pure d) _ _ _;refine Sa ?_;unfold Builtin.Dict_items.newIterator;refine on (on (wpAny_dictEntries a c (on (wpAny_dictEpoch a c ?_))));refine wpAny_newObj_type (Sa ⟨_,rfl, "dict_itemiterator",_,⟨_,OB _ rfl,rfl⟩,PH.lookup,?_⟩) (by show (8:Nat)<=sizeLine+2;decide);exact q
end
def qC(d:Addr)(a:Obj)(kvs:List (List aw × V)):It :=
 ⟨λi H=>H d=some (.frz a (.dT kvs))/\i<kvs.length,λi H x H'=>∃p k b v,x=.ref p/\kvs[i]? = some (k,v)/\H b=some (.tup (k.map kV))/\aZ H p (.tup [.ref b,v]) H',λi H=>H d=some (.frz a (.dT kvs))/\kvs.length<=i⟩
def zQ{X:Cx}{a:List (Addr × Obj)}{σ:St}{H:Hp}{s:Shared}{d:Addr}{c:Obj}{kvs:List (List aw × V)}{es:Array DictEntry}{ep:Nat}(I:ae X a σ H s)(h:H d=some (.frz c (.dT kvs)))(g:c.data=.dict es ep):∃xs,KT H kvs xs/\fG s.heap d es ep/\es.toList=xs.map (entryOfKey (tupleKind (bX X.prog X.w))):=by
 obtain⟨i,z,hd,xs,b,o,l,k,e,j,f,m,n⟩:=I.hok d _ h;rw[i]at e;cases e;rw[g]at f;cases f;exact⟨xs,b,⟨hd,c,i,j,g⟩,m⟩
def BX{P:Program}{w:World}{K:W.Frag}{D:List Expr}{kk:Nat}{pp:Pos}(d it:Addr)(N:Obj)(kvs:List (List aw × V))(es:Array DictEntry)(ep:Nat)(R:N.data=.dict es ep)(a4:es.size=kvs.length)(U:d≠it):d7 P w K (.Tuple D kk pp) (qC d N kvs) [it] it (λi h=>∃ok l,IsItemIter h it d i es.size ep ok l) where
 mem:=by simp
 obj:=λi h st b f=>by
  obtain⟨ok,l,a⟩:=st;have j:b=it:=by simpa using f
  subst j;exact⟨_,a,λv z=>by cases (show Data.fields _=Data.cell v from z)⟩
 keep:=λi h h' st k=>by
  obtain⟨ok,l,a⟩:=st;exact⟨ok,l,k it (by simp) _ a⟩
 item:=by
  intro X hP hw hK O i c s σ H E I C st J;subst hP hw hK;obtain⟨ok,l,a⟩:=st;obtain⟨L,S⟩:=J;obtain⟨xs,n,m,g⟩:=zQ I L R;have hl:xs.length=es.size:=by have:=congrArg List.length g;rw[On,Pz]at this;exact this.symm
  obtain⟨⟨k,v⟩,p⟩:∃kv,kvs[i]? = some kv:=⟨_,OF S⟩;obtain⟨⟨k',b,u⟩,r⟩:∃q,xs[i]? = some q:=⟨_,OF (by omega)⟩;obtain⟨z1,z2,z3⟩:=Paired.nth n p r;dsimp only at z1 z2 z3;have F:es[i]? = some (entryOfKey (tupleKind (bX X.prog X.w)) (k',b,u)):=by
   rw[<- Qw,g,Ov,r]
   rfl
  have e:it<s.heap.objs.size:=Oy a;refine xR a m F λh' ho hT hk=>?_;refine⟨_,rfl,wpAny_letOwnedTupleGo_items (s:={ s with heap:=h' }) ho λx G y=>?_⟩;have hTe:s.heap.objs.size≠it:=PB e;have hT2:x.get? s.heap.objs.size=some { cls:=.type "tuple",data:=.seq #[.ref b,u] }:=(y.2 _ hTe).trans hT;have Y:ae X c σ (upd H s.heap.objs.size (.tup [.ref b,v])) { s with heap:=x }:=by
   refine I.turnedN (t':=s.toks) (fp:=[it]) (λb o f M=>?_) C (Oo _) (oO ⟨_,hT2,Z,_,Z⟩ Z z3);have B:b≠it:=λz=>f (by simp[z]);exact (y.2 b B).trans (hk b o B M)
  refine⟨.ref s.heap.objs.size,_,Y,Z,⟨_,k,b,v,Z,p,z2,.mk' I.fresh⟩,⟨_,_,G⟩,λb f=>?_⟩;have j:b=it:=by simpa using f
  rw[am (by rw[j];exact OC e)];exact (C b f).1
 done:=by
  intro X hP hw hK O i c s σ H E I C st J;subst hP hw hK;obtain⟨ok,l,a⟩:=st;obtain⟨L,S⟩:=J;obtain⟨xs,n,m,g⟩:=zQ I L R;exact xS (I.ok.hd O) a m (by omega) λh' eb=>⟨rfl,I.turnedL (t':=s.toks) (fp:=[it]) (λb o f M=>eb b o (λz=>f (by simp[z])) M) C⟩
 self:=λA i s Q E st h=>by
  obtain⟨ok,l,a⟩:=st;have hT:s.TypeIs (.ref it) "dict_itemiterator":=⟨_,a,rfl⟩;refine wpAny_pyIter_slot hT P7 (wpAny_call_entry P7 hT ue ?_ (Q9 _));show wpAny _ _ (ret (.ref it)) _ _ s;exact Sa ⟨_,Z, "dict_itemiterator",_,hT,PH.lookup,h⟩
def zj(b:TE):TI:=λσ H R=>b σ H λx a=>∃d kvs,x=.ref d/\a d=some (.dT kvs)/\∀ob,R (qC d ob kvs) (upd a d (.frz ob (.dT kvs)))
section
variable {X:Cx}{o:Expr}{es:List Expr}{kk:Nat}{pp apos cpos:Pos}{td:TE}
def Fw (S:PE X o td) (D:attributeBase o "items" X.env (eval o X.env)=eval o X.env) (M:(apos.endLine == cpos.line)=true):PI X (.Tuple es kk pp) (.Call (.Attribute o "items" apos) [] [] cpos) (zj td):=by
 intro l s σ H R I h;refine wpAny_Call_method (T := "dict") (id := "dict.items") D Z M PU P8 Ra (ap (S l s σ H _ I h) λu s1 ⟨x,B,r,W,d,kvs,ex,hd,q⟩=>?_);subst ex;obtain rfl:u=Value.ref d:=W;obtain⟨z,hdS,xs,k,a,c,ep,g,v,C,G,L⟩:=(show bd X.prog X.w B s1.heap d (.dT kvs) from r.hok d _ hd);have ty:s1.TypeIs (.ref d) "dict":=⟨a,g,v.1⟩;have F:c.size=kvs.length:=by
  have:=congrArg List.length G;rw[On,Pz]at this;rw[this,Paired.length k]
 refine⟨ty,λb z=>by cases z;exact⟨a,g,v.2.1⟩,?_⟩;show wpAny _ _ (callWith cpos (.builtin "dict.items") [.ref d] [] []) _ _ s1;refine method_meetsIn P8 Rb rfl (Qy ⟨rfl,ty,Rc _,_,yL d hdS,ty,?_⟩);refine xQ (d:=d) (es:=c) (ep:=ep) ⟨_,OB _ Z,Z,Z⟩ ⟨hdS,a,Ow _ g,v,C⟩ ?_;have hsz:(s1.heap.push { cls:=.type "dict_items",data:=.fields #[.ref d] }).objs.size=s1.heap.objs.size+1:=Pp ..;have k2:∀b o,s1.heap.get? b=some o->((s1.heap.push { cls:=.type "dict_items",data:=.fields #[.ref d] }).push { cls:=.type "dict_itemiterator",data:=.fields #[.none,.bool false,.ref d,.int 0 0,.int c.size 0,.int ep 0,.none,.none] }).get? b=some o:=λb o e=>Ow _ (Ow _ e);have O:=r.kept (t':=s1.toks) k2;have j:=k2 d a g;have J:∀ {b y},B b=some (.tup y)->b≠d:=λ{b y} e z=>by rw[z,hd]at e;cases e
 have p:KT (upd B d (.frz a (.dT kvs))) kvs xs:=KT.keeps k λb y e=>by rw[am (J e)];exact e
 have U:=O.write (x:=d) (e:=d) (o:=.frz a (.dT kvs)) (t':=s1.toks) (by rw[hd];exact True.intro) (.inl Z) (λb u _ e=>e) ⟨a,j⟩ ⟨j,z,hdS,xs,p,a,c,ep,j,v,C,G,L⟩;have n:s1.heap.objs.size<=(s1.heap.push { cls:=.type "dict_items",data:=.fields #[.ref d] }).objs.size:=by rw[hsz];exact Pk _
 have m:d≠(s1.heap.push { cls:=.type "dict_items",data:=.fields #[.ref d] }).objs.size:=by rw[hsz];exact OC (PF (Oy g))
 refine⟨_,[_],_,qC d a kvs,_,Z,U,BX d _ a kvs c ep C F m,⟨.none,.none,OB _ Z⟩,λb D=>?_,q a⟩;have i:b=(s1.heap.push { cls:=.type "dict_items",data:=.fields #[.ref d] }).objs.size:=by simpa using D
 have N:=r.fpOk (b:=b) (by rw[i];exact n) (r.hok.fresh (by rw[i];exact n));obtain⟨V,f⟩:=N;exact⟨by rw[am (by rw[i];exact m.symm)];exact V,f⟩
def Er (b:QE X o td) (c:attributeBase o "items" X.env (eval o X.env)=eval o X.env:=by rfl) (a:(apos.endLine == cpos.line)=true:=by rfl):QI X (.Tuple es kk pp) (.Call (.Attribute o "items" apos) [] [] cpos) (zj td):=⟨Fw b.h c a⟩
end
def Lu{K:W.Frag}{d:Addr}{s:Obj}{kvs:List (List aw × V)}{cs:St}{B:TT}{D:TE}{H:Hp}{Q:VK}(h:Nat->List V->Hp->Prop)(F:h 0 [] H)(G:∀i a H,i<=kvs.length->h i a H->H d=some (.frz s (.dT kvs))/\a.length<=i)(hz:kvs.length<=sizeLine)
 (L:∀i k b v a H H' (N:List V->Hp->Prop),kvs[i]? = some (k,v)->H b=some (.tup (k.map kV))->h i a H->af H H'->(∀f H',h (i+1) f H'->N f H')->B (some (.ref b)::some v::cs) H' λc u=>if c=true then D (some (.ref b)::some v::cs) u λy I=>N (a++[y]) I else N a u)
 (hd:∀a H p H',h kvs.length a H->aZ H p (.lst a) H'->Q (.ref p) H') :
 fU (qC d s kvs) H (List.replicate 2 none++cs) (jp K 2 (gC (bT 0) (gC (bT 1) lX))) B D Q:=by
 refine⟨λi m a σ H=>m=kvs.length-i/\i<=kvs.length/\h i a H/\∃j l,σ=j::l::cs,⟨kvs.length,by simp,Ox _,F,none,none,rfl⟩,?_⟩;rintro i m a σ o ⟨rfl,M,p,j,l,rfl⟩;obtain⟨q,O⟩:=G i a o M p;by_cases hlt:i<kvs.length
 ·refine .inr ⟨⟨q,hlt⟩,by omega,λf r H'=>h (i+1) f H'/\∃j l,r=j::l::cs,λf r H' ⟨n,e⟩=>⟨kvs.length-(i+1),by omega,rfl,hlt,n,e⟩,λx H' y=>?_⟩;obtain⟨pp,k,b,v,rfl,y,J,C⟩:=y;refine⟨pp,_,Z,C.tup,Z,_,_,Z,_,_,Z,Z,?_⟩;exact L i k b v a o H' (λf H'=>h (i+1) f H'/\∃j l,some (.ref b)::some v::cs=j::l::cs) y J p C.sm λ_ _ z=>⟨z,_,_,Z⟩
 ·have e:i=kvs.length:=by omega
  subst e;exact .inl ⟨⟨q,Oo _⟩,by omega,λn H' g=>hd a o n H' p g⟩
section
variable {prog:Program}{w:World}
def dE(prog:Program)(w:World)(h:Heap)(k:List Int × List Int)(a:Addr):Prop :=
 ∃(o:Obj) (c b n:Nat),h.get? a=some o/\o.cls=.type "tuple"/\o.data=.seq #[.ref c,.ref b] n/\IsTupleKey (intKind prog w) h k.1 c/\IsTupleKey (intKind prog w) h k.2 b
def dE.ty {s:Shared} {k:List Int × List Int} {a:Addr} (x:dE prog w s.heap k a):s.TypeIs (.ref a) "tuple":=by
 obtain⟨o,c,b,n,e,d,_⟩:=x;exact⟨o,e,d⟩
def dE.one{h:Heap}{a:Addr}{x y:List Int × List Int}(hx:dE prog w h x a)(hy:dE prog w h y a):x=y:=by
 obtain⟨o,c,b,n,l,_,i,g,k⟩:=hx;obtain⟨q,r,b',p,d,_,f,m,j⟩:=hy;rw[l]at d;cases d;rw[i]at f
 injection f with e _
 injection e with e
 injection e with e1 e2
 injection e1 with e1
 injection e2 with e2 _
 injection e2 with e2
 subst e1;subst e2;exact Prod.ext (g.inj m) (k.inj j)
def dE.stay{h h':Heap}{k:List Int × List Int}{a d:Addr}{o:Obj}{es:Array DictEntry}{ep:Nat}(x:dE prog w h k a)(e:h.get? d=some o)(hd:o.data=.dict es ep)(g:Heap.SameBut d h h'):dE prog w h' k a:=by
 obtain⟨u,c,b,n,i,l,f,j,m⟩:=x;refine⟨u,c,b,n,(g.2 a ?_).trans i,l,f,j.keeps e hd g,m.keeps e hd g⟩;intro z;subst z;rw[i]at e;cases e;rw[hd]at f;cases f
variable {A:Around}{E:Value->Shared->Prop}{s:Shared}
def yb(prog:Program)(w:World)(k:List Int × List Int):Int:=reduceHash (Builtin.Tuple.tupleHashOf [tupleKeyHash (intKind prog w) k.1,tupleKeyHash (intKind prog w) k.2])
def EW{k:List Int × List Int}{a:Addr}{Q:Int->Shared->Prop}(m:A.units+8<cLine)(f:dE prog w s.heap k a)(q:Q (yb prog w k) { s with toks:=s.toks+(k.1.length+k.2.length+3) }):wpAny (model prog w) A (pyHash (.ref a)) Q E s:=by
 have ty:=f.ty;obtain⟨o,c,b,n,l,p,i,g,j⟩:=f;unfold pyHash
 first|unfold pyHashByItsType|skip
 first|refine on (wpAny_cRoomFor_or (.inr (by omega)) ?_)|skip
 refine on (wpAny_specialOf ty PJ.lookup ?_);show wpAny _ _ (if (some (Value.builtin "tuple.__hash__") == some Value.none)=true then _ else _) _ _ _;rw[Sb (by rw[beq_builtin_none];decide)];refine on (wpAny_specialOf ty PJ.lookup ?_);show wpAny _ _ (callSpecialIfBoundUnlessNone? (.ref a) "__hash__" _ >>= _) _ _ _;refine on (wpAny_callSpecialIfBoundUnlessNone?_slot ty PJ (wpAny_call_entry PJ ty RH ?_ (RI _)));show wpAny _ _ (Builtin.Tuple.tupleItemsOf (.ref a) >>= _) _ _ _;refine on (wpAny_tupleItemsOf l i ?_);refine on ?_;rw[<- P9];rw[O3];refine on (on (wpAny_pyHash_tuple (knd:=intKind prog w) (ks:=k.1) ?_ g ?_))
 ·show A.units+1<cLine;omega
 first
  | refine Sa ?_
  | refine on (Sa (Sa ?_))
 dsimp only;rw[O3];refine on (on (wpAny_pyHash_tuple (knd:=intKind prog w) (ks:=k.2) ?_ j ?_))
 ·show A.units+1<cLine;omega
 first
  | refine Sa ?_
  | refine on (Sa (Sa ?_))
 dsimp only;rw[PX];refine Sa ?_;refine wpAny_ret_mkInt ?_;have e:((#[].push (tupleKeyHash (intKind prog w) k.1)).push (tupleKeyHash (intKind prog w) k.2)).toList=[tupleKeyHash (intKind prog w) k.1,tupleKeyHash (intKind prog w) k.2]:=rfl;rw[e];generalize eH:Builtin.Tuple.tupleHashOf [tupleKeyHash (intKind prog w) k.1,tupleKeyHash (intKind prog w) k.2]=N;have d:Q (reduceHash N) { s with toks:=s.toks+(k.1.length+k.2.length+3) }:=by rw[<- eH];exact q
 unfold reduceHash at d;have h:s.toks+(k.1.length+1)+(k.2.length+1)+1=s.toks+(k.1.length+k.2.length+3):=by omega
 show wpAny _ _ (if (decide (-(2:Int) ^ 63<=N) && decide (N<2 ^ 63))=true then _ else _) _ _ { s with toks:=s.toks+(k.1.length+1)+(k.2.length+1)+1 };rw[h]
 split
 ·rename_i c;rw[Sc c]at d;exact Sa d
 ·rename_i c;rw[Sb c]at d;exact on (wpAny_rule (Sa d))
def EX{x y:List Int × List Int}{a b:Addr}{P:Fin->Shared->Prop}(m:A.units+4<cLine)(hx:dE prog w s.heap x a)(hy:dE prog w s.heap y b)(q:P (.done (.ret (.bool (decide (x=y))))) s) :
 wpAny (model prog w) A (Builtin.«tuple.__eq__» ⟨[.ref a,.ref b],[]⟩) P E s:=by
 have ty:=hy.ty;obtain⟨o,t,c,n,j,p,f,d,i⟩:=hx;obtain⟨u,t',l,r,e,v,h,k,g⟩:=hy;show wpAny _ _ (isInstance (.ref b) (.type "tuple") >>= _) _ _ _;refine on (wpAny_isInstance ty isSubtype_tuple_tuple ?_);simp only [OW,OO,if_false];refine on (wpAny_tupleItemsOf j f ?_);refine on (wpAny_tupleItemsOf e h ?_);refine on ?_;show wpAny _ _ (forIn [(Value.ref t,Value.ref t'),(Value.ref c,Value.ref l)] _ _) _ _ _;rw[O3];refine on (on (wpAny_eqBool_tuple (knd:=intKind prog w) (x:=x.1) (y:=y.1) (by omega) d k ?_));by_cases e1:x.1=y.1
 ·rw[Sf e1];simp only [OW,OO,if_false];refine Sa ?_;dsimp only;rw[O3];refine on (on (wpAny_eqBool_tuple (knd:=intKind prog w) (x:=x.2) (y:=y.2) (by omega) i g ?_));by_cases e2:x.2=y.2
  ·rw[Sf e2];simp only [OW,OO,if_false];refine Sa ?_;dsimp only;rw[PX];refine Sa (Sa ?_);rw[Sf (Prod.ext e1 e2)]at q;exact q
  ·rw[Sh e2];simp only [Qa,if_true];rw[Sh (λz=>e2 (by rw[z]))]at q;exact on (Sa (Sa (Sa (Sa q))))
 ·rw[Sh e1];simp only [Qa,if_true];rw[Sh (λz=>e1 (by rw[z]))]at q;exact on (Sa (Sa (Sa (Sa q))))
def EY{x y:List Int × List Int}{a b:Addr}{Q:Bool->Shared->Prop}(c:A.units+8<cLine)(hx:dE prog w s.heap x a)(hy:dE prog w s.heap y b)(q:Q (decide (x=y)) s):wpAny (model prog w) A (eqBool (.ref a) (.ref b)) Q E s:=by
 unfold eqBool
 try with_reducible refine wpAny_holding ?_
 show wpAny _ _ (if (Value.ref a == Value.ref b)=true then _ else _) _ _ _;by_cases e:(Value.ref a == Value.ref b)=true
 ·rw[Sc e];have z:a=b:=by
   have:=eq_of_beq e
   injection this
  subst z;obtain rfl:=hx.one hy;rw[Sf rfl]at q;exact on (wpAny_rule (Sa q))
 ·rw[Sb e];exact on (wpAny_richCompare_same_room (op:=.Eq) hx.ty hy.ty PK (wpAny_call_entry PK hx.ty RJ (EX (by show A.units+1+4<cLine;omega) hx hy ⟨_,rfl,nofun,wpAny_truthy_bool q⟩) (RK _ _)) (by omega))
def xU(n:Nat){ks:List Int}{a:Addr}{Q:Bool->Shared->Prop}(d:IsTupleKey (intKind prog w) s.heap ks a)(q:Q true s):wpAny (model prog w) A (eqIsQuiet (n+1) (.ref a)) Q E s:=by
 have ty:=d.typeIs;obtain⟨o,b,m,i,_,g,h⟩:=d;unfold eqIsQuiet;refine on (wpAny_specialOf ty PK.lookup ?_);show wpAny _ _ (isInstance (.ref a) (.type "tuple") >>= _) _ _ _;refine on (wpAny_isInstance ty isSubtype_tuple_tuple ?_);simp only [OW,OO,if_false];refine on (wpAny_seqItems i g ?_);refine on ?_;show wpAny _ _ (forIn b _ _) _ _ _;rw[<- P9];refine wpAny_forIn_list _ (λl r c=>r.1=none/\c=s/\∀v∈l,carriedByValue v=true) _ ?_ ?_ _ _ ⟨rfl,rfl,h.byValue⟩
 ·rintro v l r c ⟨e,rfl,f⟩;rw[eqIsQuiet_byValue _ (f v (OP ..))];refine on (Sa ?_);simp only [OW,OO,if_false];exact Sa ⟨rfl,rfl,λu z=>f u (OQ _ z)⟩
 ·rintro⟨r1,r2⟩ c ⟨e,rfl,_⟩;obtain rfl:r1=none:=e;exact Sa q
def EV{k:List Int × List Int}{a:Addr}{Q:Bool->Shared->Prop}(d:dE prog w s.heap k a)(q:Q true s):wpAny (model prog w) A (eqIsQuiet 8 (.ref a)) Q E s:=by
 have ty:=d.ty;obtain⟨o,c,b,n,h,i,f,e,g⟩:=d;unfold eqIsQuiet;refine on (wpAny_specialOf ty PK.lookup ?_);show wpAny _ _ (isInstance (.ref a) (.type "tuple") >>= _) _ _ _;refine on (wpAny_isInstance ty isSubtype_tuple_tuple ?_);simp only [OW,OO,if_false];refine on (wpAny_seqItems h f ?_);refine on ?_;show wpAny _ _ (forIn #[Value.ref c,Value.ref b] _ _) _ _ _;rw[<- P9];rw[O3];refine on (on (xU 6 e ?_));simp only [OW,OO,if_false];refine Sa ?_;dsimp only;rw[O3];refine on (on (xU 6 g ?_));simp only [OW,OO,if_false];refine Sa ?_;dsimp only;rw[PX];exact Sa (Sa q)
def lG(prog:Program)(w:World):HeapKind prog w (List Int × List Int) where
 is:=dE prog w
 hash:=yb prog w
 draws:=λk=>k.1.length+k.2.length+3
 room:=λA=>A.units+8<cLine
 inj:=λx y=>x.one y
 keeps:=λx c hd d=>x.stay c hd d
 pyHash:=λb a q=>EW b a q
 eqBool:=λb hx hy q=>EY b hx hy q
 quiet:=λa q=>EV a q
end
structure fF (h:Heap) (d:Addr) (es:Array DictEntry) (ep:Nat):Prop where
 big:(d == sysModules)=false
 obj:∃o,h.get? d=some o/\o.ExactDict/\o.data=.dict es ep
def fF.ty {s:Shared} {d:Addr} {es:Array DictEntry} {ep:Nat} (r:fF s.heap d es ep):s.TypeIs (.ref d) "dict":=by
 obtain⟨o,e,c,_⟩:=r.obj;exact⟨o,e,c.1⟩
def fF.to{h h':Heap}{d:Addr}{es:Array DictEntry}{ep:Nat}(r:fF h d es ep)(k:∀o,h.get? d=some o->h'.get? d=some o):fF h' d es ep:=by
 obtain⟨b,o,e,c⟩:=r;exact⟨b,o,k o e,c⟩
section
variable {prog:Program}{w:World}{A:Around}{E:Value->Shared->Prop}{s:Shared}{it d:Addr}{i ep:Nat}{es:Array DictEntry}
def rg{Q:Value->Shared->Prop}(r:fF s.heap d es ep)(q:Q (.ref s.heap.objs.size) { s with heap:=s.heap.push { cls:=.type "dict_keyiterator",data:=.fields #[.ref d,.int 0 0,.int es.size 0,.int ep 0] } }):wpAny (model prog w) A (pyIter (.ref d)) Q E s:=by
 have ty:=r.ty;obtain⟨o,b,c,a⟩:=r.obj;refine wpAny_pyIter_slot ty Qz (wpAny_call_entry Qz ty RL ?_ (RM _));unfold Builtin.«dict.__iter__» Builtin.Dict.dictSlotNone;refine on (on (wpAny_notOrdered_dict ty ?_));show wpAny _ _ (pure (Value.ref d)) _ _ _;refine Sa ?_;show wpAny _ _ (Builtin.Dict.showsAll d >>= _) _ _ _;unfold Builtin.Dict.showsAll;rw[Sb (by rw[r.big];decide)];refine on (Sa (on (wpAny_dictEntries b a (on (wpAny_dictEpoch b a ?_)))));refine on (wpAny_newObj_type (Sa ⟨_,Z, "dict_keyiterator",_,⟨_,OB _ Z,Z⟩,Pl.lookup,?_⟩));exact q
def oy{e:DictEntry}{Q:Option Value->Shared->Prop}(a:s.heap.IsKeyIter it d i es.size ep)(r:fF s.heap d es ep)(f:es[i]? = some e)
 (q:∀h',h'.IsKeyIter it d (i+1) es.size ep->Heap.SameBut it s.heap h'->Q (some e.key) { s with heap:=h' }):wpAny (model prog w) A (pyNext (.ref it)) Q E s:=by
 obtain⟨o,k1,k2,k3⟩:=id a;obtain⟨u,b,g,c⟩:=r.obj;unfold pyNext;refine on (wpAny_attempt (wpAny_callSpecial?_slot (name:=Str.ofString "__next__") a.typeIs Pl (wpAny_call_entry Pl a.typeIs QB ?_ (QC _))));refine on (Sa (on (on ?_)))
 first|refine on (wpAny_typeNameOfWhole_keyiter a.typeIs (Sa ?_))|refine on (wpAny_typeNameOf_keyiter a.typeIs (Sa ?_))
 refine on (wpAny_fieldsOf k1 k3 ?_);simp only [show Builtin.Dict_items.ownsTuple "dict_keyiterator" = false by decide,OO,if_false];show wpAny _ _ (if (Value.ref d == Value.none)=true then _ else _) _ _ _;rw[Sb (by intro z;cases z)];refine on (Sa (on (wpAny_dictEntries b c ?_)));rw[Sb (by simp)];refine on (Sa (on (wpAny_dictEpoch b c ?_)));rw[Sb (by simp)];refine Sa ?_;simp only [show ¬((i:Int)<0) by omega,if_false,OX,f];refine on ?_
 first|refine on (wpAny_typeNameOfWhole_keyiter a.typeIs (Sa ?_))|refine on (wpAny_typeNameOf_keyiter a.typeIs (Sa ?_))
 refine on (wpAny_isOneOf_keyiter a.typeIs ?_);show wpAny _ _ (setField (.ref it) 1 (rawInt ((i:Int)+1)) >>= _) _ _ _;refine on (wpAny_setField k1 k3 (by simp) ?_);have nx:(s.heap.update it (Obj.mapFields (·.setIfInBounds 1 (rawInt ((i:Int)+1))))).IsKeyIter it d (i+1) es.size ep:=⟨_,Qm _ k1 (Obj.isFreed_of_fields (Obj.data_mapFields k3 _)),(Obj.cls_mapFields ..).trans k2,by rw[Obj.data_mapFields k3];simp[rawInt]⟩;refine on (wpAny_holding (on (wpAny_isOneOf_keyiter (s:={ s with heap:=s.heap.update it (Obj.mapFields (·.setIfInBounds 1 (rawInt ((i:Int)+1)))) }) nx.typeIs ?_)));show wpAny _ _ (pure e.key) _ _ _;exact Sa (Sa ⟨_,Z,Sa (q _ nx (O6 ..))⟩)
def rh{Q:Option Value->Shared->Prop}(h:A.handled=none)(c:s.heap.IsKeyIter it d i es.size ep)(r:fF s.heap d es ep)(g:es.size<=i)(q:∀h',Heap.ExtBut it s.heap h'->Q none { s with heap:=h' }):wpAny (model prog w) A (pyNext (.ref it)) Q E s:=by
 obtain⟨o,k1,k2,k3⟩:=id c;obtain⟨u,e,j,f⟩:=r.obj;unfold pyNext;refine on (wpAny_attempt (wpAny_callSpecial?_slot (name:=Str.ofString "__next__") c.typeIs Pl (wpAny_call_entry Pl c.typeIs QB ?_ (QC _))));refine on (Sa (on (on ?_)))
 first|refine on (wpAny_typeNameOfWhole_keyiter c.typeIs (Sa ?_))|refine on (wpAny_typeNameOf_keyiter c.typeIs (Sa ?_))
 refine on (wpAny_fieldsOf k1 k3 ?_);simp only [show Builtin.Dict_items.ownsTuple "dict_keyiterator" = false by decide,OO,if_false];show wpAny _ _ (if (Value.ref d == Value.none)=true then _ else _) _ _ _;rw[Sb (by intro z;cases z)];refine on (Sa (on (wpAny_dictEntries e f ?_)));rw[Sb (by simp)];refine on (Sa (on (wpAny_dictEpoch e f ?_)));rw[Sb (by simp)];refine Sa ?_;simp only [show ¬((i:Int)<0) by omega,if_false,OX,Re g];refine on ?_
 first|refine on (wpAny_typeNameOfWhole_keyiter c.typeIs (Sa ?_))|refine on (wpAny_typeNameOf_keyiter c.typeIs (Sa ?_))
 show wpAny _ _ (setField (.ref it) 0 .none >>= _) _ _ _;refine on (wpAny_setField k1 k3 (by simp) ?_);show wpAny _ _ (newExc (.type "StopIteration") [] >>= _) _ _ _;refine on ?_;simp only [newExc,newTuple];refine on (wpAny_newObj_type ?_ (by size_fits));refine on (m:=firstArgMember _ _) (wpAny_of_eq (a:=Value.none) (by first|rfl|(simp only [firstArgMember];rfl)) (wpAny_newObj_type ?_ (by size_fits)));simp only [raiseNew];refine on (wpAny_handled ?_);rw[show A.in1.handled=none from h];refine on (Sa (wpAny_throw ?_));refine on (wpAny_isInstance (T := "StopIteration") (b:=true) ⟨_,OB _ rfl,by rfl⟩ isSubtype_stop ?_);exact Sa (q _ (((O6 ..).extBut.push _).push _))
end
abbrev ad:=List Int × List Int
def cA(x:ad × Addr × Value):DictEntry:=⟨reduceHash (Builtin.Tuple.tupleHashOf [reduceHash (Builtin.Tuple.tupleHashOf (x.1.1.map hashInt)),reduceHash (Builtin.Tuple.tupleHashOf (x.1.2.map hashInt))]),.ref x.2.1,x.2.2⟩
def yc(P:Program)(w:World):entryOfKey (lG P w)=cA:=rfl
def fq(a:Addr)(xs:List (ad × Addr × Value))(ep:Nat):HO:=.ext λh=>fF h a (xs.map cA).toArray ep
def bc(H:Hp)(k:ad)(p:Addr):Prop:=∃c b,H p=some (.tup [.ref c,.ref b])/\H c=some (.tup (k.1.map V.int))/\H b=some (.tup (k.2.map V.int))
abbrev KP:List (ad × Addr × V)->List (ad × Addr × Value)->Prop:=Paired λp q=>p.1=q.1/\p.2.1=q.2.1/\ax p.2.2 q.2.2
structure DP (H:Hp) (a:Addr) (kvs:List (ad × Addr × V)):Prop where
 ex:∃xs ep,H a=some (fq a xs ep)/\KP kvs xs
 key:∀x∈kvs,bc H x.1 x.2.1
 nd:(kvs.map (·.1)).Nodup
 le:kvs.length<=sizeLine
def bc.same{H H':Hp}{k:ad}{p:Addr}(s:af H H')(h:bc H k p):bc H' k p:=by
 obtain⟨c,b,e,a,d⟩:=h;exact⟨c,b,s _ _ e,s _ _ a,s _ _ d⟩
def DP.same{H H':Hp}{a:Addr}{kvs:List (ad × Addr × V)}(s:af H H')(d:DP H a kvs):DP H' a kvs:=by
 obtain⟨⟨xs,ep,c,b⟩,k,n,l⟩:=d
 exact⟨⟨xs,ep,s _ _ c,b⟩,λx hx=>(k x hx).same s,n,l⟩
def aS(kvs:List (ad × Addr × V))(k:ad):Option V:=(kvs.find? λx=>decide (x.1=k)).map (·.2.2)
def cX(kvs:List (ad × Addr × V))(k:ad)(b:Addr)(v:V):List (ad × Addr × V) :=
 if (aS kvs k).isSome then kvs.map (λx=>if x.1=k then (x.1,x.2.1,v) else x) else kvs++[(k,b,v)]
def KP.val{kvs:List (ad × Addr × V)}{xs:List (ad × Addr × Value)}(r:KP kvs xs)(k:ad):cg (aS kvs k) ((atKey xs k).map (·.2)):=by
 induction r with
 | nil=>exact True.intro
 | @cons p q ps qs h t ih =>
  obtain⟨d,_,f⟩:=h;by_cases e:p.1=k
  ·have a:q.1=k:=d.symm.trans e;have b:atKey (q::qs) k=some q.2:=by simp[atKey,OR,a]
   have c:aS (p::ps) k=some p.2.2:=by simp[aS,OR,e]
   rw[b,c];exact f
  ·have a:¬q.1=k:=λz=>e (d.trans z);have b:atKey (q::qs) k=atKey qs k:=by simp[atKey,OR,a]
   have c:aS (p::ps) k=aS ps k:=by simp[aS,OR,e]
   rw[b,c];exact ih
def KP.put{kvs:List (ad × Addr × V)}{xs:List (ad × Addr × Value)}(r:KP kvs xs)(k:ad){b:Addr}{y:V}{u:Value}(c:ax y u):KP (cX kvs k b y) (storedH xs k b u):=by
 have e:(aS kvs k).isSome=(atKey xs k).isSome:=by rw[(r.val k).isSome_eq,PQ]
 unfold cX storedH;rw[e]
 split
 ·induction r with
  | nil=>exact .nil
  | @cons p q ps qs h t ih =>
   rw[OD,OD];have all:∀ {l m},KP l m->KP (l.map λx=>if x.1=k then (x.1,x.2.1,y) else x) (m.map (putAt k u)):=by
    intro l m r
    induction r with
    | nil=>exact .nil
    | @cons p q ps qs h t ih =>
     rw[OD,OD];refine .cons ?_ ih;obtain⟨a,d,f⟩:=h;unfold putAt;by_cases z:p.1=k
     ·rw[Sc z,Sc (a.symm.trans z)];exact⟨a,d,c⟩
     ·rw[Sb z,Sb (λy=>z (a.trans y))];exact⟨a,d,f⟩
   exact all (.cons h t)
 ·exact Paired.snoc r ⟨rfl,rfl,c⟩
def KP.keys{kvs:List (ad × Addr × V)}{xs:List (ad × Addr × Value)}(r:KP kvs xs):kvs.map (·.1)=xs.map (·.1):=by
 induction r with
 | nil=>rfl
 | cons h t ih=>rw[OD,OD,ih,h.1]
theorem mW:∀ {kvs:List (ad × Addr × V)} {xs:List (ad × Addr × Value)},KP kvs xs->∀ {i:Nat} {a:ad × Addr × V} {b:ad × Addr × Value},kvs[i]? = some a->xs[i]? = some b->a.1=b.1/\a.2.1=b.2.1/\ax a.2.2 b.2.2
 | _,_,.nil,_,_,_,h,_=>by simp at h
 | _,_,.cons r t,0,_,_,h,h'=>by simp at h h';subst h;subst h';exact r
 | _,_,.cons r t,i+1,_,_,h,h'=>mW t (i:=i) (by simpa using h) (by simpa using h')
def EQ(kvs:List (ad × Addr × V))(k:ad)(b:Addr)(v:V):∀x∈cX kvs k b v,(∃y∈kvs,y.1=x.1/\y.2.1=x.2.1)\/x=(k,b,v):=by
 intro x hx;unfold cX at hx
 split at hx
 ·obtain⟨y,hy,rfl⟩:=Oq.mp hx;refine .inl ⟨y,hy,?_⟩
  split<;>exact⟨rfl,rfl⟩
 ·rcases Os.mp hx with z|z
  ·exact .inl ⟨x,z,Z,Z⟩
  ·exact .inr (Op.mp z)
def ya(kvs:List (ad × Addr × V))(k:ad)(b:Addr)(v:V):(cX kvs k b v).length<=kvs.length+1:=by
 unfold cX
 split<;>simp
def oK{P:Program}{w:World}{H:Hp}{h:Heap}{k:ad}{p:Addr}(ok:bn P w H h)(e:bc H k p):dE P w h k p:=by
 obtain⟨c,b,v,g,l⟩:=e;obtain⟨_,i,r,o,u,q,n,x⟩:=(show bd P w H h p (.tup [.ref c,.ref b]) from ok p _ v);have all:∀ {ks:List Int} {us:List Value},ay (ks.map V.int) us->ItemsAre (intKind P w) ks us:=by
  intro ks
  induction ks with
  | nil=>intro us r;cases r;exact .nil
  | cons k ks ih =>
   intro us r;cases r with
   | cons a b =>
    obtain⟨t,rfl⟩:=a;exact .cons (by exact beq_self_eq_true k) (ih b)
 have one:∀ {a:Addr} {ks:List Int},H a=some (.tup (ks.map V.int))->IsTupleKey (intKind P w) h ks a:=λ{a ks} y=>by
  obtain⟨_,d,m,f,j,s,B,z⟩:=(show bd P w H h a (.tup (ks.map V.int)) from ok a _ y);exact⟨f,d.toArray,B,j,s,z,by simpa using all m⟩
 cases r with
 | cons c1 r=>cases r with
  | cons c2 r=>cases r with
   | nil =>
    cases c1;cases c2;exact⟨o,c,b,n,u,q,x,one g,one l⟩
section
variable {X:Cx}{pins:List (Addr × Obj)}{σ:St}{H:Hp}{s:Shared}{a b:Addr}{kvs:List (ad × Addr × V)}{k:ad}{v:V}{A:Around}{E:Value->Shared->Prop}
def ju(I:ae X pins σ H s)(d:DP H a kvs):∃xs ep,H a=some (fq a xs ep)/\KP kvs xs/\fF s.heap a (xs.map cA).toArray ep/\s.heap.DictOfH (lG X.prog X.w) a xs:=by
 obtain⟨⟨xs,ep,c,b⟩,f,nd,le⟩:=d;obtain⟨r,_⟩:=I.hok a _ c;obtain⟨o,i,g,j⟩:=r.obj;refine⟨xs,ep,c,b,r,o,_,ep,i,g,j,by rw[yc],λx hx=>?_,by rw[<- b.keys];exact nd⟩;have all:∀ {l m},KP l m->(∀x∈l,bc H x.1 x.2.1)->∀x∈m,dE X.prog X.w s.heap x.1 x.2.1:=by
  intro l m r
  induction r with
  | nil=>intro _ x hx;cases hx
  | @cons p q ps qs h t ih =>
   intro e x hx;rcases OT.mp hx with z|z
   ·subst z;rw[<- h.1,<- h.2.1];exact oK I.hok (e p (OP ..))
   ·exact ih (λy hy=>e y (OQ _ hy)) x z
 exact all b f x hx
def Ab{Q:Value->Shared->Prop}(m:A.units+16<cLine)(I:ae X pins σ H s)(d:DP H a kvs)(i:bc H k b)(e:aS kvs k=some v)(q:∀c s',ae X pins σ H s'->ax v c->Q c s'):wpAny (model X.prog X.w) A (getItem (.ref a) (.ref b)) Q E s:=by
 obtain⟨xs,ep,n,j,r,h⟩:=ju I d;obtain⟨c,hw,f⟩:=cg.some_of (v:=v) (o:=(atKey xs k).map (·.2)) (by rw[<- e];exact j.val k);obtain⟨p,l,g⟩:=OS.mp hw;refine wpAny_getItem_heap (knd:=lG X.prog X.w) (by show A.units+1+8<cLine;omega) (oK I.hok i) h l ?_;rw[g];exact q c _ (I.tok _) f
def Aa{u:Value}{Q:Unit->Shared->Prop}(hu:A.units+16<cLine)(I:ae X pins σ H s)(d:DP H a kvs)(C:bc H k b)(Y:kvs.length<sizeLine)(p:ax v u)(q:∀H' s',ae X pins σ H' s'->DP H' a (cX kvs k b v)->(∀c,c≠a->H' c=H c)->Q () s'):wpAny (model X.prog X.w) A (setItem (.ref a) (.ref b) u) Q E s:=by
 obtain⟨xs,ep,G,j,r,M⟩:=ju I d;have hz:xs.length<=sizeLine:=by rw[<- Paired.length j];exact d.le
 refine wpAny_setItem_heap (hsz:=hz) (knd:=lG X.prog X.w) (by show A.units+1+8<cLine;omega) (oK I.hok C) M λh' i V=>?_;obtain⟨o,es,e,g,U,R,B,e5,L⟩:=i;have m:∀c n,H c=some (.tup n)->c≠a:=λc n z y=>by subst y;rw[G]at z;cases z
 have h:es=((storedH xs k b u).map cA).toArray:=by
  rw[yc]at B;rw[<- B,QD]
 have N:ae X pins σ (upd H a (fq a (storedH xs k b u) e)) { s with heap:=h',toks:=s.toks+(lG X.prog X.w).draws k }:=by
  refine nj I (by rw[G];exact True.intro) V ⟨o,g⟩ ⟨⟨r.big,o,g,U,by rw[R,h]⟩,⟨o,g⟩,λW g2 f O=>f.to O⟩
 refine q _ _ N ⟨⟨_,e,aP,j.put k p⟩,λx hx=>?_,?_,?_⟩ λc S=>am S
 ·have l:bc H x.1 x.2.1:=by
   rcases EQ kvs k b v x hx with ⟨y,hy,z1,z2⟩|z
   ·rw[<- z1,<- z2];exact d.key y hy
   ·rw[z];exact C
  obtain⟨c,d,F,J,D⟩:=l;exact⟨c,d,by rw[am (m _ _ F)];exact F,by rw[am (m _ _ J)];exact J,by rw[am (m _ _ D)];exact D⟩
 ·rw[(j.put k p).keys];exact L
 ·have:=ya kvs k b v;omega
end
def Hw:TE:=λ_ H Q=>∀p H',aZ H p (fq p [] 0) H'->Q (.ref p) H'
def DP.new{H H':Hp}{p:Addr}(g:aZ H p (fq p [] 0) H'):DP H' p []:=⟨⟨[],0,g.at_,.nil⟩,λ_ hx=>(nomatch hx),PR,Ox _⟩
def Co(e ty:TE):TE:=λσ H Q=>e σ H λx d=>ty σ d λy c=>∃a b kvs k v,x=.ref a/\y=.ref b/\DP c a kvs/\bc c k b/\aS kvs k=some v/\Q v c
def DR(h ty f:TE):TS:=λD σ H=>f σ H λv g=>h σ g λx e=>ty σ e λy d=>∃a b kvs k,x=.ref a/\y=.ref b/\DP d a kvs/\bc d k b/\kvs.length<sizeLine/\∀H4,DP H4 a (cX kvs k b v)->(∀c,c≠a->H4 c=d c)->D.nx σ H4
def jD(d:Addr)(o:HO)(kvs:List (ad × Addr × V)):It :=
 ⟨λi H=>H d=some o/\i<kvs.length,λi H x H'=>H'=H/\∃k b v,kvs[i]? = some (k,b,v)/\x=.ref b,λi H=>H d=some o/\kvs.length<=i⟩
def Iq(b:TE):TI:=λσ H R=>b σ H λx a=>∃d kvs,x=.ref d/\DP a d kvs/\∀o,a d=some o->R (jD d o kvs) a
def B3{P:Program}{w:World}{K:W.Frag}{Y:Expr}(d it:Addr)(xs:List (ad × Addr × Value))(ep:Nat)(kvs:List (ad × Addr × V))(q:KP kvs xs):d7 P w K Y (jD d (fq d xs ep) kvs) [it] it (λi h=>h.IsKeyIter it d i (xs.map cA).toArray.size ep) where
 mem:=by simp
 obj:=λi h st b f=>by
  have e:b=it:=by simpa using f
  subst e;obtain⟨o,e,c,d⟩:=st;exact⟨o,e,λv z=>by rw[d]at z;cases z⟩
 keep:=λi h h' st k=>st.at λo e=>k it (by simp) o e
 item:=by
  intro X hP hw hK J i a s σ H E I m st B;subst hP hw hK;obtain⟨C,L⟩:=B;obtain⟨r,_⟩:=I.hok d _ C;obtain⟨D,x,M,n,F,p⟩:=m it (by simp);have R:=Paired.length q;obtain⟨⟨k,b,v⟩,g⟩:∃y,kvs[i]? = some y:=⟨_,OF L⟩;obtain⟨⟨U,b',u⟩,j⟩:∃y,xs[i]? = some y:=⟨_,OF (by omega)⟩;obtain⟨z1,z2,z3⟩:=mW q g j;have G:b=b':=z2;subst G;refine oy (e:=cA (U,b,u)) st r (by rw[Pn,Ov,j];rfl) λh' l O=>?_;have N:ae X a σ H { s with heap:=h' }:=I.turned (t':=s.toks) (λb o f e=>(O.2 b f).trans e) D x n F p;obtain⟨o,e,c,S⟩:=id l;exact⟨.ref b,rfl,hX (s:={ s with heap:=h' }) e c S (by decide) ⟨.ref b,H,N,rfl,⟨rfl,k,b,v,g,rfl⟩,l,λb f=>(m b f).1⟩⟩
 done:=by
  intro X hP hw hK J i a s σ H E I m st B;subst hP hw hK;obtain⟨C,L⟩:=B;obtain⟨r,_⟩:=I.hok d _ C;obtain⟨D,x,M,n,F,p⟩:=m it (by simp);have R:=Paired.length q;exact rh (I.ok.hd J) st r (by simp;omega) λh' eb=>⟨rfl,I.turned (t':=s.toks) (λb o f e=>eb b o f e) D x n F p⟩
 self:=λ_ _ _ _ _ st h=>wpAny_pyIter_keyiter st h
section
variable {X:Cx}{K:W.Frag}{o i e f value tg l:Expr}{td ty tx tv tl:TE}{pos pos' apos cpos:Pos}
def mM:QE X (.Dict [] [] pos) Hw:=⟨λb s σ H Q I h=>by
 refine wpAny_Dict_empty ⟨.ref s.heap.objs.size,_,I.laid (a:=s.heap.objs.size) (o:=fq s.heap.objs.size [] 0) (t':=s.toks) (λ_ _ q=>Ow _ q) (Oo _) ?_,Z,h _ _ (.mk' (I.hok.fresh (Oo _)))⟩;refine⟨⟨beq_eq_false_iff_ne.mpr (Ne.symm (OC I.big)),_,OB _ rfl,⟨rfl,rfl,rfl⟩,rfl⟩,⟨_,OB _ rfl⟩,λd e f c=>f.to c⟩⟩
def eW(O:X.A.units+64<cLine)(z:QE X o td)(L:QE X i ty)(J:mn i:=by intro _ _;rfl):QE X (.Subscript o i pos) (Co td ty):=⟨λc s σ H Q I h=>by
 refine nY Qv.lookup J (ap (z.h c s σ H _ I h) λu s1 ⟨x,q,p,D,F⟩=>ap (L.h c s1 σ q _ p F) λm N ⟨y,G,f,j,a,b,kvs,k,v,ex,g,d,C,n,l⟩=>?_);subst ex g;obtain rfl:u=Value.ref a:=D;obtain rfl:m=Value.ref b:=j;obtain⟨xs,ep,_,_,r,_⟩:=ju f d;exact⟨r.ty,Ab (by omega) f d C n λR M B e=>⟨v,G,B,e,l⟩⟩⟩
def mO(hu:X.A.units+64<cLine)(G:QE X o td)(U:QE X i ty)(q:QE X value tv)(S:swapsWith value (some (.Subscript o i pos')) pos.line X.env=pure false:=by rfl):QS X (.Assign [.Subscript o i pos'] value pos) (DR td ty tv):=⟨λc s σ H D I h=>by
 refine wpAny_Assign_Subscript (ap (q.h c s σ H _ I h) λr s1 ⟨v,C,p,l,N⟩=>ap (G.h c s1 σ C _ p N) λu B ⟨x,O,F,M,m⟩=>ap (U.h c B σ O _ F m) λn W ⟨y,Y,J,g,a,b,kvs,k,ex,f,d,L,lt,j⟩=>?_) S;subst ex f;obtain rfl:u=Value.ref a:=M;obtain rfl:n=Value.ref b:=g;exact Aa (by omega) J d L lt l λe V R z k4=>⟨σ,e,R,j e z k4⟩⟩
def xX(n:QE X l tl):QI X tg l (Iq tl):=⟨λa s σ H R I h=>by
 refine ap (n.h a s σ H _ I h) λv s1 ⟨x,m,c,k,d,kvs,ex,f,q⟩=>?_;subst ex;obtain rfl:v=Value.ref d:=k;obtain⟨xs,ep,j,i,r,_⟩:=ju c f;refine rg r ?_;refine⟨s1.heap.objs.size,[s1.heap.objs.size],_,jD d (fq d xs ep) kvs,m,Z,c.kept (t':=s1.toks) λb o e=>Ow _ e,B3 d _ xs ep kvs i,⟨_,OB _ Z,Z,Z⟩,λb g=>?_,q _ j⟩;have e:b=s1.heap.objs.size:=by simpa using g
 subst e;exact c.fpOk (Oo _) (c.hok.fresh (Oo _))⟩
def KJ{d:Addr}{o:HO}{kvs:List (ad × Addr × V)}{g:TG}{tb:TS}{D:dG}{σ:St}{H:Hp}(a:Nat->St->Hp->Prop)(j:a 0 σ H)(r:∀i σ H,i<=kvs.length->a i σ H->H d=some o)
 (n:∀i k b v σ H,kvs[i]? = some (k,b,v)->a i σ H->g (.ref b) σ H λh c=>tb { D with nx:=a (i+1),ct:=a (i+1),bk:=D.nx } h c) (hd:∀σ H,a kvs.length σ H->D.nx σ H) :
 ∃W:Nat->Nat->St->Hp->Prop,(∃m,W 0 m σ H)/\∀i m σ H,W i m σ H ->
  ((jD d o kvs).stop i H/\D.nx σ H)\/((jD d o kvs).go i H/\∃N:St->Hp->Prop,(∀f H',N f H'->∃m',m'<m/\W (i+1) m' f H')/\∀x H',(jD d o kvs).yld i H x H'->g x σ H' λh c=>tb { D with nx:=N,ct:=N,bk:=D.nx } h c):=by
 refine⟨λi m σ H=>m=kvs.length-i/\i<=kvs.length/\a i σ H,⟨kvs.length,by simp,Ox _,j⟩,?_⟩;rintro i m σ H ⟨rfl,s,p⟩;have q:=r i σ H s p;by_cases hlt:i<kvs.length
 ·refine .inr ⟨⟨q,hlt⟩,a (i+1),λf H' l=>⟨kvs.length-(i+1),by omega,rfl,hlt,l⟩,λx H' y=>?_⟩;obtain⟨rfl,k,b,v,y,rfl⟩:=y;exact n i k b v σ H' y p
 ·have e:i=kvs.length:=by omega
  subst e;exact .inl ⟨⟨q,Oo _⟩,hd σ H p⟩
end
section
variable {prog:Program}{w:World}{A:Around}{E:Value->Shared->Prop}{s:Shared}{d:Addr}{es:Array DictEntry}{ep:Nat}
def ri (r:fG s.heap d es ep):s.TypeIs (.ref d) "dict":=by
 obtain⟨_,o,e,c,_⟩:=r;exact⟨o,e,c.1⟩
def D1(d:Addr)(es:Array DictEntry)(ep:Nat):MeetsIn prog w (Builtin.«dict.__len__» ⟨[.ref d],[]⟩) (λ_ R s=>fG s.heap d es ep/\R (.ok (.ret (.int es.size s.toks))) { s with toks:=s.toks+1 }) :=
 .of_wp λA R s ⟨b,h⟩=>by
  obtain⟨hd,o,c,e,a⟩:=b;show wpAny _ _ (dictSize d >>= _) _ _ s;unfold dictSize;refine on (on (wpAny_dictEntries c a (Sa ?_)));show wpAny _ _ (Builtin.Dict.pendingCount d >>= _) _ _ s;refine on (wpAny_pendingCount_other hd ?_);refine wpAny_ret_mkInt ?_;rw[Nat.add_zero];exact h
def xT{Q:Value->Shared->Prop}(b:fG s.heap d es ep)(c:(es.size:Int)<2 ^ 63)(h:Q (.int es.size (s.toks+1)) { s with toks:=s.toks+1+1 }) :
 wpAny (model prog w) A (Builtin.«len» ⟨[.ref d],[]⟩) (λa e=>∃r,a=.done (.ret r)/\Q r e) E s:=by
 have ty:=ri b;unfold Builtin.«len»;refine on (m:=oneArg "len" _) (Sa ?_);refine on (m:=callSpecial? (.ref d) (Str.ofString "__len__")) (wpAny_callSpecial?_slot (name:=Str.ofString "__len__") ty QF
  (call_meetsIn QF ty PySem.F.entry_dict_len (PySem.F.args_dict_len_1 _) (D1 d es ep) ⟨b,?_⟩))
 show wpAny _ _ _ _ _ { s with toks:=s.toks+1 };refine on (wpAny_holding (Sa ?_));refine on (wpAny_letGo ?_);show wpAny _ _ (if ((es.size:Nat):Int)<0 then _ else _) _ _ _;rw[Sb (by omega)];show wpAny _ _ (if ((es.size:Nat):Int)>=2 ^ 63 then _ else _) _ _ _;rw[Sb (by omega)];exact on (wpAny_mkInt (Sa ⟨_,Z,h⟩))
def DZ{Q:Bool->Shared->Prop}(g:fG s.heap d es ep)(c:(es.size:Int)<2 ^ 63)(h:Q (es.size != 0) { s with toks:=s.toks+1+1 }):wpAny (model prog w) A (truthy (.ref d)) Q E s:=by
 have ty:=ri g;have b:((es.size:Int) != 0)=(es.size != 0):=by
  by_cases e:es.size=0
  ·rw[e];rfl
  ·have i:¬(es.size:Int)=0:=by omega
   rw[bne_iff_ne.mpr i,bne_iff_ne.mpr e]
 have key:wpAny (model prog w) A (runValue (.builtin "len" ⟨[.ref d],[]⟩)) (λr a=>r=.int es.size (s.toks+1)/\Q (es.size != 0) a) E s:=by
  refine wpAny_runValue (codeAny_builtin entry_len ?_);rw[Around.under_plainId plain_len _];exact wpAny_mono (xT (Q:=λr a=>r=.int es.size (s.toks+1)/\Q (es.size != 0) a) g c ⟨rfl,h⟩)
   (λj a h'=>by obtain⟨r,rfl,f⟩:=h';exact f) λ_ _ e=>e
 unfold truthy
 first
  | refine on (wpAny_callSpecial?_none (name:=Str.ofString "__bool__") ty noBool_dict ?_)
  | refine on (Sa (on (wpAny_callSpecial?_none (name:=Str.ofString "__bool__") ty noBool_dict ?_)))
 first
  | refine on (wpAny_specialOf (name:=Str.ofString "__len__") ty QF.lookup ?_)
  | refine on (Sa (on (wpAny_specialOf (name:=Str.ofString "__len__") ty QF.lookup ?_)))
 first
  | exact on (wpAny_mono key (λr a h'=>by obtain⟨rfl,f⟩:=h';exact Sa (b ▸ f)) λ_ _ e=>e)
  | exact on (Sa (on (wpAny_mono key (λr a h'=>by obtain⟨rfl,f⟩:=h';exact Sa (b ▸ f)) λ_ _ e=>e)))
end
def wF(H:Hp)(d:Addr)(n:Nat):Prop:=(∃kvs:List (aw × V),H d=some (.dK kvs)/\n=kvs.length)\/(∃kvs:List (List aw × V),H d=some (.dT kvs)/\n=kvs.length)\/∃kvs,DP H d kvs/\n=kvs.length
section
variable {X:Cx}{pins:List (Addr × Obj)}{σ:St}{H:Hp}{s:Shared}{d:Addr}{n:Nat}
def Ad(I:ae X pins σ H s)(h:wF H d n):∃es ep,fG s.heap d es ep/\es.size=n/\n<=sizeLine:=by
 rcases h with ⟨kvs,h,rfl⟩|⟨kvs,h,rfl⟩|⟨kvs,h,rfl⟩
 ·obtain⟨z,hdS,vs,a,o,es,ep,c,b,f,g,i,k⟩:=pJ I.hok h;refine⟨es,ep,⟨hdS,o,c,b,f⟩,?_,z⟩;have:=i.length;have:=a.length;rw[Pz]at *;omega
 ·obtain⟨z,hdS,xs,a,o,es,ep,c,b,f,g,i⟩:=(show bd X.prog X.w H s.heap d (.dT kvs) from I.hok d _ h);refine⟨es,ep,⟨hdS,o,c,b,f⟩,?_,z⟩;have e:=congrArg List.length g;rw[On,Pz]at e;rw[e,Paired.length a]
 ·obtain⟨xs,ep,e,j,r,_⟩:=ju I h;refine⟨_,ep,⟨r.big,r.obj⟩,?_,h.le⟩;rw[OE,On];exact (Paired.length j).symm
def xy{n:Nat}(h:n<=sizeLine):(n:Int)<2 ^ 63:=by rw[sizeLine_eq]at h;omega
end
def Cg(t:TE):TT:=λσ H Q=>t σ H λx a=>∃d n,x=.ref d/\wF a d n/\Q (n != 0) a
def KA:List V->Hp->VK->Prop:=λxs H Q=>∃d n,xs=[.ref d]/\wF H d n/\Q (.int (n:Int)) H
def KB(neg:Bool):R2:=λx y H Q=>∃b a kvs k,x=.ref b/\y=.ref a/\DP H a kvs/\bc H k b/\Q (.bl (if neg then !(aS kvs k).isSome else (aS kvs k).isSome)) H
section
variable {X:Cx}
def xV{e:Expr}{t:TE}(h:QE X e t)(f:∀whole,isTrue e X.env whole=(do let v <- whole;standAt e.pos;holding [v] (truthy v)):=by intro _;rfl):QT X e (Cg t):=⟨by
 intro a s σ H Q I hw;refine isTrue_plain (ap (h.h a s σ H _ I hw) λv s1 ⟨x,l,b,i,d,n,ex,c,j⟩=>?_) (f _);subst ex;obtain rfl:v=Value.ref d:=i;obtain⟨es,ep,r,g,k⟩:=Ad b c;refine DZ r (xy (by omega)) ?_;rw[g];exact⟨_,b.tok _,j⟩⟩
def LO:bV X (.builtin "len") KA:=by
 intro a s σ H us vs Q I r q;obtain⟨d,n,rfl,b,q⟩:=q;obtain⟨u,rfl,e⟩:=jJ r;cases e;obtain⟨es,ep,f,c,g⟩:=Ad I b;refine Calls.call_function_entry kind_len plain_len entry_len (args_len1 _) (xT f (xy (by omega)) ?_);rw[c];exact⟨.int (n:Int),H,I.tok _,⟨_,Z⟩,q⟩
def su(j:X.A.units+64<cLine):aM X (compareOp .NotIn) (KB true):=by
 intro c s σ H x y v u Q I h i q;obtain⟨b,a,kvs,k,rfl,rfl,dp,g,q⟩:=q;cases h;cases i;obtain⟨xs,ep,l,f,r,d⟩:=ju I dp;refine wpAny_notIn_heap (knd:=lG X.prog X.w) (by show X.A.units+1+8<cLine;omega) (oK I.hok g) r.big d ?_;refine⟨.bl _,H,I.tok _,Z,?_⟩;have e:(aS kvs k).isSome=(atKey xs k).isSome:=by rw[(f.val k).isSome_eq,PQ]
 rw[<- e];exact q
end
def jE(d:Addr)(o:HO)(kvs:List (ad × Addr × V)):It :=
 ⟨λi H=>H d=some o/\i<kvs.length,λi H x H'=>∃p k b v,x=.ref p/\kvs[i]? = some (k,b,v)/\aZ H p (.tup [.ref b,v]) H',λi H=>H d=some o/\kvs.length<=i⟩
def BY{P:Program}{w:World}{K:W.Frag}{D:List Expr}{kk:Nat}{pp:Pos}(d it:Addr)(xs:List (ad × Addr × Value))(ep:Nat)(kvs:List (ad × Addr × V))(F:KP kvs xs)(S:d≠it):d7 P w K (.Tuple D kk pp) (jE d (fq d xs ep) kvs) [it] it (λi h=>∃ok l,IsItemIter h it d i (xs.map cA).toArray.size ep ok l) where
 mem:=by simp
 obj:=λi h st b g=>by
  obtain⟨ok,l,a⟩:=st;have j:b=it:=by simpa using g
  subst j;exact⟨_,a,λv z=>by cases (show Data.fields _=Data.cell v from z)⟩
 keep:=λi h h' st k=>by
  obtain⟨ok,l,a⟩:=st;exact⟨ok,l,k it (by simp) _ a⟩
 item:=by
  intro X hP hw hK O i c s σ H E I C st J;subst hP hw hK;obtain⟨ok,l,a⟩:=st;obtain⟨L,R⟩:=J;obtain⟨r,_⟩:=I.hok d _ L;have m:fG s.heap d (xs.map cA).toArray ep:=⟨r.big,r.obj⟩;have U:=Paired.length F;obtain⟨⟨k,b,v⟩,n⟩:∃y,kvs[i]? = some y:=⟨_,OF R⟩;obtain⟨⟨k',b',u⟩,p⟩:∃y,xs[i]? = some y:=⟨_,OF (by omega)⟩;obtain⟨z1,z2,z3⟩:=mW F n p;have N:b=b':=z2;subst N;have f:it<s.heap.objs.size:=Oy a;refine xR (e:=cA (k',b,u)) a m (by rw[Pn,Ov,p];rfl) λh' ho hT hk=>?_;refine⟨_,rfl,wpAny_letOwnedTupleGo_items (s:={ s with heap:=h' }) ho λq G x=>?_⟩;have hTe:s.heap.objs.size≠it:=PB f;have hT2:q.get? s.heap.objs.size=some { cls:=.type "tuple",data:=.seq #[.ref b,u] }:=(x.2 _ hTe).trans hT;have Y:ae X c σ (upd H s.heap.objs.size (.tup [.ref b,v])) { s with heap:=q }:=by
   refine I.turnedN (t':=s.toks) (fp:=[it]) (λb o g M=>?_) C (Oo _) (oO ⟨_,hT2,Z,_,Z⟩ Z z3);have B:b≠it:=λz=>g (by simp[z]);exact (x.2 b B).trans (hk b o B M)
  refine⟨.ref s.heap.objs.size,_,Y,Z,⟨_,k,b,v,Z,n,.mk' I.fresh⟩,⟨_,_,G⟩,λb g=>?_⟩;have j:b=it:=by simpa using g
  rw[am (by rw[j];exact OC f)];exact (C b g).1
 done:=by
  intro X hP hw hK O i c s σ H E I C st J;subst hP hw hK;obtain⟨ok,l,a⟩:=st;obtain⟨L,R⟩:=J;obtain⟨r,_⟩:=I.hok d _ L;have m:fG s.heap d (xs.map cA).toArray ep:=⟨r.big,r.obj⟩;have U:=Paired.length F;exact xS (I.ok.hd O) a m (by simp;omega) λh' eb=>⟨rfl,I.turnedL (t':=s.toks) (fp:=[it]) (λb o g M=>eb b o (λz=>g (by simp[z])) M) C⟩
 self:=λA i s Q E st h=>by
  obtain⟨ok,l,a⟩:=st;have hT:s.TypeIs (.ref it) "dict_itemiterator":=⟨_,a,rfl⟩;refine wpAny_pyIter_slot hT P7 (wpAny_call_entry P7 hT ue ?_ (Q9 _));show wpAny _ _ (ret (.ref it)) _ _ s;exact Sa ⟨_,Z, "dict_itemiterator",_,hT,PH.lookup,h⟩
def Io(b:TE):TI:=λσ H R=>b σ H λx a=>∃d kvs,x=.ref d/\DP a d kvs/\∀o,a d=some o->R (jE d o kvs) a
section
variable {X:Cx}{o:Expr}{es:List Expr}{kk:Nat}{pp apos cpos:Pos}{td:TE}
def ro (B:QE X o td) (l:attributeBase o "items" X.env (eval o X.env)=eval o X.env:=by rfl) (v:(apos.endLine == cpos.line)=true:=by rfl):QI X (.Tuple es kk pp) (.Call (.Attribute o "items" apos) [] [] cpos) (Io td):=⟨by
 intro c s σ H R I h;refine wpAny_Call_method (T := "dict") (id := "dict.items") l Z v PU P8 Ra (ap (B.h c s σ H _ I h) λu s1 ⟨x,G,i,D,d,kvs,ex,dp,q⟩=>?_);subst ex;obtain rfl:u=Value.ref d:=D;obtain⟨xs,ep,F,p,r,J⟩:=ju i dp;have k:fG s1.heap d (xs.map cA).toArray ep:=⟨r.big,r.obj⟩;have ty:=ri k;obtain⟨m,a,n,C⟩:=r.obj;refine⟨ty,λb z=>by cases z;exact⟨m,a,n.2.1⟩,?_⟩;show wpAny _ _ (callWith cpos (.builtin "dict.items") [.ref d] [] []) _ _ s1;refine method_meetsIn P8 Rb rfl (Qy ⟨rfl,ty,Rc _,_,yL d r.big,ty,?_⟩);refine xQ (d:=d) (es:=(xs.map cA).toArray) (ep:=ep) ⟨_,OB _ Z,Z,Z⟩ ⟨r.big,m,Ow _ a,n,C⟩ ?_;have hsz:(s1.heap.push { cls:=.type "dict_items",data:=.fields #[.ref d] }).objs.size=s1.heap.objs.size+1:=Pp ..;have k2:∀b o,s1.heap.get? b=some o->((s1.heap.push { cls:=.type "dict_items",data:=.fields #[.ref d] }).push { cls:=.type "dict_itemiterator",data:=.fields #[.none,.bool false,.ref d,.int 0 0,.int (xs.map cA).toArray.size 0,.int ep 0,.none,.none] }).get? b=some o:=λb o e=>Ow _ (Ow _ e);have y:=i.kept (t':=s1.toks) k2;have g:s1.heap.objs.size<=(s1.heap.push { cls:=.type "dict_items",data:=.fields #[.ref d] }).objs.size:=by rw[hsz];exact Pk _
 have j:d≠(s1.heap.push { cls:=.type "dict_items",data:=.fields #[.ref d] }).objs.size:=by rw[hsz];exact OC (PF (Oy a))
 refine⟨_,[_],_,jE d (fq d xs ep) kvs,_,Z,y,BY d _ xs ep kvs p j,⟨.none,.none,OB _ Z⟩,λb l=>?_,q _ F⟩;have f:b=(s1.heap.push { cls:=.type "dict_items",data:=.fields #[.ref d] }).objs.size:=by simpa using l
 exact i.fpOk (b:=b) (by rw[f];exact g) (i.hok.fresh (by rw[f];exact g))⟩
end
def zR{d:Addr}{o:HO}{kvs:List (ad × Addr × V)}{g:TG}{tb:TS}{D:dG}{σ:St}{H:Hp}(a:Nat->St->Hp->Prop)(j:a 0 σ H)(s:∀i σ H,i<=kvs.length->a i σ H->H d=some o)
 (r:∀i k b v p σ H H',kvs[i]? = some (k,b,v)->a i σ H->aZ H p (.tup [.ref b,v]) H'->g (.ref p) σ H' λh c=>tb { D with nx:=a (i+1),ct:=a (i+1),bk:=D.nx } h c) (hd:∀σ H,a kvs.length σ H->D.nx σ H) :
 ∃W:Nat->Nat->St->Hp->Prop,(∃m,W 0 m σ H)/\∀i m σ H,W i m σ H ->
  ((jE d o kvs).stop i H/\D.nx σ H)\/((jE d o kvs).go i H/\∃N:St->Hp->Prop,(∀f H',N f H'->∃m',m'<m/\W (i+1) m' f H')/\∀x H',(jE d o kvs).yld i H x H'->g x σ H' λh c=>tb { D with nx:=N,ct:=N,bk:=D.nx } h c):=by
 refine⟨λi m σ H=>m=kvs.length-i/\i<=kvs.length/\a i σ H,⟨kvs.length,by simp,Ox _,j⟩,?_⟩;rintro i m σ H ⟨rfl,u,p⟩;have q:=s i σ H u p;by_cases hlt:i<kvs.length
 ·refine .inr ⟨⟨q,hlt⟩,a (i+1),λf H' l=>⟨kvs.length-(i+1),by omega,rfl,hlt,l⟩,λx H' y=>?_⟩;obtain⟨pp,k,b,v,rfl,y,n⟩:=y;exact r i k b v pp σ H H' y p n
 ·have e:i=kvs.length:=by omega
  subst e;exact .inl ⟨⟨q,Oo _⟩,hd σ H p⟩
def Lv{K:W.Frag}{d:Addr}{o:HO}{kvs:List (ad × Addr × V)}{cs:St}{D:TT}{C:TE}{H:Hp}{Q:VK}(h:Nat->List V->Hp->Prop)(F:h 0 [] H)(J:∀i f H,i<=kvs.length->h i f H->H d=some o/\f.length<=i)(hz:kvs.length<=sizeLine)
 (I:∀i k b v f H H' (N:List V->Hp->Prop),kvs[i]? = some (k,b,v)->h i f H->af H H'->(∀a H',h (i+1) a H'->N a H')->D (some (.ref b)::some v::cs) H' λc s=>if c=true then C (some (.ref b)::some v::cs) s λy G=>N (f++[y]) G else N f s)
 (hd:∀f H p H',h kvs.length f H->aZ H p (.lst f) H'->Q (.ref p) H') :
 fU (jE d o kvs) H (List.replicate 2 none++cs) (jp K 2 (gC (bT 0) (gC (bT 1) lX))) D C Q:=by
 refine⟨λi m f σ H=>m=kvs.length-i/\i<=kvs.length/\h i f H/\∃j l,σ=j::l::cs,⟨kvs.length,by simp,Ox _,F,none,none,rfl⟩,?_⟩;rintro i m f σ r ⟨rfl,L,p,j,l,rfl⟩;obtain⟨q,M⟩:=J i f r L p;by_cases hlt:i<kvs.length
 ·refine .inr ⟨⟨q,hlt⟩,by omega,λa u H'=>h (i+1) a H'/\∃j l,u=j::l::cs,λa u H' ⟨n,e⟩=>⟨kvs.length-(i+1),by omega,rfl,hlt,n,e⟩,λx H' y=>?_⟩;obtain⟨pp,k,b,v,rfl,y,B⟩:=y;refine⟨pp,_,Z,B.tup,Z,_,_,Z,_,_,Z,Z,?_⟩;exact I i k b v f r H' (λa H'=>h (i+1) a H'/\∃j l,some (.ref b)::some v::cs=j::l::cs) y p B.sm λ_ _ z=>⟨z,_,_,Z⟩
 ·have e:i=kvs.length:=by omega
  subst e;exact .inl ⟨⟨q,Oo _⟩,by omega,λn H' g=>hd f r n H' p g⟩
def Lx{d:Addr}{o:HO}{kvs:List (ad × Addr × V)}{cs:St}{B:TT}{u:TE}{H:Hp}{Q:VK}(h:Nat->List V->Hp->Prop)(C:h 0 [] H)(G:∀i f H,i<=kvs.length->h i f H->H d=some o/\f.length<=i)(hz:kvs.length<=sizeLine)
 (F:∀i k b v f H (N:List V->Hp->Prop),kvs[i]? = some (k,b,v)->h i f H->(∀a H',h (i+1) a H'->N a H')->B (some (.ref b)::cs) H λc r=>if c=true then u (some (.ref b)::cs) r λy D=>N (f++[y]) D else N f r)
 (hd:∀f H p H',h kvs.length f H->aZ H p (.lst f) H'->Q (.ref p) H') :
 fU (jD d o kvs) H (List.replicate 1 none++cs) (bT 0) B u Q:=by
 refine⟨λi m f σ H=>m=kvs.length-i/\i<=kvs.length/\h i f H/\∃j,σ=j::cs,⟨kvs.length,by simp,Ox _,C,none,rfl⟩,?_⟩;rintro i m f σ n ⟨rfl,I,p,j,rfl⟩;obtain⟨q,J⟩:=G i f n I p;by_cases hlt:i<kvs.length
 ·refine .inr ⟨⟨q,hlt⟩,by omega,λa s H'=>h (i+1) a H'/\∃j,s=j::cs,λa s H' ⟨l,e⟩=>⟨kvs.length-(i+1),by omega,rfl,hlt,l,e⟩,λx H' y=>?_⟩;obtain⟨rfl,k,b,v,y,rfl⟩:=y;exact F i k b v f H' (λa H'=>h (i+1) a H'/\∃j,some (.ref b)::cs=j::cs) y p λ_ _ z=>⟨z,_,Z⟩
 ·have e:i=kvs.length:=by omega
  subst e;exact .inl ⟨⟨q,Oo _⟩,by omega,λl H' g=>hd f n l H' p g⟩
def KG{d:Addr}{b:Obj}{kvs:List (aw × V)}{g:TG}{tb:TS}{D:dG}{σ:St}{H:Hp}(a:Nat->St->Hp->Prop)(j:a 0 σ H)(o:∀i σ H,i<=kvs.length->a i σ H->H d=some (.frz b (.dK kvs)))
 (n:∀i k v σ H,kvs[i]? = some (k,v)->a i σ H->g v σ H λh c=>tb { D with nx:=a (i+1),ct:=a (i+1),bk:=D.nx } h c) (hd:∀σ H,a kvs.length σ H->D.nx σ H) :
 ∃W:Nat->Nat->St->Hp->Prop,(∃m,W 0 m σ H)/\∀i m σ H,W i m σ H ->
  ((mq d b kvs).stop i H/\D.nx σ H)\/((mq d b kvs).go i H/\∃N:St->Hp->Prop,(∀f H',N f H'->∃m',m'<m/\W (i+1) m' f H')/\∀x H',(mq d b kvs).yld i H x H'->g x σ H' λh c=>tb { D with nx:=N,ct:=N,bk:=D.nx } h c):=by
 refine⟨λi m σ H=>m=kvs.length-i/\i<=kvs.length/\a i σ H,⟨kvs.length,by simp,Ox _,j⟩,?_⟩;rintro i m σ H ⟨rfl,r,p⟩;have q:=o i σ H r p;by_cases hlt:i<kvs.length
 ·refine .inr ⟨⟨q,hlt⟩,a (i+1),λf H' l=>⟨kvs.length-(i+1),by omega,rfl,hlt,l⟩,λx H' y=>?_⟩;obtain⟨rfl,k,y⟩:=y;exact n i k x σ H' y p
 ·have e:i=kvs.length:=by omega
  subst e;exact .inl ⟨⟨q,Oo _⟩,hd σ H p⟩
section
variable {X:Cx}
def Ch(t:TS):TS:=λD σ H=>∃d u,(∀o v,H d≠some (.frz o v))/\t { D with nx:=λa H'=>(∃ob,H' d=some (.frz ob u))/\D.nx a (upd H' d u) } σ H
def rj{e:Stmt}{t:TS}(h:QS X e t):QS X e (Ch t):=⟨λa s σ H D I q=>by
 obtain⟨d,u,i,q⟩:=q;refine wpAny_mono (h.h a s σ H _ I q) (λf s1 z=>?_) λ_ _ e=>e;cases f with
 | next =>
  obtain⟨g,l,c,⟨j,b⟩,k⟩:=z;exact⟨g,_,c.thaw b λo v e=>i o v (I.base.frzs _ _ _ e),k⟩
 | brk=>exact z
 | cont=>exact z
 | ret v=>exact z⟩
end
def DT(r:R2)(i ty g:TE):TS:=λD σ H=>i σ H λx h=>ty σ h λy d=>∃a b kvs k v,x=.ref a/\y=.ref b/\DP d a kvs/\bc d k b/\kvs.length<sizeLine/\aS kvs k=some v /\
 g σ d λu f=>r v u f λz e=>e=d/\∀H5,DP H5 a (cX kvs k b z)->(∀c,c≠a->H5 c=e c)->D.nx σ H5
section
variable {X:Cx}{o i value:Expr}{td ty tv:TE}{pos tpos:Pos}
def EH{op:Operator}{r:R2}(hu:X.A.units+64<cLine)(U:QE X o td)(hi:QE X i ty)(L:QE X value tv)(N:aM X (inplaceOp op) r)
 (hs:∀(f e new:Value),augStore i f e new=(do holding [new,f,e] (setItem f e new);release [new,f,e] [];pure Flow.next):=by intro _ _ _;rfl):QS X (.AugAssign (.Subscript o i tpos) op value pos) (DT r td ty tv):=⟨λc s σ H D I h=>by
 refine wpAny_AugAssign_SubscriptAny (ap (U.h c s σ H _ I h) λu s1 ⟨x,M,G,Y,q1⟩=>ap (hi.h c s1 σ M _ G q1) λe s2 ⟨y,H2,R,p,a,b,kvs,k,v,ex,n,d,j,lt,C,B⟩=>?_) hs;subst ex n;obtain rfl:u=Value.ref a:=Y;obtain rfl:e=Value.ref b:=p;refine Ab (by omega) R d j C λw' J V g=>?_;refine ap (L.h c J σ H2 _ V B) λv4 q ⟨u4,F,I4,m,q4⟩=>?_;refine ap (N c q σ F _ _ _ _ _ I4 g m q4) λv5 s5 ⟨z,H5,I5,W,O,q5⟩=>?_;subst O;exact Aa (by omega) I5 d j lt W λl s6 I6 S k6=>⟨σ,l,I6,q5 l S k6⟩⟩
end
def qB(Pt:Addr)(H:Hp):Prop:=H Pt=some (.tbl #[])/\∀b,b≠Pt->H b=none\/∃o xs,H b=some (.frz o (.lst xs))
def HJ{P:Program}{w:World}{K:W.Frag}{mg O:Str->Option Value}{CX:eQ}{k:Nat}{N a Pt c:Addr}{fd:FuncData}{x:Str}{sp:Sp}{f:Shared}{vs:List Value}{ns:List Int}
 (L:K.In f.heap) (G:f.heap.Ns mainGlobals mg) (g:f.heap.Ns builtinsNs O) (M:∀x:Str,x ≠ "__name__"->O x=bootBuiltins x) (J:f.heap.NoLimit) (hg:f.gens = #[])
 (hKP:K.lookup Pt=none) (hTab:f.heap.get? Pt=some (W.tabObj #[])) (R:W.codeHdIn K c Pt=true) (a0:f.heap.BuiltinsAt mg Pt)
 (D:f.heap.get? a=some { cls:=.type "list",data:=.seq vs.toArray }) (hi:IntsAre vs ns) (hl:ns.length<=sizeLine) (hr:bj k callerA)
 (F:∀base:Heap,K.In base->base.Ns mainGlobals mg->base.BuiltinsAt mg Pt->bD P w K mg base CX k N fd [x] sp) (B:∀(s:Shared) (u:Value),BindsTo s fd ⟨[u],[]⟩ [(x,u)])
 (Y:∀H:Hp,qB Pt H->aJ K H a (ns.map V.int)->sp [.ref a] H (λv _=>v=.bl true) λ_ _ _=>False)
 (hCX:∀H e j,CX [] H f (λ_ _ _=>False) e j->False) :
 codeAny (model P w) callerA (.call (.ref N) ⟨[.ref a],[]⟩) (λr j=>r=.ok (.ret (.bool true))/\OldK f.heap j.heap/\j.os=f.os/\AllBare j.gens) f:=by
 have rv:=qG hi;have lenV:=hi.length;have haP:a≠Pt:=λz=>by rw[z,hTab]at D;cases D
 have y:∀H:Hp,qB Pt H->aJ K H a (ns.map V.int)->bn P w H f.heap->(∀b,H b≠none->b=a\/b=Pt)->(H a≠none->K.lookup a=none) ->
  codeAny (model P w) callerA (.call (.ref N) ⟨[.ref a],[]⟩) (λr j=>r=.ok (.ret (.bool true))/\OldK f.heap j.heap/\j.os=f.os/\AllBare j.gens) f:=by
  intro H hO hS hok hA hK;have i:∀ {b:Addr} {o:Obj},f.heap.get? b=some o->H b=none->(dZ f.heap H).get? b=some o:=λe n=>zp e n;have noA:∀ {b:Addr} {o:Obj},f.heap.get? b=some o->(∀z n,o.data ≠ .seq z n)->(∀z,o.data ≠ .fields z)->H b=none:=λ{b o} e d1 d2=>by
   cases q:H b with
   | none=>rfl
   | some u =>
    rcases hA b (by rw[q];simp) with e'|e'
    ·subst e';rw[D]at e;cases e;exact (d1 _ _ Z).elim
    ·subst e';rw[hTab]at e;cases e;exact (d2 _ Z).elim
  have nsK:∀ {b:Addr} {m:Str->Option Value},f.heap.Ns b m->(dZ f.heap H).Ns b m:=λ{b m} ⟨o,es,ep,e,d,r⟩=>⟨o,es,ep,i e (noA e (λz n q=>by rw[d]at q;cases q) (λz q=>by rw[d]at q;cases q)),d,r⟩;have hKb:K.In (dZ f.heap H):=λb o e=>i (L b o e) (by
   cases q:H b with
   | none=>rfl
   | some u =>
    rcases hA b (by rw[q];simp) with e'|e'
    ·subst e';rw[hK (by rw[q];simp)]at e;cases e
    ·subst e';rw[hKP]at e;cases e)
  have hM:Mod K mg (dZ f.heap H):=⟨hKb,nsK G,⟨O,nsK g,M⟩,let ⟨mc,h1,h2⟩:=J;⟨mc,nsK h1,h2⟩⟩;have hB:(dZ f.heap H).BuiltinsAt mg Pt:=by
   obtain⟨bm,o,b1,b2,b3,b4,b5,b6,b7,S⟩:=a0;exact⟨bm,o,b1,b2,b3,b4,i b5 (noA b5 (λz n q=>by rw[S]at q;cases q) (λz q=>by rw[S]at q;cases q)),b6,b7,S⟩
  have e0:fk P w K mg (dZ f.heap H) callerA [] f H:=⟨rfl,hM,λb o e=>yC e,P2 (zo _ _),trivial,λb g=>Sd (show b∈([]:List Addr) from g) (by simp),hok,.of_eq hg⟩;refine codeAny_mono ((F _ hKb (nsK G) hB).run callerA [] f H ⟨[.ref a],[]⟩ [.ref a] [.ref a] _ _ hr e0 (B f (.ref a)) (.cons Z .nil) (Y H hO hS)) λr j h=>?_;cases r with
  | error e=>exact (hCX H e j h).elim
  | ok fl =>
   cases fl with
   | next=>exact False.elim h
   | brk=>exact False.elim h
   | cont=>exact False.elim h
   | ret u =>
    obtain⟨v,H',os,bare,un,p,r',q⟩:=h;have q':v=.bl true:=q;subst q';obtain rfl:u=Value.bool true:=r';have C:=W.codeHd_of_K L R;refine⟨rfl,⟨λb o e=>?_,λb o e=>un.there b o e (by simp)⟩,os,bare⟩;by_cases g:b=Pt
    ·subst g;rw[hTab]at e;cases e;obtain⟨I,U⟩:=un.tbls b #[] hO.1;have e3:=p b _ U;exact .inr (.inl ⟨(C.tab hTab).isCodeTable,Z,#[],I,Z,e3⟩)
    ·refine .inl ?_;cases q:H b with
     | none=>exact un.keep b o e q (by intro z;exact Sd (show b∈([]:List Addr) from z) (by simp)) (by simp)
     | some u =>
      rcases hO.2 b g with z|⟨ob,xs,z⟩
      ·rw[q]at z;cases z
      ·have z2:=un.frzs b ob _ z;obtain⟨e1,_⟩:=hok b _ z;obtain⟨U,_⟩:=p b _ z2;rw[e]at e1;cases e1;exact U
 have tabOk:∀H:Hp,bd P w H f.heap Pt (.tbl #[]):=λH=>hTab;cases hk:K.lookup a with
 | some o =>
  have e:=L a o hk;rw[D]at e;cases e;refine y (λb=>if b=Pt then some (.tbl #[]) else none) ⟨Sc rfl,λb g=>.inl (Sb g)⟩ (.inr ⟨_,vs.toArray,_,hk,rfl,rfl,rfl,by rw[OE,lenV];exact hl,by simpa using rv⟩) (λb u z=>?_) (λb z=>?_) λz=>Sd (Sb haP) z
  ·by_cases g:b=Pt
   ·have l:=(Sc g).symm.trans z;cases l;subst g;exact hTab
   ·have l:=(Sb g).symm.trans z;cases l
  ·by_cases g:b=Pt
   ·exact .inr g
   ·exact Sd (Sb g) z
 | none =>
  refine y (λb=>if b=Pt then some (.tbl #[]) else if b=a then some (.frz { cls:=.type "list",data:=.seq vs.toArray } (.lst (ns.map V.int))) else none) ⟨Sc Z,λb g=>?_⟩ (.inl (.inr ⟨{ cls:=.type "list",data:=.seq vs.toArray },(Sb haP).trans (Sc Z)⟩)) (λb u z=>?_) (λb z=>?_) λ_=>hk
  ·dsimp only;rw[Sb g];by_cases g:b=a
   ·exact .inr ⟨_,_,Sc g⟩
   ·exact .inl (Sb g)
  ·by_cases hp:b=Pt
   ·have l:=(Sc hp).symm.trans z;cases l;subst hp;exact hTab
   ·have z:=(Sb hp).symm.trans z;by_cases g:b=a
    ·have l:=(Sc g).symm.trans z;cases l;subst g;exact⟨D,by rw[On];exact hl,vs,_,rv,D⟩
    ·have l:=(Sb g).symm.trans z;cases l
  ·by_cases hp:b=Pt
   ·exact .inr hp
   ·by_cases g:b=a
    ·exact .inl g
    ·exact Sd ((Sb hp).trans (Sb g)) z
def walk_ofT{l:W.OpenLaw}{n k:Nat}{q:Program}{j:List Str}{XP:(Str->Option Value)->Heap->Prop}{U:World->Heap->Prop}{d:DefRec}{K:Params->W.Frag}{CX:World->eQ}{sp:World->Sp}{x:Str}{Pt c:Addr}
 (hn:l.most=some n) (C:n<=sizeLine) (O:d.params.defaults=[]) (hr:bj k callerA)
 (hY:∀(w:World) (h:Heap),U w h->(K w.params).In h/\h.get? Pt=some (W.tabObj #[]))
 (hKP:∀w:World,(K w.params).lookup Pt=none) (I:∀w:World,W.codeHdIn (K w.params) c Pt=true)
 (F:∀(w:World) (mg:Str->Option Value) (y:Addr) (h:Heap),(K w.params).In h->h.Ns mainGlobals mg->mg d.name=some (.ref y) ->
   ∃J:FuncData,(∀(s:Shared) (u:Value),BindsTo s J ⟨[u],[]⟩ [(x,u)]) /\
    ∀base:Heap,(K w.params).In base->base.Ns mainGlobals mg->base.BuiltinsAt mg Pt->bD l.prog w (K w.params) mg base (CX w) k y J [x] (sp w))
 (L:∀(w:World) (H:Hp) (a:Addr) (ns:List Int),ns.length<=n->qB Pt H->aJ (K w.params) H a (ns.map V.int)->sp w [.ref a] H (λv _=>v=.bl true) λ_ _ _=>False)
 (hCX:∀(w:World) (H:Hp) (s:Shared) (e:Value) (B:Shared),CX w [] H s (λ_ _ _=>False) e B->False) :
 W.WalkO q j XP U l.row.toRowW d [] (λf vs=>PySem.call f vs):=by
 refine Att.attach_call hn O λw s₀ s₁ mg mb y o pm cd a6 a vs ns G Y ho hd R M p m i hg=>?_;obtain⟨S,hTab⟩:=hY w _ Y;obtain⟨J,hb,hF⟩:=F w mg y _ S G.T.g M;have N:s₁.heap.BuiltinsAt mg Pt:=by
  obtain⟨D,ob,b1,b2,r,b4,b5,z⟩:=G.T.bmain;have hbP:D≠Pt:=λq=>by
   rw[q,hTab]at r;cases r;cases b4
  have hbG:D≠mainGlobals:=λq=>by
   obtain⟨o,es,ep,e,hd,_⟩:=G.T.g;rw[q,e]at r;cases r;rw[hd]at z;cases z
  exact⟨D,ob,b1,b2,hbG,hbP,r,b4,b5,z⟩
 exact HJ S G.T.g G.T.b G.T.builtins G.T.nolimit hg (hKP w) hTab (I w) N p m (OJ i C) hr hF hb (λH hO hS=>L w H a ns i hO hS) λH e B=>hCX w H s₁ e B
def pL(P:Program)(w:World)(K:W.Frag)(mg:Str->Option Value)(base:Heap)(x y:Str)(qual:Str)(scope:Scope)(f a:Addr)(cd:Value)(A:Around)(outer:List Env)(s:Shared)(H:Hp):Cx where
 prog:=P
 w:=w
 K:=K
 mg:=mg
 base:=base
 A:=A.deeper (W.envX qual scope s.heap.objs.size f cd [(y,a)])
 N:=[x,y]
 s₀:=s
 H₀:=H
 env:=W.envX qual scope s.heap.objs.size f cd [(y,a)]
 outer:=outer
 stack:=W.envX qual scope s.heap.objs.size f cd [(y,a)]::outer
 ex:=[]
 calm:=true
 fn:=λ_=>false
 pn:=[]
 xe:=λ_ _=>False
structure AU (x y:Str) (sc:Scope):Prop where
 kind:sc.kind=.function
 co:sc.isCoroutine=false
 gen:sc.isGenerator=false
 ne:x≠y
 hx:sc.names.lookup x=some .local
 hy:sc.names.lookup y=some .free
 nocell:∀z∈sc.names,z.2 ≠ .cell
 only:∀z∈sc.names,z.2=.free->z.1=y
def HL{P:Program}{w:World}{K:W.Frag}{mg:Str->Option Value}{base:Heap}{A:Around}{outer:List Env}{s:Shared}{H:Hp}{f n d:Addr}{name qual x y:Str}{params:Arguments}{body:Expr}{scope:Scope}{pm r:Value}{v L:V}{u M:Value}{t:TE}{Q:VK}{k:Nat}
 (hr:bj (k+1) A) (g:fk P w K mg base A outer s H) (S:AU x y scope)
 (hf:s.heap.get? f=some (W.kla_obj name qual params body scope [(y,d)] pm n r)) (Y:s.heap.CodeRec (.ref n) qual)
 (C:s.heap.IsCell d (some M)) (hH0:H d=none) (a0:ax L M) (rv:ax v u)
 (hb:bindArgs (W.kla_fn name qual params body scope [(y,d)] pm (.ref n) r) ⟨[u],[]⟩=pure [(x,u)])
 (ht:QE (pL P w K mg base x y qual scope f d (.ref n) A outer s H) body t) (q:t [some v,some L] H Q) :
 codeAny (model P w) A (.call (.ref f) ⟨[u],[]⟩) (CR bQ outer P w H s Q E0) s:=by
 have U:s.heap.NoLimit:=g.mod.nolimit.keeps λb o e=>(g.bs b o e).1;refine W.kla_callFunE hr.depth hf Z S.co S.gen Z Y ?_;rw[hb];refine Sa (wpAny_newFunctionEnv S.nocell (λz hz=>by rw[Op.mp hz];exact S.hx) (λh₁ R B=>⟨U.fresh _ B,?_⟩) S.kind);show codeAny _ _ (.expr body (W.envX qual scope s.heap.objs.size f (.ref n) [(y,d)])) _ _;have m:∀b o,s.heap.get? b=some o->h₁.get? b=some o:=λb o e=>B.extBut b o (OC (Oy e)) (Ow _ e);have noA:∀b:Addr,b∉(pL P w K mg base x y qual scope f d (.ref n) A outer s H).ex:=λb z=>Sd (show b∈([]:List Addr) from z) (by simp);have l:∀(z:Str) (c:Addr),([(y,d)]:List (Str × Addr)).lookup z=some c->z=y/\c=d:=λz c h=>by
  rw[O4]at h
  split at h
  ·rename_i e;cases h;exact⟨eq_of_beq e,Z⟩
  ·cases h
 have yl:([(y,d)]:List (Str × Addr)).lookup y=some d:=by rw[O4];simp
 have I:ae (pL P w K mg base x y qual scope f d (.ref n) A outer s H) [] [some v,some L] H { s with heap:=h₁,toks:=s.toks+[(x,u)].length }:=by
  refine⟨⟨g.mod,S.kind,rfl,rfl,Oo _,λj z c D G=>?_,λj a=>?_,λj c hc h=>(nomatch hc),λ_=>hr.hd,Around.frames_deeper g.frames,.inr ⟨rfl,rfl⟩,λb z=>Sd z (noA b),g.bs,g.bsz,λb _ _=>noA b,λb z=>Sd z (noA b),g.funs,g.frf⟩,
   rfl,g.bare,Un.kept m,⟨_,R,λi j F D G h3=>?_⟩,λj c h=>?_,g.hok.fresh (Oo _),λj c h=>?_,λp hp=>Sd (show p∈([]:List (Addr × Obj)) from hp) (by simp),g.hok.kept m,rfl⟩
  ·exact (l _ _ D).1.trans (l _ _ G).1.symm
  ·have a:scope.names.lookup j=some .cell\/scope.names.lookup j=some .free:=a;rcases a with a|a
   ·exact Sd Z (S.nocell _ (PN a))
   ·have e:=S.only _ (PN a) rfl;exact⟨d,by have e:j=y:=e;rw[e];exact yl⟩
  ·match i with
   | 0 =>
    have N:x=j:=OI D;have e2:v=F:=OI (OI G);subst N;subst e2;exact⟨u,rv,.inl ⟨S.hx,by show List.lookup x [(x,u)]=_;rw[O4];simp⟩⟩
   | 1 =>
    have N:y=j:=OI D;have e2:L=F:=OI (OI G);subst N;subst e2;exact⟨M,a0,.inr ⟨.inr S.hy,d,yl,C.keeps m⟩⟩
   | i+2=>exact nomatch D
  ·obtain⟨_,rfl⟩:=l _ _ h;exact⟨_,C.keeps m⟩
  ·obtain⟨_,rfl⟩:=l _ _ h;exact hH0
 refine W.kla_codeExpr (wpAny_mono (ht.h [] _ _ H _ I q) (λz s' hs=>?_) λe s' hs=>False.elim hs);obtain⟨F,H',J,O,q'⟩:=hs;exact⟨F,H',J.os,J.bare,J.base,J.hok,O,q'⟩
def dj(a:Addr)(o:Obj):HO:=.ext λh=>h.get? a=some o
def dj.mk{P:Program}{w:World}{H:Hp}{h:Heap}{a:Addr}{o:Obj}(e:h.get? a=some o):bd P w H h a (dj a o):=⟨e,⟨o,e⟩,λ_ _ p k=>k _ p⟩
def dj.at{P:Program}{w:World}{H:Hp}{h:Heap}{a:Addr}{o:Obj}(x:bn P w H h)(e:H a=some (dj a o)):h.get? a=some o:=(x a _ e).1
structure nP (H:Hp) (c:Addr) (qual:Str):Prop where
 ex:∃oc vs t,H c=some (dj c oc)/\oc.data=.fields vs/\vs[1]? = some (.str qual t)
def eK(H:Hp)(Pt:Addr)(qual:Str)(pos:Pos):Prop :=
 H Pt=some (.tbl #[])\/∃c',H Pt=some (.tbl #[rawInt pos.line,rawInt pos.col,.ref c'])/\nP H c' qual
def eK.tbl{H:Hp}{Pt:Addr}{qual:Str}{pos:Pos}(h:eK H Pt qual pos):∃ps,H Pt=some (.tbl ps):=by
 rcases h with h|⟨_,h,_⟩
 ·exact⟨_,h⟩
 ·exact⟨_,h⟩
def nP.cd{P:Program}{w:World}{H:Hp}{h:Heap}{c:Addr}{qual:Str}(x:bn P w H h)(e:nP H c qual):h.CodeRec (.ref c) qual:=by
 obtain⟨a,vs,t,e,d,v⟩:=e;exact⟨c,a,vs,t,Z,dj.at x e,d,v⟩
def G2{X:Cx}{B:List (Addr × Obj)}{σ:St}{H:Hp}{s:Shared}{c Pt:Addr}{params:Arguments}{body:Expr}{scope:Scope}{pos:Pos}{k:List (Str × Addr)}{Q:Value->Shared->Prop}{E:Value->Shared->Prop}{M:Model}{A:Around}
 (I:ae X B σ H s) (Y:defaultsOf params X.env=([],[])) (L:closureFor scope X.env=pure k) (p:X.env.code=.ref c) (a9:W.codeHdIn X.K c Pt=true) (V:X.base.BuiltinsAt X.mg Pt)
 (hT:eK H Pt (X.env.qual ++ "<lambda>") pos)
 (h:∀(f g:Addr) (j:Value) (H':Hp) (s':Shared),H f=none->H' f=some (dj f (W.kla_obj "<lambda>" (X.env.qual ++ "<lambda>") params body scope k ((X.mg "__name__").getD .none) g j)) ->
   H' Pt=some (.tbl #[rawInt pos.line,rawInt pos.col,.ref g])->nP H' g (X.env.qual ++ "<lambda>")->(∀b o,b≠Pt->H b=some o->H' b=some o)->ae X B σ H' s'->Q (.ref f) s') :
 wpAny M A (eval (.Lambda params body scope pos) X.env) Q E s:=by
 have C:=W.codeHd_of_K I.kIn a9;have a0:=V.keeps I.bk;have hg:s.heap.Ns mainGlobals X.mg:=by
  obtain⟨o,es,ep,e,r⟩:=I.ok.mod.glob;exact⟨o,es,ep,I.bk _ _ e,r⟩
 refine W.kla_eval Y ?_;rcases hT with hT|⟨g,hT,hco⟩
 ·have hP:s.heap.get? Pt=some (W.tabObj #[]):=I.hok Pt _ hT;have hgP:mainGlobals≠Pt:=λq=>by
   obtain⟨o,es,ep,e,d,_⟩:=hg;rw[q,hP]at e;cases e;cases d
  refine W.kla_makeFunction (mg:=X.mg) L I.ok.glob hg p C hP trivial Z hgP a0 λg j h' tk hx m x O a8=>?_;obtain⟨c₂,U,vs,tq,e2,ab,a5,a4⟩:=O;cases e2;generalize hfo:W.kla_obj "<lambda>" (X.env.qual ++ "<lambda>") params body scope k ((X.mg "__name__").getD .none) g j=fo;have D:fo.isFreed=false:=by rw[<- hfo];rfl
  have hPs:Pt<s.heap.objs.size:=Oy hP;have hPc:Pt≠g:=OC (OH hPs m);have a6:g≠h'.objs.size:=OC x;have hPf:Pt≠h'.objs.size:=OC (QY (OH hPs m) x);have nc:H g=none:=I.hok.fresh m;have S:H h'.objs.size=none:=I.hok.fresh (OJ m (Qf x));have y:∀b o,b≠Pt->s.heap.get? b=some o->(h'.push fo).get? b=some o:=λb o V e=>Ow _ (hx b o V e);have eP:(h'.push fo).get? Pt=some (W.tabObj #[rawInt pos.line,rawInt pos.col,.ref g]):=by
   have:=Ow fo a8;simpa using this
  let H3:Hp:=upd (upd (upd H Pt (.tbl #[rawInt pos.line,rawInt pos.col,.ref g])) g (dj g U)) h'.objs.size (dj h'.objs.size fo)
  have G:∀b,b≠Pt->b≠g->b≠h'.objs.size->H3 b=H b:=λb h1 R h3=>by
   show upd (upd (upd H Pt _) g _) h'.objs.size _ b=_;rw[am h3,am R,am h1]
  have F:H3 Pt=some (.tbl #[rawInt pos.line,rawInt pos.col,.ref g]):=by
   show upd (upd (upd H Pt _) g _) h'.objs.size _ Pt=_;rw[am hPf,am hPc,aP]
  have a2:H3 g=some (dj g U):=by
   show upd (upd (upd H Pt _) g _) h'.objs.size _ g=_;rw[am a6,aP]
  have N:H3 h'.objs.size=some (dj h'.objs.size fo):=aP;have i:∀b o,b≠Pt->H b=some o->H3 b=some o:=λb o V e=>by
   rw[G b V (λz=>by rw[z,nc]at e;cases e) (λz=>by rw[z,S]at e;cases e)];exact e
  refine h _ g j H3 _ S (by rw[hfo];exact N) F ⟨U,vs,tq,a2,a5,a4⟩ i ?_;refine I.un (H':=H3) (h':=h'.push fo) (t':=tk) ⟨λb o e n _ _=>y b o (λz=>by rw[z,hT]at n;cases n) e,λb o e n _ _=>⟨o.slots,y b o (λz=>by rw[z,hT]at n;cases n) e⟩,λb o e n _=>?_,λb o e _=>?_,λb xs e=>i b _ (λz=>by rw[z,hT]at e;cases e) e,λb o u e=>i b _ (λz=>by rw[z,hT]at e;cases e) e,λb ps e=>?_⟩ λb u e=>?_
  ·have l:b<s.heap.objs.size:=Oy e;rw[G b (λz=>by rw[z,hT]at n;cases n) (OC (OH l m)) (OC (QY (OH l m) x))];exact n
  ·by_cases hb':b=Pt
   ·exact⟨_,hb' ▸ eP⟩
   ·exact⟨o,y b o hb' e⟩
  ·by_cases hb':b=Pt
   ·rw[hb',hT]at e;cases e;exact⟨#[rawInt pos.line,rawInt pos.col,.ref g],by rw[hb',F];simp⟩
   ·exact⟨#[],by rw[i b _ hb' e];simp⟩
  ·by_cases h1:b=h'.objs.size
   ·rw[h1,N]at e;cases e;rw[h1];exact dj.mk (OB _ D)
   ·by_cases R:b=g
    ·rw[R,a2]at e;cases e;rw[R];exact dj.mk (Ow _ ab)
    ·by_cases h4:b=Pt
     ·rw[h4,F]at e;cases e;rw[h4];exact eP
     ·rw[G b h4 R h1]at e;refine (I.hok b u e).stay (λa o J q=>y a o (λz=>?_) q) (λa q=>i a _ (λz=>by rw[z,hT]at q;cases q) q) λa xs q=>i a _ (λz=>by rw[z,hT]at q;cases q) q;rcases J with J|J
      ·exact h4 (J.symm.trans z)
      ·rw[z,hT]at J;cases J
 ·have hP:s.heap.get? Pt=some (W.tabObj #[rawInt pos.line,rawInt pos.col,.ref g]):=I.hok Pt _ hT;have hf:codeAmong pos (#[rawInt pos.line,rawInt pos.col,Value.ref g]:Array Value).toList=some (.ref g):=by
   show codeAmong pos [rawInt pos.line,rawInt pos.col,.ref g]=_;simp[codeAmong,rawInt]
  refine W.kla_makeFunctionHit (mg:=X.mg) L I.ok.glob hg p C hP trivial hf a0 λj h' tk hk hsz=>?_;generalize hfo:({ cls:=.type "function",data:=.func (W.kla_fn "<lambda>" (X.env.qual ++ "<lambda>") params body scope k ((X.mg "__name__").getD .none) (.ref g) j) }:Obj)=fo;have D:fo.isFreed=false:=by rw[<- hfo];rfl
  have S:H h'.objs.size=none:=I.hok.fresh hsz;have a3:∀b o,s.heap.get? b=some o->(h'.push fo).get? b=some o:=λb o e=>Ow _ (hk b o e);have i:∀b o,H b=some o->upd H h'.objs.size (dj h'.objs.size fo) b=some o:=λb o e=>by
   rw[am (λz=>by rw[z,S]at e;cases e)];exact e
  refine h _ g j (upd H h'.objs.size (dj h'.objs.size fo)) _ S (by rw[aP,<- hfo]) (i _ _ hT) ?_ (λb o _ e=>i b o e) (I.laid (a:=h'.objs.size) (o:=dj h'.objs.size fo) (t':=tk) a3 hsz (dj.mk (OB _ D)));obtain⟨U,vs,t,e,d,v⟩:=hco;exact⟨U,vs,t,i _ _ e,d,v⟩
structure dM (X:Cx) (pins:List (Addr × Obj)) (H:Hp) (a:Addr):Prop where
 no:H a=none
 loc:a≠X.env.locals
 fs:a∉X.fs
 new:X.s₀.heap.objs.size<=a
 cell:∀x c,X.env.cells.lookup x=some c->c≠a
 pin:∀p∈X.pn++pins,p.1≠a
section
variable {X:Cx}{pins:List (Addr × Obj)}{σ:St}{H:Hp}{s:Shared}
def dM.fresh(I:ae X pins σ H s){a:Addr}(h:s.heap.objs.size<=a):dM X pins H a :=
 ⟨I.hok.fresh h,λz=>Sd (OH I.lt h) (by rw[z];exact O5 _),I.nofs h,OJ I.sz h,
  λx c e z=>by
   obtain⟨v,o,b,_⟩:=I.cell x c e;exact Sd (OH (Oy b) h) (by rw[z];exact O5 _),
  λp d z=>by
   have b:=(I.pin p d).1;exact Sd (OH (Oy b) h) (by rw[z];exact O5 _)⟩
def dM.turned{a:Addr}{h':Heap}{t':Nat}(o:dM X pins H a)(I:ae X pins σ H s)(k:∀b u,b≠a->s.heap.get? b=some u->h'.get? b=some u):ae X pins σ H { s with heap:=h',toks:=t' } :=
 I.turned k o.no o.loc (.inr o.new) o.cell o.pin
structure ij (X:Cx) (pins:List (Addr × Obj)) (σ:St) (H:Hp) (it S d:Addr) (n ep j:Nat) (arr:Array Value) (s:Shared):Prop where
 inv:ae X pins σ H s
 seq:∃c,s.heap.get? S=some (seqObj "list" arr c)
 iter:s.heap.IsKeyIter it d j n ep
def ij.call{it S d:Addr}{n ep j:Nat}{a:Array Value}(m:ij X pins σ H it S d n ep j a s)(oS:dM X pins H S)(oI:dM X pins H it){M:Model}{A:Around}{b:Sem Value}{q:Value->Prop}{Q:Value->Shared->Prop}{E:Value->Shared->Prop}
 (i:∀pins' s',ae X pins' σ H s'->wpAny M A b (λu g=>ae X pins' σ H g/\q u) (λ_ _=>False) s')
 (h:∀u g,ij X pins σ H it S d n ep j a g->q u->Q u g):wpAny M A b Q E s:=by
 obtain⟨I,⟨c,eS⟩,D⟩:=m;obtain⟨o,C,x,l⟩:=D;have B:ae X ((S,seqObj "list" a c)::(it,o)::pins) σ H s:=I.pins_of λp e=>by
  rcases OT.mp e with z|e
  ·subst z;exact⟨eS,oS.no,oS.loc,oS.fs,λv z=>by cases z⟩
  ·rcases OT.mp e with z|e
   ·subst z;exact⟨C,oI.no,oI.loc,oI.fs,λv z=>by have k:o.data=.cell v:=z;rw[l]at k;cases k⟩
   ·exact I.pin p (ON _ e)
 refine wpAny_mono (i _ s B) (λu g r=>?_) λ_ _ f=>f.elim;obtain⟨J,y⟩:=r;have pS:=(J.pin (S,seqObj "list" a c) (ON _ (.head _))).1;have pI:=(J.pin (it,o) (ON _ (.tail _ (.head _)))).1;exact h u g ⟨J.pins_of λp e=>J.pin p (ON _ (.tail _ (.tail _ e))),⟨c,pS⟩,⟨o,pI,x,l⟩⟩ y
def ij.write{it S d:Addr}{n ep j:Nat}{f:Array Value}(a:Array Value)(m:ij X pins σ H it S d n ep j f s)(oS:dM X pins H S)(hSI:S≠it){t':Nat} :
 ij X pins σ H it S d n ep j a { s with heap:=s.heap.update S (Obj.mapSeq λ_=>a),toks:=t' }:=by
 obtain⟨I,⟨c,eS⟩,l⟩:=m;have s1:=O6 s.heap S (Obj.mapSeq λ_=>a);obtain⟨o,h,g,i⟩:=l;exact⟨oS.turned I λb u k e=>(s1.2 b k).trans e,⟨_,get?_update_seq eS λ_=>a⟩,⟨o,(s1.2 it hSI.symm).trans h,g,i⟩⟩
variable {d it S f:Addr}{xs:List (ad × Addr × Value)}{ep:Nat}{kvs:List (ad × Addr × V)}{R:Result->Shared->Prop}
def Hn(U:KP kvs xs)(hd:H d=some (fq d xs ep))(g:Nat->Int)(hh:X.A.handled=none)(oS:dM X pins H S)(oI:dM X pins H it)(hSI:S≠it)
 (C:∀(i:Nat) k b v,kvs[i]? = some (k,b,v)->∀pins' s',ae X pins' σ H s'->wpAny (model X.prog X.w) X.A.in1 (call (.ref f) [.ref b]) (λu Y=>ae X pins' σ H Y/\∃t,u=.int (g i) t) (λ_ _=>False) s')
 (hR:∀i k b v s',kvs[i]? = some (k,b,v)->(∀j,j<kvs.length->g i>=g j/\(j<i->g i > g j))->ae X pins σ H s'->R (.ok (.ret (.ref b))) s') :
 ∀(r j i:Nat) (s:Shared) (b:Addr) (tb:Tok) (k:ad) (v:V),kvs.length-(j+1)=r->j+1<=kvs.length->ij X pins σ H it S d (xs.map cA).toArray.size ep (j+1) #[.ref b,.int (g i) tb] s->kvs[i]? = some (k,b,v)->i<=j ->
  (∀l,l<=j->g i>=g l/\(l<i->g i > g l))->codeAny (model X.prog X.w) X.A (.builtin "max.loop" ⟨[.ref it,.ref f,.ref S],[]⟩) R s:=by
 have n:(toString "max"++toString ".loop" : String) = "max.loop":=by decide
 have hl:=Paired.length U;have hsz:(xs.map cA).toArray.size=kvs.length:=by rw[OE,On,hl]
 intro r
 induction r with
 | zero =>
  intro j i s b tb k v hr hj m o O a;have a7:j+1=kvs.length:=by omega
  obtain⟨I,⟨c,eS⟩,J⟩:=m;obtain⟨z,_⟩:=I.hok d _ hd;refine codeAny_builtin Qb ?_;rw[Around.under_plainId O7 _];show wpAny _ X.A.in1 (seqItems? (.ref S) >>= _) _ _ _;refine on (wpAny_seqItems eS Z ?_);show wpAny _ X.A.in1 (tryCatch (pyNext (.ref it)) _ >>= _) _ _ _;refine on (wpAny_tryCatch (rh (A:=X.A.in1) hh J z (by rw[hsz];omega) λh' hx=>?_));have I1:ae X pins σ H { s with heap:=h' }:=oI.turned (t':=s.toks) I λb u o e=>hx b u o e;have eS1:h'.get? S=some (seqObj "list" #[.ref b,.int (g i) tb] c):=hx S _ hSI eS;show wpAny _ X.A.in1 (updateSeq S (λ_=>#[]) >>= _) _ _ _;refine on ?_;refine wpAny_updateSeq eS1 Z (on (wpAny_letGo (Sa ?_)));have s1:=O6 h' S (Obj.mapSeq λ_=>(#[]:Array Value));exact hR i k b v _ o (λl D=>a l (by omega)) (oS.turned I1 λb u o e=>(s1.2 b o).trans e)
 | succ r ih =>
  intro j i s b tb k v hr hj m o O a;have p:j+1<kvs.length:=by omega
  obtain⟨I,⟨c,eS⟩,J⟩:=m;obtain⟨z,_⟩:=I.hok d _ hd;obtain⟨⟨k1,x,v1⟩,q⟩:∃y,kvs[j+1]? = some y:=⟨_,OF p⟩;obtain⟨⟨k2,b2,u2⟩,B⟩:∃y,xs[j+1]? = some y:=⟨_,OF (by omega)⟩;obtain⟨_,z2,_⟩:=mW U q B;have N:x=b2:=z2;subst N;refine codeAny_builtin Qb ?_;rw[Around.under_plainId O7 _];show wpAny _ X.A.in1 (seqItems? (.ref S) >>= _) _ _ _;refine on (wpAny_seqItems eS Z ?_);show wpAny _ X.A.in1 (tryCatch (pyNext (.ref it)) _ >>= _) _ _ _;refine on (wpAny_tryCatch (oy (e:=cA (k2,x,u2)) J z (by rw[Pn,Ov,B];rfl) λh' M W=>?_));have m1:ij X pins σ H it S d (xs.map cA).toArray.size ep (j+1+1) #[.ref b,.int (g i) tb] { s with heap:=h' }:=⟨oI.turned (t':=s.toks) I λb u o e=>(W.2 b o).trans e,⟨c,(W.2 S hSI).trans eS⟩,M⟩;show wpAny _ X.A.in1 (tryCatch (holding [.ref x] (call (.ref f) [.ref x])) _ >>= _) _ _ _;refine on (wpAny_tryCatch (wpAny_holding (m1.call oS oI (C (j+1) k1 x v1 q) λu Y G hu=>?_)));obtain⟨F,rfl⟩:=hu;show wpAny _ X.A.in1 (tryCatch (holding [.ref x,.int (g (j+1)) F] (richCompare .Gt (.int (g (j+1)) F) (.int (g i) tb) >>= _)) _ >>= _) _ _ _;refine on (wpAny_tryCatch (wpAny_holding (on (CmpOf.ints_gt (prog:=X.prog) (w:=X.w) (A:=X.A.in1) (P:=λi v=>∃t,v=.int (g i) t) g (λi v h=>h) (j+1) i _ _ _ _ _ ⟨F,Z⟩ ⟨tb,Z⟩ ?_))));refine on (wpAny_holding (wpAny_truthy_bool ?_));refine on (wpAny_letGo (Sa ?_));by_cases hb':g (j+1) > g i
  ·simp only [hb',decide_true,if_true];obtain⟨c2,eS2⟩:=G.seq;refine on ?_;refine wpAny_updateSeq eS2 Z (on (wpAny_letGo ?_));rw[n];refine Sa ⟨plainId_quiet O7 _,ih (j+1) (j+1) _ x F k1 v1 (by omega) p (G.write _ oS hSI) q (Oo _) λl D=>?_⟩;by_cases e:l=j+1
   ·subst e;exact⟨by omega,λ_=>by omega⟩
   ·have L:=a l (by omega);have a1:=L.1;exact⟨by omega,λ_=>by omega⟩
  ·simp only [hb',decide_false,OO,if_false];refine on (wpAny_letGo ?_);rw[n];refine Sa ⟨plainId_quiet O7 _,ih (j+1) i _ b tb k v (by omega) p G o (by omega) λl D=>?_⟩;by_cases e:l=j+1
   ·subst e;exact⟨by omega,λ_=>by omega⟩
   ·exact a l (by omega)
def Ho{Q:Value->Shared->Prop}{E:Value->Shared->Prop}(I:ae X pins σ H s)(r:KP kvs xs)(hd:H d=some (fq d xs ep))(m:Nat->Int)(Y:X.A.handled=none)(p:0<kvs.length)
 (c:∀(i:Nat) k b v,kvs[i]? = some (k,b,v)->∀pins' s',ae X pins' σ H s'->wpAny (model X.prog X.w) X.A.in1 (call (.ref f) [.ref b]) (λu L=>ae X pins' σ H L/\∃t,u=.int (m i) t) (λ_ _=>False) s')
 (hQ:∀i k b v s',kvs[i]? = some (k,b,v)->(∀j,j<kvs.length->m i>=m j/\(j<i->m i > m j))->ae X pins σ H s'->Q (.ref b) s') :
 wpAny (model X.prog X.w) X.A (call (.builtin "max") [.ref d] [(Str.ofString "key",.ref f)]) Q E s:=by
 have a:(toString "max"++toString ".loop" : String) = "max.loop":=by decide
 have O:=Paired.length r;have hsz:(xs.map cA).toArray.size=kvs.length:=by rw[OE,On,O]
 obtain⟨z,_⟩:=I.hok d _ hd;refine kmk_tree PySem.F.kind_max PySem.F.plain_max PySem.F.entry_max (kmk_max_key _ _) ?_;show wpAny _ X.A.in1 (Builtin.Builtins.bindParams "max" ["key", "default"] 0 ⟨[],[(Str.ofString "key",.ref f)]⟩ >>= _) _ _ s;refine on (wpAny_of_eq (show Builtin.Builtins.bindParams "max" ["key", "default"] 0 ⟨[],[(Str.ofString "key",.ref f)]⟩=pure [some (.ref f),none] from rfl) ?_);refine on (Sa ?_);refine on (rg z ?_);refine on (wpAny_newList ?_ (Ox _));rw[a];generalize hIo:({ cls:=.type "dict_keyiterator",data:=.fields #[.ref d,.int 0 0,.int ((xs.map cA).toArray.size:Int) 0,.int ep 0] }:Obj)=oi;have q:oi.isFreed=false:=by rw[<- hIo];rfl
 have hS:(s.heap.push oi).objs.size=s.heap.objs.size+1:=size_push' ..;have oI:dM X pins H s.heap.objs.size:=.fresh I (Oo _);have oS:dM X pins H (s.heap.push oi).objs.size:=.fresh I (by rw[hS];exact Pk _);have hSI:(s.heap.push oi).objs.size≠s.heap.objs.size:=by rw[hS];exact PB (Pb _)
 have kp:∀b u,s.heap.get? b=some u->((s.heap.push oi).push (seqObj "list" #[] 0)).get? b=some u:=λb u e=>Ow _ (Ow _ e);have gI:((s.heap.push oi).push (seqObj "list" #[] 0)).get? s.heap.objs.size=some oi:=Ow _ (OB _ q);have gS:((s.heap.push oi).push (seqObj "list" #[] 0)).get? (s.heap.push oi).objs.size=some (seqObj "list" #[] 0):=OB _ rfl;have D:ae X pins σ H { s with heap:=(s.heap.push oi).push (seqObj "list" #[] 0) }:=I.kept (t':=s.toks) kp;have C:((s.heap.push oi).push (seqObj "list" #[] 0)).IsKeyIter s.heap.objs.size d 0 (xs.map cA).toArray.size ep:=⟨oi,gI,by rw[<- hIo],by rw[<- hIo];rfl⟩;refine Sa ⟨plainId_quiet O7 _,?_⟩;obtain⟨⟨k1,l,N⟩,g⟩:∃y,kvs[0]? = some y:=⟨_,OF p⟩;obtain⟨⟨k2,S,u2⟩,o⟩:∃y,xs[0]? = some y:=⟨_,OF (by omega)⟩;obtain⟨_,z2,_⟩:=mW r g o;have B:l=S:=z2;subst B;obtain⟨n,_⟩:=D.hok d _ hd;refine codeAny_builtin Qb ?_;rw[Around.under_plainId O7 _];show wpAny _ X.A.in1 (seqItems? (.ref _) >>= _) _ _ _;refine on (wpAny_seqItems gS Z ?_);show wpAny _ X.A.in1 (tryCatch (pyNext (.ref s.heap.objs.size)) _ >>= _) _ _ _;refine on (wpAny_tryCatch (oy (e:=cA (k2,l,u2)) C n (by rw[Pn,Ov,o];rfl) λh' x J=>?_));have U:ij X pins σ H s.heap.objs.size (s.heap.push oi).objs.size d (xs.map cA).toArray.size ep 1 #[] { s with heap:=h' }:=⟨oI.turned (s:={ s with heap:=(s.heap.push oi).push (seqObj "list" #[] 0) }) (t':=s.toks) D λb u V e=>(J.2 b V).trans e,⟨0,(J.2 _ hSI).trans gS⟩,x⟩;show wpAny _ X.A.in1 (tryCatch (holding [.ref l] (call (.ref f) [.ref l])) _ >>= _) _ _ _;refine on (wpAny_tryCatch (wpAny_holding (U.call oS oI (c 0 k1 l N g) λu L G R=>?_)));obtain⟨M,rfl⟩:=R;obtain⟨c2,eS2⟩:=G.seq;show wpAny _ X.A.in1 (updateSeq (s.heap.push oi).objs.size (λ_=>#[.ref l,.int (m 0) M]) >>= _) _ _ _;refine on ?_;refine wpAny_updateSeq eS2 Z ?_;rw[a];refine Sa ⟨plainId_quiet O7 _,Hn r hd m Y oS oI hSI c hQ _ 0 0 _ l M k1 N Z p (G.write _ oS hSI) g (Oo _) λW a1=>?_⟩;have e:W=0:=by omega
 subst e;exact⟨by omega,λh=>Sd h (O5 _)⟩
end
def fQ(Pt:Addr)(H H':Hp):Prop:=∀b o,b≠Pt->H b=some o->H' b=some o
def fQ.trans{Pt:Addr}{H d e:Hp}(a:fQ Pt H d)(b:fQ Pt d e):fQ Pt H e:=λc o n h=>b c o n (a c o n h)
def af.one{Pt:Addr}{H H':Hp}(a:af H H'):fQ Pt H H':=λc o _ h=>a c o h
def Ci(Pt:Addr)(qual:Str)(a:Pos)(iy:Nat)(e tb:TE):TE:=λσ H Q=>e σ H λx c=>∃d kvs vy,x=.ref d/\DP c d kvs/\kvs≠[]/\σ[iy]? = some (some vy)/\eK c Pt qual a/\∃kf:Nat->Int,
 (∀H2,fQ Pt c H2->∀i k b v,kvs[i]? = some (k,b,v)->tb [some (.ref b),some vy] H2 λw H'=>w=.int (kf i)/\H'=H2) /\
 ∀H2,fQ Pt c H2->eK H2 Pt qual a->∀i k b v,kvs[i]? = some (k,b,v)->(∀j,j<kvs.length->kf i>=kf j/\(j<i->kf i > kf j))->Q (.ref b) H2
def LA{env:Env}{scope:Scope}{x y:Str}{b:Addr}(a:scope.names=[(x,.local),(y,.free)])(h:env.cells.lookup y=some b):closureFor scope env=pure [(y,b)]:=by
 unfold closureFor;rw[a];simp[cellOf,h]
section
variable {X:Cx}{e body:Expr}{te tb:TE}{x y:Str}{scope:Scope}{params:Arguments}{lpos kp pos p:Pos}{c Pt:Addr}{k iy:Nat}
def EC(hr:bj (k+2) X.A)(o:X.env.code=.ref c)(ag:W.codeHdIn X.K c Pt=true)(a9:X.base.BuiltinsAt X.mg Pt)
 (hy:X.N[iy]? = some y) (B:X.env.scope.names.lookup y=some .cell) (O:x≠y) (g:scope.names=[(x,.local),(y,.free)]) (ab:scope.kind=.function) (a6:scope.isCoroutine=false) (a7:scope.isGenerator=false)
 (U:defaultsOf params X.env=([],[]))
 (a0:∀(qual:Str) (pm:Value) (c' L:Addr) (M u:Value),bindArgs (W.kla_fn "<lambda>" qual params body scope [(y,L)] pm (.ref c') M) ⟨[u],[]⟩=pure [(x,u)])
 (hb:∀f L cd A outer s H,bj (k+1) A->QE (pL X.prog X.w X.K X.mg X.base x y (X.env.qual ++ "<lambda>") scope f L cd A outer s H) body tb)
 (he:QE X e te) (hm:X.mg "max" = none) (hg:Gl X "max") (hs:starEach [e] X.env=(false,eval e X.env)::starEach [] X.env:=by rfl) :
 QE X (.Call (.Name "max" p) [e] [⟨some "key",.Lambda params body scope lpos,kp⟩] pos) (Ci Pt (X.env.qual ++ "<lambda>") lpos iy te tb):=⟨λR s σ H Q I h=>by
 have S:AU x y scope:=by
  refine⟨ab,a6,a7,O,?_,?_,?_,?_⟩
  ·rw[g,O4];simp
  ·rw[g,O4];have:(y == x)=false:=beq_eq_false_iff_ne.mpr (Ne.symm O);simp[this]
  ·rw[g];intro z hz;rcases OT.mp hz with z1|hz
   ·rw[z1];exact λq=>nomatch q
   ·rw[Op.mp hz];exact λq=>nomatch q
  ·rw[g];intro z hz Y;rcases OT.mp hz with z1|hz
   ·rw[z1]at Y;cases Y
   ·rw[Op.mp hz]
 have F:backTo pos (starEach [e] X.env)=[(false,eval e X.env)]:=by
  unfold backTo;rw[hs];rfl
 have e2:backTo pos (starEach ([]:List Expr) X.env)=[]:=rfl;refine wpAny_Call_Name_kw (hJ I hg hm (show bootBuiltins "max" = some (.builtin "max") by decide +kernel) ?_ (by decide) (by decide));refine callWith_kw (e:=e) (rest:=[]) (kws:=[⟨some "key",.Lambda params body scope lpos,kp⟩]) ?_ (by rw[F,e2]) (by rw[F];rfl) rfl rfl;rw[F];refine Calls.spliced_cons (ap (he.h R s σ H _ I h) λu s1 ⟨x',H1,I1,r1,d,kvs,vy,ex,hD,ad,V,hT,kf,hk,hq⟩=>Calls.spliced_nil ?_);subst ex;obtain rfl:u=Value.ref d:=r1;obtain⟨m,hn,hl⟩:=id I1.loc;obtain⟨L,C⟩:=I1.ok.has y (.inl B);refine kws_cons (G2 I1 U (LA g C) o ag a9 hT λf c' M G s2 nf Y hP hC n I2=>kws_nil ?_);have T2:eK G Pt (X.env.qual ++ "<lambda>") lpos:=.inr ⟨c',hP,hC⟩;obtain⟨⟨xs,ep,D,kn⟩,ky,nd,le⟩:=id hD;have dPt:d≠Pt:=λz=>by
  obtain⟨ps,hp⟩:=hT.tbl;rw[z,hp]at D;cases D
 have a5:G d=some (fq d xs ep):=n d _ dPt D;show wpAny _ _ (call (.builtin "max") [.ref d] [(Str.ofString "key",.ref f)]) _ _ _;refine Ho I2 kn a5 kf hr.hd (PY.mpr ad) (λi k' b v hi a2 s' j=>?_) λi k' b v s' hi a4 j=>?_
 ·have fo:=dj.at j.hok Y;have co:=nP.cd j.hok hC;obtain⟨m',aC,a8⟩:=id j.loc;obtain⟨uy,ah,lk⟩:=a8 iy y vy hy V (.inr (.inl B));have l:s'.heap.IsCell L (some uy):=by
   rcases lk with ⟨q,_⟩|⟨_,c1,F,z⟩
   ·have q':X.env.scope.names.lookup y=some .local:=q;rw[B]at q';cases q'
   ·rw[C]at F;cases F;exact z
  refine wpAny_call (codeAny_mono (HL (k:=k) (v:=.ref b) (t:=tb) (Q:=λw H'=>w=.int (kf i)/\H'=G) hr.in1 j.env0.in1 S fo co l (j.freeC y L C) ah (u:=.ref b) Z (a0 _ _ _ _ _ _) (hb _ _ _ _ _ _ _ hr.in1) (hk G n i k' b v hi)) λr an a=>?_);cases r with
  | error e=>exact False.elim a
  | ok fl =>
   cases fl with
   | next=>exact False.elim a
   | brk=>exact False.elim a
   | cont=>exact False.elim a
   | ret u =>
    obtain⟨v',H',J,a1,rfl,rfl⟩:=j.after a;exact⟨J,a1⟩
 ·exact⟨.ref b,G,j,Z,hq G n T2 i k' b v hi a4⟩⟩
end
abbrev aX:=List Int
def jK(x:aX × Addr × Value):DictEntry:=⟨reduceHash (Builtin.Tuple.tupleHashOf (x.1.map hashInt)),.ref x.2.1,x.2.2⟩
def wN(P:Program)(w:World):entryOfKey (tupleKind (intKind P w))=jK:=rfl
def iS(a:Addr)(xs:List (aX × Addr × Value))(ep:Nat):HO:=.ext λh=>fF h a (xs.map jK).toArray ep
def fT(H:Hp)(k:aX)(p:Addr):Prop:=H p=some (.tup (k.map V.int))
abbrev KQ:List (aX × Addr × V)->List (aX × Addr × Value)->Prop:=Paired λp q=>p.1=q.1/\p.2.1=q.2.1/\ax p.2.2 q.2.2
structure DQ (H:Hp) (a:Addr) (kvs:List (aX × Addr × V)):Prop where
 ex:∃xs ep,H a=some (iS a xs ep)/\KQ kvs xs
 key:∀x∈kvs,fT H x.1 x.2.1
 nd:(kvs.map (·.1)).Nodup
 le:kvs.length<=sizeLine
def fT.same{H H':Hp}{k:aX}{p:Addr}(s:af H H')(h:fT H k p):fT H' k p:=s _ _ h
def DQ.same{H H':Hp}{a:Addr}{kvs:List (aX × Addr × V)}(s:af H H')(d:DQ H a kvs):DQ H' a kvs:=by
 obtain⟨⟨xs,ep,c,b⟩,k,n,l⟩:=d
 exact⟨⟨xs,ep,s _ _ c,b⟩,λx hx=>(k x hx).same s,n,l⟩
def ca(kvs:List (aX × Addr × V))(k:aX):Option V:=(kvs.find? λx=>decide (x.1=k)).map (·.2.2)
def gn(kvs:List (aX × Addr × V))(k:aX)(b:Addr)(v:V):List (aX × Addr × V) :=
 if (ca kvs k).isSome then kvs.map (λx=>if x.1=k then (x.1,x.2.1,v) else x) else kvs++[(k,b,v)]
def KQ.val{kvs:List (aX × Addr × V)}{xs:List (aX × Addr × Value)}(r:KQ kvs xs)(k:aX):cg (ca kvs k) ((atKey xs k).map (·.2)):=by
 induction r with
 | nil=>exact True.intro
 | @cons p q ps qs h t ih =>
  obtain⟨d,_,f⟩:=h;by_cases e:p.1=k
  ·have a:q.1=k:=d.symm.trans e;have b:atKey (q::qs) k=some q.2:=by simp[atKey,OR,a]
   have c:ca (p::ps) k=some p.2.2:=by simp[ca,OR,e]
   rw[b,c];exact f
  ·have a:¬q.1=k:=λz=>e (d.trans z);have b:atKey (q::qs) k=atKey qs k:=by simp[atKey,OR,a]
   have c:ca (p::ps) k=ca ps k:=by simp[ca,OR,e]
   rw[b,c];exact ih
def KQ.put{kvs:List (aX × Addr × V)}{xs:List (aX × Addr × Value)}(r:KQ kvs xs)(k:aX){b:Addr}{y:V}{u:Value}(c:ax y u):KQ (gn kvs k b y) (storedH xs k b u):=by
 have e:(ca kvs k).isSome=(atKey xs k).isSome:=by rw[(r.val k).isSome_eq,PQ]
 unfold gn storedH;rw[e]
 split
 ·induction r with
  | nil=>exact .nil
  | @cons p q ps qs h t ih =>
   rw[OD,OD];have all:∀ {l m},KQ l m->KQ (l.map λx=>if x.1=k then (x.1,x.2.1,y) else x) (m.map (putAt k u)):=by
    intro l m r
    induction r with
    | nil=>exact .nil
    | @cons p q ps qs h t ih =>
     rw[OD,OD];refine .cons ?_ ih;obtain⟨a,d,f⟩:=h;unfold putAt;by_cases z:p.1=k
     ·rw[Sc z,Sc (a.symm.trans z)];exact⟨a,d,c⟩
     ·rw[Sb z,Sb (λy=>z (a.trans y))];exact⟨a,d,f⟩
   exact all (.cons h t)
 ·exact Paired.snoc r ⟨rfl,rfl,c⟩
def KQ.keys{kvs:List (aX × Addr × V)}{xs:List (aX × Addr × Value)}(r:KQ kvs xs):kvs.map (·.1)=xs.map (·.1):=by
 induction r with
 | nil=>rfl
 | cons h t ih=>rw[OD,OD,ih,h.1]
theorem y4:∀ {kvs:List (aX × Addr × V)} {xs:List (aX × Addr × Value)},KQ kvs xs->∀ {i:Nat} {a:aX × Addr × V} {b:aX × Addr × Value},kvs[i]? = some a->xs[i]? = some b->a.1=b.1/\a.2.1=b.2.1/\ax a.2.2 b.2.2
 | _,_,.nil,_,_,_,h,_=>by simp at h
 | _,_,.cons r t,0,_,_,h,h'=>by simp at h h';subst h;subst h';exact r
 | _,_,.cons r t,i+1,_,_,h,h'=>y4 t (i:=i) (by simpa using h) (by simpa using h')
def EO(kvs:List (aX × Addr × V))(k:aX)(b:Addr)(v:V):∀x∈gn kvs k b v,(∃y∈kvs,y.1=x.1/\y.2.1=x.2.1)\/x=(k,b,v):=by
 intro x hx;unfold gn at hx
 split at hx
 ·obtain⟨y,hy,rfl⟩:=Oq.mp hx;refine .inl ⟨y,hy,?_⟩
  split<;>exact⟨rfl,rfl⟩
 ·rcases Os.mp hx with z|z
  ·exact .inl ⟨x,z,Z,Z⟩
  ·exact .inr (Op.mp z)
def EN(kvs:List (aX × Addr × V))(k:aX)(b:Addr)(v:V):(gn kvs k b v).length<=kvs.length+1:=by
 unfold gn
 split<;>simp
def qL{P:Program}{w:World}{H:Hp}{h:Heap}{k:aX}{p:Addr}(ok:bn P w H h)(e:fT H k p):IsTupleKey (intKind P w) h k p:=by
 have all:∀ {ks:List Int} {us:List Value},ay (ks.map V.int) us->ItemsAre (intKind P w) ks us:=by
  intro ks
  induction ks with
  | nil=>intro us r;cases r;exact .nil
  | cons k ks ih =>
   intro us r;cases r with
   | cons a b =>
    obtain⟨t,rfl⟩:=a;exact .cons (by exact beq_self_eq_true k) (ih b)
 obtain⟨_,c,g,d,f,i,l,j⟩:=(show bd P w H h p (.tup (k.map V.int)) from ok p _ e);exact⟨d,c.toArray,l,f,i,j,by simpa using all g⟩
section
variable {X:Cx}{pins:List (Addr × Obj)}{σ:St}{H:Hp}{s:Shared}{a b:Addr}{kvs:List (aX × Addr × V)}{k:aX}{v:V}{A:Around}{E:Value->Shared->Prop}
def nh(I:ae X pins σ H s)(d:DQ H a kvs):∃xs ep,H a=some (iS a xs ep)/\KQ kvs xs/\fF s.heap a (xs.map jK).toArray ep/\s.heap.DictOfH (tupleKind (intKind X.prog X.w)) a xs:=by
 obtain⟨⟨xs,ep,c,b⟩,f,nd,le⟩:=d;obtain⟨r,_⟩:=I.hok a _ c;obtain⟨o,i,g,j⟩:=r.obj;refine⟨xs,ep,c,b,r,o,_,ep,i,g,j,by rw[wN],λx hx=>?_,by rw[<- b.keys];exact nd⟩;have all:∀ {l m},KQ l m->(∀x∈l,fT H x.1 x.2.1)->∀x∈m,IsTupleKey (intKind X.prog X.w) s.heap x.1 x.2.1:=by
  intro l m r
  induction r with
  | nil=>intro _ x hx;cases hx
  | @cons p q ps qs h t ih =>
   intro e x hx;rcases OT.mp hx with z|z
   ·subst z;rw[<- h.1,<- h.2.1];exact qL I.hok (e p (OP ..))
   ·exact ih (λy hy=>e y (OQ _ hy)) x z
 exact all b f x hx
def K3{Q:Value->Shared->Prop}(m:A.units+16<cLine)(I:ae X pins σ H s)(d:DQ H a kvs)(i:fT H k b)(e:ca kvs k=some v)(q:∀c s',ae X pins σ H s'->ax v c->Q c s'):wpAny (model X.prog X.w) A (getItem (.ref a) (.ref b)) Q E s:=by
 obtain⟨xs,ep,n,j,r,h⟩:=nh I d;obtain⟨c,hw,f⟩:=cg.some_of (v:=v) (o:=(atKey xs k).map (·.2)) (by rw[<- e];exact j.val k);obtain⟨p,l,g⟩:=OS.mp hw;refine wpAny_getItem_heap (knd:=tupleKind (intKind X.prog X.w)) (by show A.units+1<cLine;omega) (qL I.hok i) h l ?_;rw[g];exact q c _ (I.tok _) f
end
def Hv:TE:=λ_ H Q=>∀p H',aZ H p (iS p [] 0) H'->Q (.ref p) H'
def DQ.new{H H':Hp}{p:Addr}(g:aZ H p (iS p [] 0) H'):DQ H' p []:=⟨⟨[],0,g.at_,.nil⟩,λ_ hx=>(nomatch hx),PR,Ox _⟩
def Cn(e ty:TE):TE:=λσ H Q=>e σ H λx d=>ty σ d λy c=>∃a b kvs k v,x=.ref a/\y=.ref b/\DQ c a kvs/\fT c k b/\ca kvs k=some v/\Q v c
def mr(d:Addr)(o:HO)(kvs:List (aX × Addr × V)):It :=
 ⟨λi H=>H d=some o/\i<kvs.length,λi H x H'=>H'=H/\∃k b v,kvs[i]? = some (k,b,v)/\x=.ref b,λi H=>H d=some o/\kvs.length<=i⟩
def Ip(b:TE):TI:=λσ H R=>b σ H λx a=>∃d kvs,x=.ref d/\DQ a d kvs/\∀o,a d=some o->R (mr d o kvs) a
def B2{P:Program}{w:World}{K:W.Frag}{Y:Expr}(d it:Addr)(xs:List (aX × Addr × Value))(ep:Nat)(kvs:List (aX × Addr × V))(q:KQ kvs xs):d7 P w K Y (mr d (iS d xs ep) kvs) [it] it (λi h=>h.IsKeyIter it d i (xs.map jK).toArray.size ep) where
 mem:=by simp
 obj:=λi h st b f=>by
  have e:b=it:=by simpa using f
  subst e;obtain⟨o,e,c,d⟩:=st;exact⟨o,e,λv z=>by rw[d]at z;cases z⟩
 keep:=λi h h' st k=>st.at λo e=>k it (by simp) o e
 item:=by
  intro X hP hw hK J i a s σ H E I m st B;subst hP hw hK;obtain⟨C,L⟩:=B;obtain⟨r,_⟩:=I.hok d _ C;obtain⟨D,x,M,n,F,p⟩:=m it (by simp);have R:=Paired.length q;obtain⟨⟨k,b,v⟩,g⟩:∃y,kvs[i]? = some y:=⟨_,OF L⟩;obtain⟨⟨U,b',u⟩,j⟩:∃y,xs[i]? = some y:=⟨_,OF (by omega)⟩;obtain⟨z1,z2,z3⟩:=y4 q g j;have G:b=b':=z2;subst G;refine oy (e:=jK (U,b,u)) st r (by rw[Pn,Ov,j];rfl) λh' l O=>?_;have N:ae X a σ H { s with heap:=h' }:=I.turned (t':=s.toks) (λb o f e=>(O.2 b f).trans e) D x n F p;obtain⟨o,e,c,S⟩:=id l;exact⟨.ref b,rfl,hX (s:={ s with heap:=h' }) e c S (by decide) ⟨.ref b,H,N,rfl,⟨rfl,k,b,v,g,rfl⟩,l,λb f=>(m b f).1⟩⟩
 done:=by
  intro X hP hw hK J i a s σ H E I m st B;subst hP hw hK;obtain⟨C,L⟩:=B;obtain⟨r,_⟩:=I.hok d _ C;obtain⟨D,x,M,n,F,p⟩:=m it (by simp);have R:=Paired.length q;exact rh (I.ok.hd J) st r (by simp;omega) λh' eb=>⟨rfl,I.turned (t':=s.toks) (λb o f e=>eb b o f e) D x n F p⟩
 self:=λ_ _ _ _ _ st h=>wpAny_pyIter_keyiter st h
section
variable {X:Cx}{K:W.Frag}{o i e f value tg l:Expr}{td ty tx tv tl:TE}{pos pos' apos cpos:Pos}
def EB:QE X (.Dict [] [] pos) Hv:=⟨λb s σ H Q I h=>by
 refine wpAny_Dict_empty ⟨.ref s.heap.objs.size,_,I.laid (a:=s.heap.objs.size) (o:=iS s.heap.objs.size [] 0) (t':=s.toks) (λ_ _ q=>Ow _ q) (Oo _) ?_,Z,h _ _ (.mk' (I.hok.fresh (Oo _)))⟩;refine⟨⟨beq_eq_false_iff_ne.mpr (Ne.symm (OC I.big)),_,OB _ rfl,⟨rfl,rfl,rfl⟩,rfl⟩,⟨_,OB _ rfl⟩,λd e f c=>f.to c⟩⟩
def mP(O:X.A.units+64<cLine)(z:QE X o td)(L:QE X i ty)(J:mn i:=by intro _ _;rfl):QE X (.Subscript o i pos) (Cn td ty):=⟨λc s σ H Q I h=>by
 refine nY Qv.lookup J (ap (z.h c s σ H _ I h) λu s1 ⟨x,q,p,D,F⟩=>ap (L.h c s1 σ q _ p F) λm N ⟨y,G,f,j,a,b,kvs,k,v,ex,g,d,C,n,l⟩=>?_);subst ex g;obtain rfl:u=Value.ref a:=D;obtain rfl:m=Value.ref b:=j;obtain⟨xs,ep,_,_,r,_⟩:=nh f d;exact⟨r.ty,K3 (by omega) f d C n λR M B e=>⟨v,G,B,e,l⟩⟩⟩
def xW(n:QE X l tl):QI X tg l (Ip tl):=⟨λa s σ H R I h=>by
 refine ap (n.h a s σ H _ I h) λv s1 ⟨x,m,c,k,d,kvs,ex,f,q⟩=>?_;subst ex;obtain rfl:v=Value.ref d:=k;obtain⟨xs,ep,j,i,r,_⟩:=nh c f;refine rg r ?_;refine⟨s1.heap.objs.size,[s1.heap.objs.size],_,mr d (iS d xs ep) kvs,m,Z,c.kept (t':=s1.toks) λb o e=>Ow _ e,B2 d _ xs ep kvs i,⟨_,OB _ Z,Z,Z⟩,λb g=>?_,q _ j⟩;have e:b=s1.heap.objs.size:=by simpa using g
 subst e;exact c.fpOk (Oo _) (c.hok.fresh (Oo _))⟩
def zS{d:Addr}{o:HO}{kvs:List (aX × Addr × V)}{g:TG}{tb:TS}{D:dG}{σ:St}{H:Hp}(a:Nat->St->Hp->Prop)(j:a 0 σ H)(r:∀i σ H,i<=kvs.length->a i σ H->H d=some o)
 (n:∀i k b v σ H,kvs[i]? = some (k,b,v)->a i σ H->g (.ref b) σ H λh c=>tb { D with nx:=a (i+1),ct:=a (i+1),bk:=D.nx } h c) (hd:∀σ H,a kvs.length σ H->D.nx σ H) :
 ∃W:Nat->Nat->St->Hp->Prop,(∃m,W 0 m σ H)/\∀i m σ H,W i m σ H ->
  ((mr d o kvs).stop i H/\D.nx σ H)\/((mr d o kvs).go i H/\∃N:St->Hp->Prop,(∀f H',N f H'->∃m',m'<m/\W (i+1) m' f H')/\∀x H',(mr d o kvs).yld i H x H'->g x σ H' λh c=>tb { D with nx:=N,ct:=N,bk:=D.nx } h c):=by
 refine⟨λi m σ H=>m=kvs.length-i/\i<=kvs.length/\a i σ H,⟨kvs.length,by simp,Ox _,j⟩,?_⟩;rintro i m σ H ⟨rfl,s,p⟩;have q:=r i σ H s p;by_cases hlt:i<kvs.length
 ·refine .inr ⟨⟨q,hlt⟩,a (i+1),λf H' l=>⟨kvs.length-(i+1),by omega,rfl,hlt,l⟩,λx H' y=>?_⟩;obtain⟨rfl,k,b,v,y,rfl⟩:=y;exact n i k b v σ H' y p
 ·have e:i=kvs.length:=by omega
  subst e;exact .inl ⟨⟨q,Oo _⟩,hd σ H p⟩
end
section
variable {prog:Program}{w:World}{A:Around}{E:Value->Shared->Prop}{s:Shared}{K:Type}[DecidableEq K]{knd:HeapKind prog w K}
def Dl{d a:Addr}{xs:List (K × Addr × Value)}{k:K}{v:Value}{Q:Value->Shared->Prop}(m:knd.room A)(b:knd.is s.heap k a)(B:s.heap.DictOfH knd d xs)
 (z:∀p,atKey xs k=some p->Q p.2 { s with toks:=s.toks+knd.draws k })
 (q:atKey xs k=none->∀h',h'.DictOfH knd d (storedH xs k a v)->Heap.SameBut d s.heap h'->Q v { s with heap:=h',toks:=s.toks+knd.draws k })
 (hsz:xs.length<=sizeLine) :
 wpAny (model prog w) A (dictSetDefault d (.ref a) v) Q E s:=by
 obtain⟨o,es,ep,f,r,hd,i,g,l⟩:=B;unfold dictSetDefault
 try with_reducible refine wpAny_holding ?_
 refine on (knd.pyHash m b ?_);refine on (wpAny_dictFind_heap (s:={ s with toks:=s.toks+knd.draws k }) m b f hd i g l ?_ ?_)
 ·intro c;have h:k∉xs.map (·.1):=not_mem_keys_of_get c;refine on (wpAny_rule (on (wpAny_updateDictKeys (hz:=by have e:=size_of_entries i;omega) (s:={ s with toks:=s.toks+knd.draws k }) f hd (Sa (q (atKey_none_of_get c) _ ⟨_,_,ep+1,Qm _ f (Obj.isFreed_of_dict (Obj.data_mapDictKeys hd _)),
   r.mapDictKeys _,Obj.data_mapDictKeys hd _,?_,?_,?_⟩ (O6 ..))))))
  ·rw[storedH_new (atKey_none_of_get c)];simp[i,entryOfKey]
  ·rw[storedH_new (atKey_none_of_get c)];intro x hx;rcases Os.mp hx with hx|hx
   ·exact knd.keeps (g x hx) f hd (O6 ..)
   ·simp only [Op]at hx;subst hx;exact knd.keeps b f hd (O6 ..)
  ·rw[storedH_new (atKey_none_of_get c)];rw[Ot,Pd];refine⟨l,by simp,?_⟩;intro x hx y hy;simp only [OD,Qu,Op]at hy;subst hy;exact λe=>h (e ▸ hx)
 ·intro j p n;refine on (wpAny_dictEntries (s:={ s with toks:=s.toks+knd.draws k }) f hd ?_);have u:es[j]? = some (entryOfKey knd (k,p)):=by
   rw[<- Qw,i,Ov,n];rfl
  rw[u];exact on (wpAny_rule (Sa (z p (atKey_of_get l n))))
def Ha{d a:Addr}(hd:(d == sysModules)=false)(b:Value) :
 MeetsIn prog w (Builtin.«dict.setdefault» ⟨[.ref d,.ref a,b],[]⟩) (λA R s=>knd.room A.in1/\∃k xs,knd.is s.heap k a/\s.heap.DictOfH knd d xs/\xs.length<=sizeLine /\
  (∀p,atKey xs k=some p->R (.ok (.ret p.2)) { s with toks:=s.toks+knd.draws k }) /\
  (atKey xs k=none->∀h',h'.DictOfH knd d (storedH xs k a b)->Heap.SameBut d s.heap h'->R (.ok (.ret b)) { s with heap:=h',toks:=s.toks+knd.draws k })) :=
 .of_wp λA R s ⟨i,k,xs,c,g,hz,l,j⟩=>by
  unfold Builtin.«dict.setdefault»;refine on ?_;unfold Builtin.Dict.keyAndDefault;refine on (wpAny_notOrdered_dict g.typeIs ?_);show wpAny _ _ (pure (d,Value.ref a,some b)) _ _ s;refine Sa ?_;show wpAny _ _ (if (d == sysModules)=true then _ else (dictSetDefault d (.ref a) b >>= _)) _ _ s;rw[Sb (by rw[hd];exact OL)];exact on (Dl i c g (λp m=>Sa ⟨_,Z,l p m⟩) (λh h' e f=>Sa ⟨b,Z,j h h' e f⟩) hz)
end
def Ck(h ty f:TE):TE:=λσ H Q=>h σ H λx e=>∃a kv0,x=.ref a/\DQ e a kv0/\ty σ e λy g=>f σ g λz d=>∃b kvs k,y=.ref b/\DQ d a kvs/\fT d k b/\kvs.length<sizeLine /\
 (∀v,ca kvs k=some v->Q v d)/\(ca kvs k=none->∀H4,DQ H4 a (gn kvs k b z)->(∀c,c≠a->H4 c=d c)->Q z H4)
section
variable {X:Cx}{pins:List (Addr × Obj)}{σ:St}{H:Hp}{s:Shared}{a b:Addr}{kvs:List (aX × Addr × V)}{k:aX}{v:V}{A:Around}{E:Value->Shared->Prop}
def K2{u:Value}{Q:Value->Shared->Prop}(hu:A.units+16<cLine)(I:ae X pins σ H s)(d:DQ H a kvs)(G:fT H k b)(hl:kvs.length<sizeLine)(B:ax v u)
 (U:∀v' w' s',ca kvs k=some v'->ae X pins σ H s'->ax v' w'->Q w' s')
 (q:ca kvs k=none->∀H' s',ae X pins σ H' s'->DQ H' a (gn kvs k b v)->(∀c,c≠a->H' c=H c)->Q u s'):wpAny (model X.prog X.w) A (call (.builtin "dict.setdefault") [.ref a,.ref b,u]) Q E s:=by
 obtain⟨xs,ep,J,h,r,C⟩:=nh I d;have hz:xs.length<=sizeLine:=by rw[<- Paired.length h];exact d.le
 refine call_meetsIn RU C.typeIs PySem.F.entry_dict_setdefault (PySem.F.args_dict_setdefault_3 _ _ _) (Ha (knd:=tupleKind (intKind X.prog X.w)) r.big u) ⟨by show A.units+1<cLine;omega,k,xs,qL I.hok G,C,hz,λp L=>?_,λM h' m hs=>?_⟩
 ·have e:=h.val k;rw[L]at e;cases ev:ca kvs k with
  | none=>rw[ev]at e;exact e.elim
  | some v'=>rw[ev]at e;exact U v' _ _ ev (I.tok _) e
 ·have en:ca kvs k=none:=by
   have e:=h.val k;rw[M]at e;cases ev:ca kvs k with
   | none=>rfl
   | some v'=>rw[ev]at e;exact e.elim
  obtain⟨o,es,g,j,Y,V,D,e5,N⟩:=m;have S:∀c n,H c=some (.tup n)->c≠a:=λc n z y=>by subst y;rw[J]at z;cases z
  have l:es=((storedH xs k b u).map jK).toArray:=by
   rw[wN]at D;rw[<- D,QD]
  have O:ae X pins σ (upd H a (iS a (storedH xs k b u) g)) { s with heap:=h',toks:=s.toks+(tupleKind (intKind X.prog X.w)).draws k }:=by
   refine nj I (by rw[J];exact True.intro) hs ⟨o,j⟩ ⟨⟨r.big,o,j,Y,by rw[V,l]⟩,⟨o,j⟩,λg1 g2 f R=>f.to R⟩
  refine q en _ _ O ⟨⟨_,g,aP,h.put k B⟩,λx hx=>?_,?_,?_⟩ λc W=>am W
  ·have i:fT H x.1 x.2.1:=by
    rcases EO kvs k b v x hx with ⟨y,hy,z1,z2⟩|z
    ·rw[<- z1,<- z2];exact d.key y hy
    ·rw[z];exact G
   show upd H a _ _=_;rw[am (S _ _ i)];exact i
  ·rw[(h.put k B).keys];exact N
  ·have:=EN kvs k b v;omega
end
section
variable {X:Cx}{o e f:Expr}{td ty tx:TE}{apos cpos:Pos}
def EE (hu:X.A.units+64<cLine) (Y:QE X o td) (he:QE X e ty) (hf:QE X f tx) (hb:attributeBase o "setdefault" X.env (eval o X.env)=eval o X.env:=by rfl)
 (hw:((backTo cpos (starEach [e,f] X.env)).all (λx=>!x.1) && (backToKw cpos (keywordEach [] X.env)).all (λx=>x.1.isSome)
   && decide (([e,f]:List Expr).length+([]:List Keyword).length+(if ([]:List Keyword).isEmpty then 0 else 1)<30))=true:=by rfl)
 (U:(apos.endLine == cpos.line)=true:=by rfl) (D:backTo cpos (starEach [e,f] X.env)=[(false,eval e X.env),(false,eval f X.env)]:=by rfl) :
 QE X (.Call (.Attribute o "setdefault" apos) [e,f] [] cpos) (Ck td ty tx):=⟨λc s σ H Q I h=>by
 refine wpAny_Call_method hb hw U PU RU PySem.F.type_dict_setdefault (ap (Y.h c s σ H _ I h) λu s1 ⟨x,S,n,rx,a,a0,ex,d,q1⟩=>?_);subst ex;obtain rfl:u=Value.ref a:=rx;obtain⟨xs,ep,_,_,r,_⟩:=nh n d;refine⟨r.ty,λb z=>?_,?_⟩
 ·cases z;obtain⟨v,q,e2,_⟩:=r.obj;exact⟨v,q,e2.2.1⟩
 rw[D];refine Calls.callWith_builtin Z (Calls.evalArgs_plain (Calls.spliced_cons (ap (he.h c s1 σ S _ n q1) λM R ⟨y,H2,W,C,L⟩ =>
  Calls.spliced_cons (ap (hf.h c R σ H2 _ W L) λfv s3 ⟨z,V,I3,p,b,kvs,k,B,d3,ky,g,J,q4⟩=>Calls.spliced_nil ?_))))
 subst B;obtain rfl:M=Value.ref b:=C;exact K2 (by omega) I3 d3 ky g p (λl w' G N j i=>⟨l,V,j,i,J l N⟩) λen m G j O k4=>⟨z,m,j,p,q4 en m O k4⟩⟩
end
def eY(a b:Int × Int):Bool:=if a.1=b.1 then decide (a.2 > b.2) else decide (a.1 > b.1)
def jA(h:Heap)(x:Addr)(a:Int × Int):Prop:=∃o t u n,h.get? x=some o/\o.cls=.type "tuple"/\o.data=.seq #[.int a.1 t,.int a.2 u] n
section
variable {prog:Program}{w:World}{A:Around}{E:Value->Shared->Prop}{s:Shared}
def jA.ty {x:Addr} {a:Int × Int} (h:jA s.heap x a):s.TypeIs (.ref x) "tuple":=by
 obtain⟨o,t,u,n,c,b,_⟩:=h;exact⟨o,c,b⟩
def B5{x y:Addr}{a b:Int × Int}{P:Fin->Shared->Prop}(j:A.units+4<cLine)(hx:jA s.heap x a)(hy:jA s.heap y b)(q:P (.done (.ret (.bool (eY a b)))) s) :
 wpAny (model prog w) A (Builtin.«tuple.__gt__» ⟨[.ref x,.ref y],[]⟩) P E s:=by
 have ty:=hy.ty;obtain⟨o,t,u,n,g,k,d⟩:=hx;obtain⟨m,t',c,l,e,p,f⟩:=hy;show wpAny _ _ (isInstance (.ref y) (.type "tuple") >>= _) _ _ _;refine on (wpAny_isInstance ty isSubtype_tuple_tuple ?_);simp only [OW,OO,if_false];refine on (wpAny_tupleItemsOf g d ?_);refine on (wpAny_tupleItemsOf e f ?_);refine on ?_;show wpAny _ _ (forIn [(Value.int a.1 t,Value.int b.1 t'),(Value.int a.2 u,Value.int b.2 c)] _ _) _ _ _;rw[O3];refine on (on (wpAny_eqBool_int ?_));unfold eY at q;by_cases e1:a.1=b.1
 ·rw[Sc e1]at q;rw[beq_iff_eq.mpr e1];simp only [OW,OO,if_false];refine Sa ?_;dsimp only;rw[O3];refine on (on (wpAny_eqBool_int ?_));by_cases e2:a.2=b.2
  ·rw[beq_iff_eq.mpr e2];simp only [OW,OO,if_false];refine Sa ?_;dsimp only;rw[PX];refine Sa (Sa ?_);rw[Sh (by omega)]at q;exact q
  ·rw[beq_eq_false_iff_ne.mpr e2];simp only [Qa,if_true];refine on (wpAny_rule (on (CmpOf.ints_gt (prog:=prog) (w:=w) (P:=λi v=>∃t,v=.int (if i=0 then a.2 else b.2) t) (λi=>if i=0 then a.2 else b.2) (λi v h=>h) 0 1 _ _ _ _ _ ⟨u,Z⟩ ⟨c,Z⟩ ?_)));exact on (Sa (Sa (Sa (Sa q))))
 ·rw[Sb e1]at q;rw[beq_eq_false_iff_ne.mpr e1];simp only [Qa,if_true];refine on (wpAny_rule (on (CmpOf.ints_gt (prog:=prog) (w:=w) (P:=λi v=>∃t,v=.int (if i=0 then a.1 else b.1) t) (λi=>if i=0 then a.1 else b.1) (λi v h=>h) 0 1 _ _ _ _ _ ⟨t,Z⟩ ⟨t',Z⟩ ?_)));exact on (Sa (Sa (Sa (Sa q))))
def B6{x y:Addr}{a b:Int × Int}{Q:Value->Shared->Prop}(c:A.units+8<cLine)(hx:jA s.heap x a)(hy:jA s.heap y b)(q:Q (.bool (eY a b)) s) :
 wpAny (model prog w) A (richCompare .Gt (.ref x) (.ref y)) Q E s :=
 wpAny_richCompare_same_room (op:=.Gt) hx.ty hy.ty RV (wpAny_call_entry RV hx.ty PySem.F.entry_tuple_gt (B5 (by show A.units+1+4<cLine;omega) hx hy ⟨_,rfl,nofun,q⟩) (PySem.F.args_tuple_gt_2 _ _)) (by omega)
end
section
variable {X:Cx}{pins:List (Addr × Obj)}{σ:St}{H:Hp}{s:Shared}
def yh{x:Addr}{a:Int × Int}(I:ae X pins σ H s)(h:H x=some (.tup [.int a.1,.int a.2])):jA s.heap x a:=by
 obtain⟨_,b,r,o,d,c,n,e⟩:=(show bd X.prog X.w H s.heap x (.tup [.int a.1,.int a.2]) from I.hok x _ h);cases r with
 | cons c1 r=>cases r with
  | cons c2 r=>cases r with
   | nil =>
    obtain⟨t,rfl⟩:=c1;obtain⟨u,rfl⟩:=c2;exact⟨o,t,u,n,d,c,e⟩
structure mo (X:Cx) (pins:List (Addr × Obj)) (σ:St) (H:Hp) (it S l:Addr) (j:Nat) (arr:Array Value) (s:Shared):Prop where
 inv:ae X pins σ H s
 seq:∃c,s.heap.get? S=some (seqObj "list" arr c)
 iter:s.heap.IsListIter it l j
def mo.write{it S l:Addr}{j:Nat}{d:Array Value}(a:Array Value)(m:mo X pins σ H it S l j d s)(oS:dM X pins H S)(hSI:S≠it){t':Nat} :
 mo X pins σ H it S l j a { s with heap:=s.heap.update S (Obj.mapSeq λ_=>a),toks:=t' }:=by
 obtain⟨I,⟨c,eS⟩,k⟩:=m;have s1:=O6 s.heap S (Obj.mapSeq λ_=>a);obtain⟨o,g,f,h⟩:=k;exact⟨oS.turned I λb u i e=>(s1.2 b i).trans e,⟨_,get?_update_seq eS λ_=>a⟩,⟨o,(s1.2 it hSI.symm).trans g,f,h⟩⟩
variable {l it S:Addr}{ts:List (Addr × Int × Int)}{R:Result->Shared->Prop}{dv:Value}
def oX(I:ae X pins σ H s)(f:H l=some (.lst (ts.map λx=>V.ref x.1))):s.heap.IsList l (ts.map λx=>Value.ref x.1).toArray:=by
 obtain⟨_,d,n,r,e⟩:=(show bd X.prog X.w H s.heap l (.lst (ts.map λx=>V.ref x.1)) from I.hok l _ f);have all:∀ {c:List (Addr × Int × Int)} {us:List Value},ay (c.map λx=>V.ref x.1) us->us=c.map λx=>Value.ref x.1:=by
  intro c
  induction c with
  | nil=>intro us r;cases r;rfl
  | cons y c ih =>
   intro us r;cases r with
   | cons a b =>
    rw[OD,ih b];rw[show _=Value.ref y.1 from a]
 rw[all r]at e;exact⟨_,e,Z,n,Z⟩
def Hk(M:H l=some (.lst (ts.map λx=>V.ref x.1)))(L:∀x∈ts,H x.1=some (.tup [.int x.2.1,.int x.2.2]))(hh:X.A.handled=none)(hu:X.A.units+16<cLine)(oS:dM X pins H S)(oI:dM X pins H it)(hSI:S≠it)(D:l≠it)
 (hR:∀(i:Nat) (x:Addr × Int × Int) s',ts[i]? = some x->(∀(j:Nat) (y:Addr × Int × Int),ts[j]? = some y->eY y.2 x.2=false)->ae X pins σ H s'->R (.ok (.ret (.ref x.1))) s') :
 ∀(r j i:Nat) (s:Shared) (x:Addr × Int × Int),ts.length-(j+1)=r->j+1<=ts.length->mo X pins σ H it S l (j+1) #[.ref x.1,.ref x.1] s->ts[i]? = some x->i<=j ->
  (∀h y,h<=j->ts[h]? = some y->eY y.2 x.2=false)->codeAny (model X.prog X.w) X.A (.builtin "max.loop" ⟨[.ref it,.none,.ref S],[(Str.ofString "default",dv)]⟩) R s:=by
 have g:(toString "max"++toString ".loop" : String) = "max.loop":=by decide
 have W:=Walks.list (prog:=X.prog) (w:=X.w) (A:=X.A.in1) hh it l D (ts.map λx=>Value.ref x.1).toArray;have hsz:(ts.map λx=>Value.ref x.1).toArray.size=ts.length:=by rw[OE,On]
 intro r
 induction r with
 | zero =>
  intro j i s x hr O m hx J d;have F:j+1=ts.length:=by omega
  obtain⟨I,⟨c,eS⟩,B⟩:=m;refine codeAny_builtin Qb ?_;rw[Around.under_plainId O7 _];show wpAny _ X.A.in1 (seqItems? (.ref S) >>= _) _ _ _;refine on (wpAny_seqItems eS Z ?_);show wpAny _ X.A.in1 (tryCatch (pyNext (.ref it)) _ >>= _) _ _ _;refine on (wpAny_tryCatch (W.done _ _ _ ⟨by rw[hsz,<- F];exact B,oX I M⟩ λh' n f=>?_));have U:ae X pins σ H { s with heap:=h',toks:=n }:=oI.turned I λb u q e=>f b u (by simpa using q) e;have eS1:h'.get? S=some (seqObj "list" #[.ref x.1,.ref x.1] c):=f S _ (by simpa using hSI) eS;show wpAny _ X.A.in1 (updateSeq S (λ_=>#[]) >>= _) _ _ _;refine on ?_;refine wpAny_updateSeq eS1 Z (on (wpAny_letGo (Sa ?_)));have s1:=O6 h' S (Obj.mapSeq λ_=>(#[]:Array Value));refine hR i x _ hx (λh y hy=>d h y ?_ hy) (oS.turned U λb u q e=>(s1.2 b q).trans e);have:=(Ou.mp hy).1;omega
 | succ r ih =>
  intro j i s x hr O m hx J d;have k:j+1<ts.length:=by omega
  obtain⟨I,⟨c,eS⟩,B⟩:=m;obtain⟨y,hy⟩:∃y,ts[j+1]? = some y:=⟨_,OF k⟩;refine codeAny_builtin Qb ?_;rw[Around.under_plainId O7 _];show wpAny _ X.A.in1 (seqItems? (.ref S) >>= _) _ _ _;refine on (wpAny_seqItems eS Z ?_);show wpAny _ X.A.in1 (tryCatch (pyNext (.ref it)) _ >>= _) _ _ _;refine on (wpAny_tryCatch (W.item (j+1) _ _ _ (by rw[hsz];exact k) ⟨B,oX I M⟩ λv h' n hP o f=>?_));have Y:v=Value.ref y.1:=by
   have z:(ts.map λx=>Value.ref x.1).toArray[j+1]? = some v:=hP;rw[Pn,Ov,hy]at z;exact (OI z).symm
  subst Y;have p:mo X pins σ H it S l (j+1+1) #[.ref x.1,.ref x.1] { s with heap:=h',toks:=n }:=⟨oI.turned I λb u q e=>f b u (by simpa using q) e,⟨c,f S _ (by simpa using hSI) eS⟩,o.1⟩;show wpAny _ X.A.in1 (tryCatch (holding [.ref y.1,.ref y.1] (richCompare .Gt (.ref y.1) (.ref x.1) >>= _)) _ >>= _) _ _ _;refine on (wpAny_tryCatch (wpAny_holding (on (B6 (a:=y.2) (b:=x.2) (by show X.A.units+1+8<cLine;omega) (yh p.inv (L y (OA hy))) (yh p.inv (L x (OA hx))) ?_))));refine on (wpAny_holding (wpAny_truthy_bool ?_));refine on (wpAny_letGo (Sa ?_));have C:eY y.2 y.2=false:=by unfold eY;rw[Sc rfl];exact Sh (by omega)
  cases hb':eY y.2 x.2 with
  | true =>
   simp only [if_true];obtain⟨c2,eS2⟩:=p.seq;refine on ?_;refine wpAny_updateSeq eS2 Z (on (wpAny_letGo ?_));rw[g];refine Sa ⟨plainId_quiet O7 _,ih (j+1) (j+1) _ y (by omega) k (p.write _ oS hSI) hy (Oo _) λh z G hz=>?_⟩;by_cases e:h=j+1
   ·subst e;rw[hy]at hz;cases hz;exact C
   ·have N:=d h z (by omega) hz;unfold eY at N hb' ⊢
    split at N<;>split at hb'<;>split<;>simp only [decide_eq_true_eq,decide_eq_false_iff_not]at *<;>omega
  | false =>
   simp only [OO,if_false];refine on (wpAny_letGo ?_);rw[g];refine Sa ⟨plainId_quiet O7 _,ih (j+1) i _ x (by omega) k p hx (by omega) λh z G hz=>?_⟩;by_cases e:h=j+1
   ·subst e;rw[hy]at hz;cases hz;exact hb'
   ·exact d h z (by omega) hz
def Hl (a v:Value):argsOk "max" ⟨[a],[(Str.ofString "default",v)]⟩:=by unfold argsOk;kernel_rfl
def Hm{Q:Value->Shared->Prop}{E:Value->Shared->Prop}(I:ae X pins σ H s)(p:H l=some (.lst (ts.map λx=>V.ref x.1)))(J:∀x∈ts,H x.1=some (.tup [.int x.2.1,.int x.2.2]))(D:X.A.handled=none)(M:X.A.units+16<cLine)
 (G:ts=[]->∀s',ae X pins σ H s'->Q dv s')
 (hQ:∀(i:Nat) (x:Addr × Int × Int) s',ts[i]? = some x->(∀(j:Nat) (y:Addr × Int × Int),ts[j]? = some y->eY y.2 x.2=false)->ae X pins σ H s'->Q (.ref x.1) s') :
 wpAny (model X.prog X.w) X.A (call (.builtin "max") [.ref l] [(Str.ofString "default",dv)]) Q E s:=by
 have c:(toString "max"++toString ".loop" : String) = "max.loop":=by decide
 have hsz:(ts.map λx=>Value.ref x.1).toArray.size=ts.length:=by rw[OE,On]
 have f:=oX I p;obtain⟨R,q,_⟩:=id f;have B:l<s.heap.objs.size:=Oy q;refine kmk_tree PySem.F.kind_max PySem.F.plain_max PySem.F.entry_max (Hl _ _) ?_;show wpAny _ X.A.in1 (Builtin.Builtins.bindParams "max" ["key", "default"] 0 ⟨[],[(Str.ofString "default",dv)]⟩ >>= _) _ _ s;refine on (wpAny_of_eq (show Builtin.Builtins.bindParams "max" ["key", "default"] 0 ⟨[],[(Str.ofString "default",dv)]⟩=pure [none,some dv] from rfl) ?_);refine on (Sa ?_);refine on (wpAny_pyIter_list f ?_);refine on (wpAny_newList ?_ (Ox _));rw[c];generalize hIo:({ cls:=.type "list_iterator",data:=.fields #[.ref l,.int 0 0] }:Obj)=oi;have n:oi.isFreed=false:=by rw[<- hIo];rfl
 have hS:(s.heap.push oi).objs.size=s.heap.objs.size+1:=size_push' ..;have oI:dM X pins H s.heap.objs.size:=.fresh I (Oo _);have oS:dM X pins H (s.heap.push oi).objs.size:=.fresh I (by rw[hS];exact Pk _);have hSI:(s.heap.push oi).objs.size≠s.heap.objs.size:=by rw[hS];exact PB (Pb _)
 have h:l≠s.heap.objs.size:=OC B;have kp:∀b u,s.heap.get? b=some u->((s.heap.push oi).push (seqObj "list" #[] 0)).get? b=some u:=λb u e=>Ow _ (Ow _ e);have gI:((s.heap.push oi).push (seqObj "list" #[] 0)).get? s.heap.objs.size=some oi:=Ow _ (OB _ n);have gS:((s.heap.push oi).push (seqObj "list" #[] 0)).get? (s.heap.push oi).objs.size=some (seqObj "list" #[] 0):=OB _ rfl;have o:ae X pins σ H { s with heap:=(s.heap.push oi).push (seqObj "list" #[] 0) }:=I.kept (t':=s.toks) kp;have m:((s.heap.push oi).push (seqObj "list" #[] 0)).IsListIter s.heap.objs.size l 0:=⟨oi,gI,by rw[<- hIo],by rw[<- hIo];rfl⟩;have W:=Walks.list (prog:=X.prog) (w:=X.w) (A:=X.A.in1) D s.heap.objs.size l h (ts.map λx=>Value.ref x.1).toArray;refine Sa ⟨plainId_quiet O7 _,?_⟩;refine codeAny_builtin Qb ?_;rw[Around.under_plainId O7 _];show wpAny _ X.A.in1 (seqItems? (.ref _) >>= _) _ _ _;refine on (wpAny_seqItems gS Z ?_);show wpAny _ X.A.in1 (tryCatch (pyNext (.ref s.heap.objs.size)) _ >>= _) _ _ _;have hL0:=oX (s:={ s with heap:=(s.heap.push oi).push (seqObj "list" #[] 0) }) o p;by_cases hne:ts=[]
 ·refine on (wpAny_tryCatch (W.done _ _ _ ⟨by rw[hsz,hne];exact m,hL0⟩ λh' k d=>?_));show wpAny _ X.A.in1 (rule _ >>= _) _ _ _;refine on (wpAny_rule (Sa ?_));exact G hne _ (oI.turned (s:={ s with heap:=(s.heap.push oi).push (seqObj "list" #[] 0) }) o λb u r e=>d b u (by simpa using r) e)
 ·have a:0<ts.length:=PY.mpr hne;obtain⟨y,hy⟩:∃y,ts[0]? = some y:=⟨_,OF a⟩;refine on (wpAny_tryCatch (W.item 0 _ _ _ (by rw[hsz];exact a) ⟨m,hL0⟩ λv h' k hP g d=>?_));have L:v=Value.ref y.1:=by
   have z:(ts.map λx=>Value.ref x.1).toArray[0]? = some v:=hP;rw[Pn,Ov,hy]at z;exact (OI z).symm
  subst L;have C:mo X pins σ H s.heap.objs.size (s.heap.push oi).objs.size l 1 #[] { s with heap:=h',toks:=k }:=⟨oI.turned (s:={ s with heap:=(s.heap.push oi).push (seqObj "list" #[] 0) }) o λb u r e=>d b u (by simpa using r) e,⟨0,d _ _ (by simpa using hSI) gS⟩,g.1⟩;obtain⟨S,eS2⟩:=C.seq;show wpAny _ X.A.in1 (updateSeq (s.heap.push oi).objs.size (λ_=>#[.ref y.1,.ref y.1]) >>= _) _ _ _;refine on ?_;refine wpAny_updateSeq eS2 Z ?_;rw[c];refine Sa ⟨plainId_quiet O7 _,Hk p J D M oS oI hSI h hQ _ 0 0 _ y Z a (C.write _ oS hSI) hy (Oo _) λN z O hz=>?_⟩;have e:N=0:=by omega
  subst e;rw[hy]at hz;cases hz;unfold eY;rw[Sc rfl];exact Sh (by omega)
end
def Cj(d c:TE):TE:=λσ H Q=>d σ H λx b=>c σ b λy a=>∃l ts,x=.ref l/\a l=some (.lst (ts.map λx:Addr × Int × Int=>V.ref x.1))/\(∀x∈ts,a x.1=some (.tup [.int x.2.1,.int x.2.2])) /\
 (ts=[]->Q y a)/\∀x∈ts,(∀z∈ts,eY z.2 x.2=false)->Q (.ref x.1) a
def ED {X:Cx} {e c:Expr} {n g:TE} {p pos kp:Pos} {k:Nat} (f:bj k X.A) (V:QE X e n) (hd:QE X c g) (Y:X.mg "max" = none) (L:Gl X "max") (W:starEach [e] X.env=(false,eval e X.env)::starEach [] X.env:=by rfl) :
 QE X (.Call (.Name "max" p) [e] [⟨some "default",c,kp⟩] pos) (Cj n g):=⟨λa s σ H Q I h=>by
 have b:backTo pos (starEach [e] X.env)=[(false,eval e X.env)]:=by
  unfold backTo;rw[W];rfl
 have U:backTo pos (starEach ([]:List Expr) X.env)=[]:=rfl;refine wpAny_Call_Name_kw (hJ I L Y (show bootBuiltins "max" = some (.builtin "max") by decide +kernel) ?_ (by decide) (by decide));refine callWith_kw (e:=e) (rest:=[]) (kws:=[⟨some "default",c,kp⟩]) ?_ (by rw[b,U]) (by rw[b];rfl) rfl rfl;rw[b];refine Calls.spliced_cons (ap (V.h a s σ H _ I h) λu s1 ⟨x,F,B,O,R⟩=>Calls.spliced_nil ?_);refine kws_cons (ap (hd.h a s1 σ F _ B R) λD s2 ⟨y,m,J,M,l,ts,ex,G,v,o,N⟩=>kws_nil ?_);subst ex;obtain rfl:u=Value.ref l:=O;show wpAny _ _ (call (.builtin "max") [.ref l] [(Str.ofString "default",D)]) _ _ _;have:=f.un;exact Hm J G v f.hd (by omega) (λC r d=>⟨y,m,d,M,o C⟩) λi x r hx S d=>⟨.ref x.1,m,d,rfl,N x (OA hx) λz hz=>by
  obtain⟨j,q⟩:=OY hz;exact S j z q⟩⟩
structure qE (K:W.Frag) (x qual:Str) (st:Stmt) (f:Addr) (fd:FuncData) (c Pt:Addr):Prop where
 ex:∃(oc:Value) (od:Option Addr) (kV doc pm:Value) (an:Option Addr) (ct:Value) (osl:Array (Option Value)),
  fd=W.fnOf x qual (aK st) (aI st) (aj st) .none kV doc pm an (.ref c) ct/\K.lookup f=some ⟨oc,od,.func fd,osl⟩/\W.codeIn K (.ref c) qual=true
 hd:W.codeHdIn K c Pt=true
def KF{K:W.Frag}{x qual:Str}{st:Stmt}{f c Pt:Addr}{i:Value}{g e:Option Addr}{b:Array (Option Value)}{kV a d ct:Value}(l:K.lookup f=some ⟨i,g,.func (W.fnOf x qual (aK st) (aI st) (aj st) .none kV a d e (.ref c) ct),b⟩)
 (h:W.codeIn K (.ref c) qual=true) (k:W.codeHdIn K c Pt=true):qE K x qual st f (W.fnOf x qual (aK st) (aI st) (aj st) .none kV a d e (.ref c) ct) c Pt:=⟨⟨i,g,kV,a,d,e,ct,b,rfl,l,h⟩,k⟩
def qE.okQ{P:Program}{w:World}{K:W.Frag}{mg:Str->Option Value}{base:Heap}{x qual:Str}{st:Stmt}{f c Pt:Addr}{e:FuncData}{N ps:List Str}{k:Nat}{sp:Sp}(F:qE K x qual st f e c Pt)(S:aL N ps (aj st))(len:∀vs H Q E,sp vs H Q E->vs.length=ps.length)
 (a:∀(A:Around) (outer:List Env) (s:Shared) (H:Hp) (vs:List V) (Q:VK) (E:XK),bj k (A.deeper (envOfC qual (aj st) s.heap.objs.size f (.ref c)))->sp vs H Q E ->
   ∃t,fR (ib bQ P w K mg base N qual (aj st) f (.ref c) A outer s H E).nox (aI st) t/\t { nx:=λ_ H'=>Q .non H',rt:=Q } (fK N vs) H):bD P w K mg base bQ (k+1) f e ps sp:=by
 obtain⟨n,m,kV,g,o,p,ct,l,rfl,i,d⟩:=F.ex;refine sL i d S len λA outer s H vs Q E j b=>?_;obtain⟨t,h,q⟩:=a A outer s H vs Q E j b;exact⟨t,h.h.nox,q⟩
def strOf? : Value->Option Str
 | .str x _=>some x
 | _=>none
def refOf? : Value->Option Addr
 | .ref a=>some a
 | _=>none
def Ae:List DictEntry->Option (List (Int × Str × Addr))
 | []=>some []
 | e::r=>(strOf? e.key).bind λx=>(refOf? e.val).bind λa=>(Ae r).map λl=>(e.hash,x,a)::l
structure Ob (K:W.Frag) (w:World) (a:Addr) (m:List (Int × Str × Addr)):Prop where
 ex:∃es ep,K.lookup a=some ⟨.type "dict",none,.dict es ep,#[]⟩/\Ae es.toList=some m
 hs:∀p∈m,p.1=hashStr w p.2.1
 nd:(m.map (·.2.1)).Nodup
 ns:(a == sysModules)=false
structure Oa (P:Program) (w:World) (K:W.Frag) (mg:Str->Option Value) (base:Heap) (x:Str) (k:Nat) (f:Addr) (fd:FuncData) (ps:List Str) (dvs:List V) (sp:Sp):Prop where
 g:mg x=some (.ref f)
 kp:W.keepIn K (.ref f)=true
 b:∃ds,az K fd ps ds/\ay dvs ds
 ok:bD P w K mg base bQ k f fd ps sp
def zM(K:W.Frag)(neg:Bool):R2:=λx y H Q=>∃xs d,aU K H (.list xs) y/\aU K H d x/\PyData.canLayAll0 xs=true/\d.canLay0=true/\min (PyData.depthAll xs) d.depth<=60/\Q (.bl (if neg then !xs.any (λy=>PyData.eqv y d) else xs.any (λy=>PyData.eqv y d))) H
section
variable {X:Cx}{K:W.Frag}
def J6(h:X.K=K)(l:X.A.units+64<cLine):aM X (compareOp .NotIn) (zM K true):=by
 subst h;intro a s σ H x y v u Q I i k q;obtain⟨xs,d,g,f,b,e,m,q⟩:=q;obtain⟨as,j⟩:=g X a σ s _ rfl I k;obtain⟨bs,c⟩:=f X a σ s _ rfl I i;exact SeqAt.notIn_list_reads j c b e (by omega) ⟨.bl _,H,I,rfl,q⟩
end
end L2
namespace My
open PySem L2
def Of{X:Cx}(K:W.Frag)(h:X.K=K:=by rfl):=bO (X:=X) (K:=K) h
def Og{X:Cx}(K:W.Frag)(h:X.K=K:=by rfl):=aB (X:=X) (K:=K) h
def Oh{X:Cx}(K:W.Frag)(h:X.K=K:=by rfl):=fD (X:=X) (K:=K) h
def Oi{X:Cx}(K:W.Frag)(h:X.K=K:=by rfl):=cD (X:=X) (K:=K) h
def Oj{X:Cx}(K:W.Frag)(h:X.K=K:=by rfl):=dw (X:=X) (K:=K) h
def top(i:Nat):Stmt:=PySem.Challenge.pw_bytetongue_k83_whole_in_step_from_all_sp.main.body.getD i (.Pass ⟨0,0,0,0⟩)
abbrev j9:Stmt:=top 2
abbrev j7:Stmt:=top 3
abbrev kj:Stmt:=top 4
abbrev j8:Stmt:=top 5
abbrev i9:Stmt:=top 6
abbrev kG:Stmt:=top 12
abbrev kx:Stmt:=top 21
abbrev kD:Stmt:=top 22
abbrev kz:Stmt:=top 23
abbrev ko:Stmt:=top 24
abbrev ku:Stmt:=top 25
abbrev kr:Stmt:=top 26
abbrev i8:Stmt:=top 27
abbrev kL:Stmt:=db (top 29) 1
abbrev kK:Stmt:=db (top 29) 4
abbrev kO:Stmt:=db (top 29) 5
abbrev kN:Stmt:=db (top 29) 6
abbrev kM:Stmt:=db (top 29) 7
abbrev kh:Stmt:=top 33
abbrev kZ:Stmt:=db (top 34) 0
abbrev kX:Stmt:=db (top 34) 1
abbrev kY:Stmt:=db (top 34) 2
abbrev kW:Stmt:=db (top 34) 7
abbrev kU:Stmt:=db (top 34) 8
abbrev lf:Stmt:=db (top 34) 9
abbrev jc:Stmt:=db (top 34) 10
abbrev j6:Stmt:=top 36
abbrev kI:Stmt:=top 37
abbrev kH:Stmt:=top 38
abbrev kJ:Stmt:=top 39
abbrev iw:Stmt:=top 40
abbrev ke:Stmt:=top 41
abbrev i7:Stmt:=top 42
abbrev j5:Stmt:=top 43
abbrev gT:Stmt:=top 44
abbrev kB:Stmt:=top 48
abbrev kE:Stmt:=top 49
abbrev kF:Stmt:=top 50
abbrev kQ:Stmt:=db (top 51) 0
abbrev kT:Stmt:=db (top 51) 1
abbrev jb:Stmt:=db (top 51) 2
abbrev kP:Stmt:=db (top 51) 5
abbrev kR:Stmt:=db (top 51) 6
abbrev ja:Stmt:=db (top 51) 7
abbrev jZ:Stmt:=top 53
abbrev jY:Stmt:=top 54
abbrev ir:Stmt:=top 55
abbrev j3:Stmt:=top 56
abbrev i5:Stmt:=top 57
abbrev jW:Stmt:=top 58
abbrev j1:Stmt:=top 59
abbrev jX:Stmt:=top 60
abbrev j4:Stmt:=top 61
abbrev jV:Stmt:=top 62
abbrev i6:Stmt:=top 63
abbrev i4:Stmt:=top 64
abbrev iu:Stmt:=top 65
def qX:aL ["tongue", "spot", "unit", "begun", "found"] ["tongue", "spot", "unit"] (aj j9):=by constructor<;>first|rfl|decide +kernel
def oj:aL ["tongue", "spots", "unit", "behind", "spot", "goal"] ["tongue", "spots", "unit"] (aj j7):=by constructor<;>first|rfl|decide +kernel
def i3:aL ["tongue", "units", "layer", "page", "begun", "layers", "unit"] ["tongue", "units"] (aj kj):=by constructor<;>first|rfl|decide +kernel
def qW:aL ["layer", "spots", "found", "spot"] ["layer", "spots"] (aj j8):=by constructor<;>first|rfl|decide +kernel
def gb:aL ["tongue", "row", "size", "layers", "many", "spots", "least", "layer"] ["tongue", "row"] (aj i9):=by constructor<;>first|rfl|decide +kernel
def DA:aL ["one", "other"] ["one", "other"] (aj kG):=by constructor<;>first|rfl|decide +kernel
def Dv:aL ["thing"] ["thing"] (aj kx):=by constructor<;>first|rfl|decide +kernel
def Dy:aL ["thing"] ["thing"] (aj kD):=by constructor<;>first|rfl|decide +kernel
def Dw:aL ["number"] ["number"] (aj kz):=by constructor<;>first|rfl|decide +kernel
def Dr:aL ["number"] ["number"] (aj ko):=by constructor<;>first|rfl|decide +kernel
def Dt:aL ["thing"] ["thing"] (aj ku):=by constructor<;>first|rfl|decide +kernel
def Ds:aL ["thing"] ["thing"] (aj kr):=by constructor<;>first|rfl|decide +kernel
def Du:aL ["thing"] ["thing"] (aj i8):=by constructor<;>first|rfl|decide +kernel
def DC:aL ["self"] ["self"] (aj kL):=by constructor<;>first|rfl|decide +kernel
def DB:aL ["self", "row", "page"] ["self", "row", "page"] (aj kK):=by constructor<;>first|rfl|decide +kernel
def DE:aL ["self", "row", "page"] ["self", "row", "page"] (aj kO):=by constructor<;>first|rfl|decide +kernel
def xC:aL ["self", "begun", "page", "found"] ["self", "begun", "page"] (aj kN):=by constructor<;>first|rfl|decide +kernel
def DD:aL ["self"] ["self"] (aj kM):=by constructor<;>first|rfl|decide +kernel
def oq:aL ["signs", "which", "places", "place", "sign"] ["signs", "which"] (aj kh):=by constructor<;>first|rfl|decide +kernel
def DJ:aL ["self", "first", "second"] ["self", "first", "second"] (aj kZ):=by constructor<;>first|rfl|decide +kernel
def qZ:aL ["self", "page", "place", "sign"] ["self", "page"] (aj kX):=by constructor<;>first|rfl|decide +kernel
def DI:aL ["self", "page"] ["self", "page"] (aj kY):=by constructor<;>first|rfl|decide +kernel
def DH:aL ["self", "byte", "page"] ["self", "byte", "page"] (aj kW):=by constructor<;>first|rfl|decide +kernel
def qY:aL ["self", "row", "page", "sign"] ["self", "row", "page"] (aj kU):=by constructor<;>first|rfl|decide +kernel
def DK:aL ["self", "row", "page"] ["self", "row", "page"] (aj lf):=by constructor<;>first|rfl|decide +kernel
def ow:aL ["self", "spots", "page", "longest"] ["self"] (aj jc):=by constructor<;>first|rfl|decide +kernel
def jS:aL ["tongue", "steps", "sign", "row", "size", "begun"] ["tongue"] (aj j6):=by constructor<;>first|rfl|decide +kernel
def ou:aL ["steps", "one", "other", "found", "byte", "goal"] ["steps", "one", "other"] (aj kI):=by constructor<;>first|rfl|decide +kernel
def ot:aL ["steps", "apart", "one", "other"] ["steps"] (aj kH):=by constructor<;>first|rfl|decide +kernel
def jU:aL ["apart", "found", "pair", "behind", "goal"] ["apart"] (aj kJ):=by constructor<;>first|rfl|decide +kernel
def gR:aL ["apart", "far", "ahead", "unknown", "pair", "behind", "known", "earlier"] ["apart"] (aj iw):=by constructor<;>first|rfl|decide +kernel
def om:aL ["apart", "far", "pair", "row", "byte"] ["apart", "far", "pair"] (aj ke):=by constructor<;>first|rfl|decide +kernel
def mH:aL ["apart", "far", "pair", "row", "met", "onward"] ["apart", "far", "pair"] (aj i7):=by constructor<;>first|rfl|decide +kernel
def Dq:aL ["pair", "row"] ["pair", "row"] (aj j5):=by constructor<;>first|rfl|decide +kernel
def jT:aL ["tongue", "apart", "far", "endless", "trip", "pair"] ["tongue"] (aj gT):=by constructor<;>first|rfl|decide +kernel
def Dx:aL ["thing"] ["thing"] (aj kB):=by constructor<;>first|rfl|decide +kernel
def Dz:aL ["one", "other"] ["one", "other"] (aj kE):=by constructor<;>first|rfl|decide +kernel
def mI:aL ["rows", "other", "entry", "one", "earlier"] ["rows"] (aj kF):=by constructor<;>first|rfl|decide +kernel
def xE:aL ["self", "rows", "entry"] ["self", "rows"] (aj kQ):=by constructor<;>first|rfl|decide +kernel
def xG:aL ["self", "sign", "row", "size"] ["self", "sign", "row"] (aj kT):=by constructor<;>first|rfl|decide +kernel
def DG:aL ["self"] ["self"] (aj jb):=by constructor<;>first|rfl|decide +kernel
def xD:aL ["self", "row", "page", "sign"] ["self", "row", "page"] (aj kP):=by constructor<;>first|rfl|decide +kernel
def xF:aL ["self", "row", "page", "rest"] ["self", "row", "page"] (aj kR):=by constructor<;>first|rfl|decide +kernel
def DF:aL ["self"] ["self"] (aj ja):=by constructor<;>first|rfl|decide +kernel
def Do:aL ["_law_script", "_law_k"] ["_law_script", "_law_k"] (aj jZ):=by constructor<;>first|rfl|decide +kernel
def Dn:aL ["_law_found"] ["_law_found"] (aj jY):=by constructor<;>first|rfl|decide +kernel
def i0:aL ["_law_cells", "_law_found", "_law_cell", "_law_number", "_law_row_here", "_law_k"] ["_law_cells"] (aj ir):=by constructor<;>first|rfl|decide +kernel
def mG:aL ["_law_cells", "_law_found", "_law_cell", "_law_one", "_law_sign"] ["_law_cells"] (aj j3):=by constructor<;>first|rfl|decide +kernel
def jR:aL ["_law_lists_here", "_law_pages_here", "_law_page", "_law_told", "_law_byte", "_law_sign"] ["_law_lists_here"] (aj i5):=by constructor<;>first|rfl|decide +kernel
def iZ:aL ["_law_pages_here", "_law_found", "_law_page", "_law_told", "_law_row_here", "_law_goes", "_law_k"] ["_law_pages_here"] (aj jW):=by constructor<;>first|rfl|decide +kernel
def og:aL ["_law_pages_here", "_law_spot", "_law_byte", "_law_begun", "_law_row_here", "_law_goes"] ["_law_pages_here", "_law_spot", "_law_byte"] (aj j1):=by constructor<;>first|rfl|decide +kernel
def iq:aL ["_law_pages_here", "_law_cells", "_law_way", "_law_row_here", "_law_page", "_law_cell", "_law_some"] ["_law_pages_here", "_law_cells", "_law_way"] (aj jX):=by constructor<;>first|rfl|decide +kernel
def Dp:aL ["_law_witness", "_law_row_here", "_law_many"] ["_law_witness", "_law_row_here", "_law_many"] (aj j4):=by constructor<;>first|rfl|decide +kernel
def mF:aL ["_law_pages_here", "_law_row_here", "_law_walks_here", "_law_spot", "_law_walk", "_law_byte"] ["_law_pages_here", "_law_row_here"] (aj jV):=by constructor<;>first|rfl|decide +kernel
def oh:aL ["_law_pages_here", "_law_row_here", "_law_walks_here", "_law_many", "_law_here"] ["_law_pages_here", "_law_row_here"] (aj i6):=by constructor<;>first|rfl|decide +kernel
def qV:aL ["_law_tongue", "_law_pages_here", "_law_row_here", "_law_kept", "_law_found"] ["_law_tongue", "_law_pages_here", "_law_row_here"] (aj i4):=by constructor<;>first|rfl|decide +kernel
def eA:aL ["_law_script", "_law_cell", "_law_way", "_law_some", "_law_lists_here", "_law_pages_here", "_law_tongue", "_law_rows_here", "_law_row_here", "_law_asked"] ["_law_script"] (aj iu):=by constructor<;>first|rfl|decide +kernel
set_option genInjectivity false in
structure Adr where
 vD:Addr
 tw:FuncData
 vB:Addr
 tm:FuncData
 vG:Addr
 tF:FuncData
 vC:Addr
 tp:FuncData
 vS:Addr
 tO:FuncData
 vW:Addr
 tS:FuncData
 vN:Addr
 tK:FuncData
 vQ:Addr
 tN:FuncData
 vO:Addr
 tL:FuncData
 vJ:Addr
 tG:FuncData
 vL:Addr
 tI:FuncData
 vK:Addr
 tH:FuncData
 vM:Addr
 tJ:FuncData
 iH:Addr
 lZ:FuncData
 wa:Addr
 pE:FuncData
 ud_Tongue_whole_0:Tok
 wc:Addr
 pF:FuncData
 ud_Tongue_fill_0:Tok
 iI:Addr
 js:FuncData
 ud_Tongue_look_0:Tok
 wb:Addr
 tW:FuncData
 vF:Addr
 tE:FuncData
 qu:Addr
 pH:FuncData
 wm:Addr
 t5:FuncData
 wn:Addr
 ub:FuncData
 wj:Addr
 t4:FuncData
 qr:Addr
 m9:FuncData
 ud_ShiftTongue_whole_0:Tok
 qw:Addr
 na:FuncData
 ud_ShiftTongue_fill_0:Tok
 wg:Addr
 t3:FuncData
 vA:Addr
 tj:FuncData
 vY:Addr
 tU:FuncData
 vX:Addr
 tT:FuncData
 vZ:Addr
 tV:FuncData
 vT:Addr
 tP:FuncData
 vE:Addr
 tB:FuncData
 vz:Addr
 tf:FuncData
 vx:Addr
 sZ:FuncData
 qi:Addr
 pC:FuncData
 vP:Addr
 tM:FuncData
 vU:Addr
 tQ:FuncData
 vV:Addr
 tR:FuncData
 qo:Addr
 pG:FuncData
 wf:Addr
 tZ:FuncData
 we:Addr
 tY:FuncData
 qk:Addr
 m7:FuncData
 ud_TableTongue_whole_0:Tok
 qq:Addr
 m8:FuncData
 ud_TableTongue_fill_0:Tok
 wd:Addr
 tX:FuncData
 vj:Addr
 sS:FuncData
 vi:Addr
 sR:FuncData
 vf:Addr
 sO:FuncData
 vo:Addr
 sW:FuncData
 vk:Addr
 sU:FuncData
 ve:Addr
 sN:FuncData
 vm:Addr
 sV:FuncData
 vg:Addr
 sP:FuncData
 vt:Addr
 sX:FuncData
 vd:Addr
 sM:FuncData
 vw:Addr
 sY:FuncData
 vh:Addr
 sQ:FuncData
 vH:Addr
 pD:FuncData
 cP:Addr
 bt:Addr
 bA:Addr
 BQ:Tok
 BP:Tok
 BO:Tok
 BN:Tok
 BM:Tok
 BL:Tok
 BK:Tok
 BJ:Tok
 BI:Tok
 BH:Tok
 nA:Addr
structure Txt (K:PySem.W.Frag) (mg:Str->Option Value) (t:Adr):Prop where
 Bh:aQ K "spot_behind" "spot_behind" j9 t.vD t.tw
 Mq:az K t.tw ["tongue", "spot", "unit"] []
 JZ:mg "spot_behind" = some (.ref t.vD)
 Bf:aQ K "spots_behind" "spots_behind" j7 t.vB t.tm
 Mo:az K t.tm ["tongue", "spots", "unit"] []
 JX:mg "spots_behind" = some (.ref t.vB)
 Bk:aQ K "layers_along" "layers_along" kj t.vG t.tF
 Mu:az K t.tF ["tongue", "units"] []
 J9:mg "layers_along" = some (.ref t.vG)
 Bg:aQ K "spots_ahead" "spots_ahead" j8 t.vC t.tp
 Mp:az K t.tp ["layer", "spots"] []
 JY:mg "spots_ahead" = some (.ref t.vC)
 Bt:aQ K "in_step" "in_step" i9 t.vS t.tO
 MF:az K t.tO ["tongue", "row"] []
 Kj:mg "in_step" = some (.ref t.vS)
 Bx:aQ K "begins" "begins" kG t.vW t.tS
 MJ:az K t.tS ["one", "other"] []
 Kq:mg "begins" = some (.ref t.vW)
 Bp:aQ K "is_number" "is_number" kx t.vN t.tK
 MB:az K t.tK ["thing"] []
 Kf:mg "is_number" = some (.ref t.vN)
 Bs:aQ K "is_byte" "is_byte" kD t.vQ t.tN
 ME:az K t.tN ["thing"] []
 Ki:mg "is_byte" = some (.ref t.vQ)
 Bq:aQ K "is_head" "is_head" kz t.vO t.tL
 MC:az K t.tL ["number"] []
 Kg:mg "is_head" = some (.ref t.vO)
 Bl:aQ K "is_tail" "is_tail" ko t.vJ t.tG
 Mw:az K t.tG ["number"] []
 Kb:mg "is_tail" = some (.ref t.vJ)
 Bn:aQ K "is_seen_byte" "is_seen_byte" ku t.vL t.tI
 Mz:az K t.tI ["thing"] []
 Kd:mg "is_seen_byte" = some (.ref t.vL)
 Bm:aQ K "is_sign" "is_sign" kr t.vK t.tH
 Mx:az K t.tH ["thing"] []
 Kc:mg "is_sign" = some (.ref t.vK)
 Bo:aQ K "is_row" "is_row" i8 t.vM t.tJ
 MA:az K t.tJ ["thing"] []
 Ke:mg "is_row" = some (.ref t.vM)
 Nt:aQ K "unit" "Tongue.unit" kL t.iH t.lZ
 uX:az K t.lZ ["self"] []
 Nr:fI K "whole" "Tongue.whole" kK t.wa t.pE [.int 0 t.ud_Tongue_whole_0]
 NS:az K t.pE ["self", "row", "page"] [.int 0 t.ud_Tongue_whole_0]
 MN:az K t.pE ["self", "row", "page"] []
 Nw:fI K "fill" "Tongue.fill" kO t.wc t.pF [.int 0 t.ud_Tongue_fill_0]
 NU:az K t.pF ["self", "row", "page"] [.int 0 t.ud_Tongue_fill_0]
 MP:az K t.pF ["self", "row", "page"] []
 Nv:fI K "look" "Tongue.look" kN t.iI t.js [.int 0 t.ud_Tongue_look_0]
 NT:az K t.js ["self", "begun", "page"] [.int 0 t.ud_Tongue_look_0]
 uY:az K t.js ["self", "begun", "page"] []
 Nu:aQ K "spots" "Tongue.spots" kM t.wb t.tW
 MO:az K t.tW ["self"] []
 Bj:aQ K "places_in" "places_in" kh t.vF t.tE
 Mt:az K t.tE ["signs", "which"] []
 J4:mg "places_in" = some (.ref t.vF)
 NJ:aQ K "__init__" "ShiftTongue.__init__" kZ t.qu t.pH
 M3:az K t.pH ["self", "first", "second"] []
 NH:aQ K "row_beyond" "ShiftTongue.row_beyond" kX t.wm t.t5
 MZ:az K t.t5 ["self", "page"] []
 NI:aQ K "longest" "ShiftTongue.longest" kY t.wn t.ub
 M0:az K t.ub ["self", "page"] []
 NG:aQ K "sign_of" "ShiftTongue.sign_of" kW t.wj t.t4
 MY:az K t.t4 ["self", "byte", "page"] []
 NE:fI K "whole" "ShiftTongue.whole" kU t.qr t.m9 [.int 0 t.ud_ShiftTongue_whole_0]
 NX:az K t.m9 ["self", "row", "page"] [.int 0 t.ud_ShiftTongue_whole_0]
 MW:az K t.m9 ["self", "row", "page"] []
 NK:fI K "fill" "ShiftTongue.fill" lf t.qw t.na [.int 0 t.ud_ShiftTongue_fill_0]
 NY:az K t.na ["self", "row", "page"] [.int 0 t.ud_ShiftTongue_fill_0]
 M4:az K t.na ["self", "row", "page"] []
 NF:aQ K "spots" "ShiftTongue.spots" jc t.wg t.t3
 MX:az K t.t3 ["self"] []
 Be:aQ K "steps_of" "steps_of" j6 t.vA t.tj
 Mn:az K t.tj ["tongue"] []
 JW:mg "steps_of" = some (.ref t.vA)
 Bz:aQ K "apart_behind" "apart_behind" kI t.vY t.tU
 ML:az K t.tU ["steps", "one", "other"] []
 Ks:mg "apart_behind" = some (.ref t.vY)
 By:aQ K "apart_of" "apart_of" kH t.vX t.tT
 MK:az K t.tT ["steps"] []
 Kr:mg "apart_of" = some (.ref t.vX)
 BA:aQ K "ahead_of" "ahead_of" kJ t.vZ t.tV
 MM:az K t.tV ["apart"] []
 Ku:mg "ahead_of" = some (.ref t.vZ)
 Bu:aQ K "farthest" "farthest" iw t.vT t.tP
 MG:az K t.tP ["apart"] []
 Kk:mg "farthest" = some (.ref t.vT)
 Bi:aQ K "row_apart" "row_apart" ke t.vE t.tB
 Ms:az K t.tB ["apart", "far", "pair"] []
 J3:mg "row_apart" = some (.ref t.vE)
 Bd:aQ K "trip_from" "trip_from" i7 t.vz t.tf
 Mm:az K t.tf ["apart", "far", "pair"] []
 JV:mg "trip_from" = some (.ref t.vz)
 Bc:aQ K "witness" "witness" j5 t.vx t.sZ
 Ml:az K t.sZ ["pair", "row"] []
 JU:mg "witness" = some (.ref t.vx)
 Nq:aQ K "slack" "slack" gT t.qi t.pC
 AV:qE K "slack" "slack" gT t.qi t.pC 388 386
 Mr:az K t.pC ["tongue"] []
 J0:mg "slack" = some (.ref t.qi)
 Br:aQ K "is_entry" "is_entry" kB t.vP t.tM
 MD:az K t.tM ["thing"] []
 Kh:mg "is_entry" = some (.ref t.vP)
 Bv:aQ K "collide" "collide" kE t.vU t.tQ
 MH:az K t.tQ ["one", "other"] []
 Km:mg "collide" = some (.ref t.vU)
 Bw:aQ K "check_table" "check_table" kF t.vV t.tR
 MI:az K t.tR ["rows"] []
 Kn:mg "check_table" = some (.ref t.vV)
 NB:aQ K "__init__" "TableTongue.__init__" kQ t.qo t.pG
 MT:az K t.pG ["self", "rows"] []
 ND:aQ K "enter" "TableTongue.enter" kT t.wf t.tZ
 MV:az K t.tZ ["self", "sign", "row"] []
 NA:aQ K "rows" "TableTongue.rows" jb t.we t.tY
 MS:az K t.tY ["self"] []
 Ny:fI K "whole" "TableTongue.whole" kP t.qk t.m7 [.int 0 t.ud_TableTongue_whole_0]
 NV:az K t.m7 ["self", "row", "page"] [.int 0 t.ud_TableTongue_whole_0]
 MQ:az K t.m7 ["self", "row", "page"] []
 NC:fI K "fill" "TableTongue.fill" kR t.qq t.m8 [.int 0 t.ud_TableTongue_fill_0]
 NW:az K t.m8 ["self", "row", "page"] [.int 0 t.ud_TableTongue_fill_0]
 MU:az K t.m8 ["self", "row", "page"] []
 Nz:aQ K "spots" "TableTongue.spots" ja t.wd t.tX
 MR:az K t.tX ["self"] []
 A6:aQ K "_law_pick" "_law_pick" jZ t.vj t.sS
 Me:az K t.sS ["_law_script", "_law_k"] []
 JO:mg "_law_pick" = some (.ref t.vj)
 A5:aQ K "_law_plain" "_law_plain" jY t.vi t.sR
 Md:az K t.sR ["_law_found"] []
 JN:mg "_law_plain" = some (.ref t.vi)
 A2:aQ K "_law_rows" "_law_rows" ir t.vf t.sO
 Ma:az K t.sO ["_law_cells"] []
 JK:mg "_law_rows" = some (.ref t.vf)
 A9:aQ K "_law_lists" "_law_lists" j3 t.vo t.sW
 Mh:az K t.sW ["_law_cells"] []
 JR:mg "_law_lists" = some (.ref t.vo)
 A7:aQ K "_law_pages" "_law_pages" i5 t.vk t.sU
 Mf:az K t.sU ["_law_lists_here"] []
 JP:mg "_law_pages" = some (.ref t.vk)
 A1:aQ K "_law_spots" "_law_spots" jW t.ve t.sN
 L9:az K t.sN ["_law_pages_here"] []
 JJ:mg "_law_spots" = some (.ref t.ve)
 A8:aQ K "_law_next" "_law_next" j1 t.vm t.sV
 Mg:az K t.sV ["_law_pages_here", "_law_spot", "_law_byte"] []
 JQ:mg "_law_next" = some (.ref t.vm)
 A3:aQ K "_law_row" "_law_row" jX t.vg t.sP
 Mb:az K t.sP ["_law_pages_here", "_law_cells", "_law_way"] []
 JL:mg "_law_row" = some (.ref t.vg)
 Ba:aQ K "_law_held_long" "_law_held_long" j4 t.vt t.sX
 Mi:az K t.sX ["_law_witness", "_law_row_here", "_law_many"] []
 JS:mg "_law_held_long" = some (.ref t.vt)
 AZ:aQ K "_law_walks" "_law_walks" jV t.vd t.sM
 L8:az K t.sM ["_law_pages_here", "_law_row_here"] []
 JI:mg "_law_walks" = some (.ref t.vd)
 Bb:aQ K "_law_due" "_law_due" i6 t.vw t.sY
 Mj:az K t.sY ["_law_pages_here", "_law_row_here"] []
 JT:mg "_law_due" = some (.ref t.vw)
 A4:aQ K "_law_right" "_law_right" i4 t.vh t.sQ
 Mc:az K t.sQ ["_law_tongue", "_law_pages_here", "_law_row_here"] []
 JM:mg "_law_right" = some (.ref t.vh)
 wC:aQ K "law" "law" iu t.vH t.pD
 Mv:az K t.pD ["_law_script"] []
 zI:mg "law" = some (.ref t.vH)
 JF:mg "Tongue" = some (.ref t.cP)
 nz:dO K t.cP
 G5:wy K t.cP
 GM:bU K t.cP "unit" t.iH
 GL:bU K t.cP "whole" t.wa
 GP:bU K t.cP "fill" t.wc
 GO:bU K t.cP "look" t.iI
 GN:bU K t.cP "spots" t.wb
 NM:∀H a dx fs,H a=some (.ins t.cP dx fs)->cQ K H (.ref a) (.ref t.cP)
 JH:mg "ShiftTongue" = some (.ref t.bt)
 cv:dO K t.bt
 G4:Mk K t.bt t.qu
 GY:bU K t.bt "row_beyond" t.wm
 GZ:bU K t.bt "longest" t.wn
 GX:bU K t.bt "sign_of" t.wj
 GV:bU K t.bt "whole" t.qr
 G1:bU K t.bt "fill" t.qw
 GW:bU K t.bt "spots" t.wg
 mt_ShiftTongue_unit:bU K t.bt "unit" t.iH
 mt_ShiftTongue_look:bU K t.bt "look" t.iI
 lJ:fH K t.bt "lists"
 rN:fH K t.bt "places"
 lI:fH K t.bt "shifted"
 NP:∀H a dx fs,H a=some (.ins t.bt dx fs)->cQ K H (.ref a) (.ref t.bt)
 JG:mg "TableTongue" = some (.ref t.bA)
 dy:dO K t.bA
 G3:Mk K t.bA t.qo
 GU:bU K t.bA "enter" t.wf
 GS:bU K t.bA "rows" t.we
 GQ:bU K t.bA "whole" t.qk
 GT:bU K t.bA "fill" t.qq
 GR:bU K t.bA "spots" t.wd
 mt_TableTongue_unit:bU K t.bA "unit" t.iH
 mt_TableTongue_look:bU K t.bA "look" t.iI
 oR:fH K t.bA "rest_by_row"
 rM:fH K t.bA "row_by_sign"
 rL:fH K t.bA "sign_by_row"
 NO:∀H a dx fs,H a=some (.ins t.bA dx fs)->cQ K H (.ref a) (.ref t.bA)
 L1:mg "FIRST_HEAD" = some (.int 55296 t.BQ)
 LZ:mg "FIRST_SEEN" = some (.int 61184 t.BP)
 Ay:mg "FIRST_TAIL" = some (.int 56320 t.BO)
 LY:mg "LAST_BYTE" = some (.int 255 t.BN)
 LX:mg "LAST_SEEN" = some (.int 61439 t.BM)
 LW:mg "LAST_SIGN" = some (.int 1114111 t.BL)
 LV:mg "LAST_TAIL" = some (.int 57343 t.BK)
 LU:mg "MOST_BYTES" = some (.int 6 t.BJ)
 LT:mg "MOST_SIGNS" = some (.int 250 t.BI)
 LS:mg "MOST_TUPLES" = some (.int 64 t.BH)
 Ax:mg "SHIFTS" = some (.ref t.nA)
 x9:∀H,bJ K H t.nA (([254,255]:List Int).map V.int)
 NR:∃o,K.lookup t.nA=some o/\o.cls=.type "tuple"/\o.dict=none
 n_all:mg "all" = none
 n_bool:mg "bool" = none
 n_enumerate:mg "enumerate" = none
 n_int:mg "int" = none
 n_isinstance:mg "isinstance" = none
 n_len:mg "len" = none
 n_list:mg "list" = none
 n_max:mg "max" = none
 n_range:mg "range" = none
 n_reversed:mg "reversed" = none
 n_sum:mg "sum" = none
 n_tuple:mg "tuple" = none
end My
namespace My
open PySem L2
def jk:V->Bool
 | .int _=>true
 | _=>false
def cT(v:V)(lo a:Int):Bool:=match v with
 | .int i=>decide (lo<=i) && decide (i<=a)
 | _=>false
def fN(v:V):Bool:=cT v 0 1114111 && !(cT v 55296 57343) && !(cT v 61184 61439)
def rY{v:V}(h:jk v=true):∃i,v=.int i:=by
 cases v<;>first|exact⟨_,rfl⟩|cases h
def mE(f:V->Bool)(K:PySem.W.Frag):Sp:=λvs H Q _=>∃v,vs=[v]/\fg K H v/\Q (.bl (f v)) H
def qU(f:Int->Bool):Sp:=λvs H Q _=>∃i,vs=[.int i]/\Q (.bl (f i)) H
def o5{f:V->Bool}{K:PySem.W.Frag}{x:Str}:∀vs H Q E,mE f K vs H Q E->vs.length=[x].length:=λvs H Q E h=>by
 obtain⟨v,rfl,_⟩:=h
 rfl
def y0{f:Int->Bool}{x:Str}:∀vs H Q E,qU f vs H Q E->vs.length=[x].length:=λvs H Q E h=>by
 obtain⟨v,rfl,_⟩:=h
 rfl
def Sg(n:Int):Prop:=0<=n/\n<=1114111/\¬(55296<=n/\n<=57343)/\¬(61184<=n/\n<=61439)
def xz(n:Int):fN (.int n)=true ↔ Sg n:=by
 unfold fN cT Sg;simp;omega
def aN{α β:Type}(R:α->β->Prop)(xs:List α)(a:List β):Prop:=xs.length=a.length/\∀(i:Nat) x y,xs[i]? = some x->a[i]? = some y->R x y
def aN.nil{α β:Type}{R:α->β->Prop}:aN R [] []:=⟨rfl,λi x y h=>by simp at h⟩
def aN.cons{α β:Type}{R:α->β->Prop}{x:α}{y:β}{xs:List α}{e:List β}(h:R x y)(t:aN R xs e):aN R (x::xs) (y::e):=⟨by simp[t.1],λi a b d c=>by
 cases i with
 | zero=>simp at d c;subst d c;exact h
 | succ i=>exact t.2 i a b (by simpa using d) (by simpa using c)⟩
def aN.imp{α β:Type}{R S:α->β->Prop}{xs:List α}{c:List β}(h:aN R xs c)(k:∀x y,R x y->S x y):aN S xs c:=⟨h.1,λi x y a b=>k x y (h.2 i x y a b)⟩
def aN.app{α β:Type}{R:α->β->Prop}{xs us:List α}{c vs:List β}(h:aN R xs c)(k:aN R us vs):aN R (xs++us) (c++vs):=by
 refine⟨by simp[h.1,k.1],λi x y a b=>?_⟩;by_cases hi:i<xs.length
 ·rw[Pq hi]at a;rw[Pq (by rw[<- h.1];exact hi)]at b;exact h.2 i x y a b
 ·rw[PC (by omega)]at a;rw[PC (by rw[<- h.1];omega),<- h.1]at b;exact k.2 _ x y a b
def aN.right{α β:Type}{R:α->β->Prop}{xs:List α}{a:List β}(h:aN R xs a){i:Nat}{x:α}(hx:xs[i]? = some x):∃y,a[i]? = some y/\R x y:=by
 have b:=(Ou.mp hx).1;have hy:a[i]? = some (a[i]'(by rw[<- h.1];exact b)):=by simp
 exact⟨_,hy,h.2 i x _ hx hy⟩
def aN.left{α β:Type}{R:α->β->Prop}{xs:List α}{a:List β}(h:aN R xs a){i:Nat}{y:β}(hy:a[i]? = some y):∃x,xs[i]? = some x/\R x y:=by
 have b:=(Ou.mp hy).1;have hx:xs[i]? = some (xs[i]'(by rw[h.1];exact b)):=by simp
 exact⟨_,hx,h.2 i _ y hx hy⟩
def Kp(a:Addr)(H H':Hp):Prop:=∀c u,c≠a->H c=some u->H' c=some u
def Kp.trans{a:Addr}{H b d:Hp}(h:Kp a H b)(h':Kp a b d):Kp a H d:=λc u n e=>h' c u n (h c u n e)
def Kp.of{a:Addr}{H b:Hp}(h:af H b):Kp a H b:=λc u _ e=>h c u e
def Kp.upd{a:Addr}{H:Hp}{o:HO}:Kp a H (upd H a o):=λc u n e=>by rw[am n];exact e
end My
namespace My
open PySem L2
section
variable {P:Program}{w:World}{K:PySem.W.Frag}{mg:Str->Option Value}{base:Heap}{t:Adr}
def sn (T:Txt K mg t):bo P w K mg base "is_number" 1 t.vN t.tK ["thing"] (mE jk K):=by
 refine⟨T.Kf,T.Bp.kp,T.MB,T.Bp.okQ Dv o5 λ_ _ _ _ H vs Q E d h=>?_⟩;obtain⟨v,rfl,c,k⟩:=h;refine⟨_,(ak (aE (gZ (bq (mf (K:=K) Z) T.n_isinstance Qc (ab (aa 0) (ab (lD Z T.n_int RW) ag))) (gW (xZ (bq (mf (K:=K) Z) T.n_isinstance Qc (ab (aa 0) (ab (lD Z T.n_bool PyProof.Rows.boot_bool) ag)))))))),?_⟩;obtain⟨ty,a,b⟩:=c.isInt;refine⟨ty,_,a,b,?_⟩;refine aH (λe=>?_) (λe=>?_)
 ·obtain⟨ty,a,b⟩:=c.isBl;refine⟨ty,_,a,b,?_⟩;exact cc k (by cases v<;>simp_all [jk,rZ,zc])
 ·exact cc k (by cases v<;>simp_all [jk,rZ])
def IW (T:Txt K mg t):bo P w K mg base "is_head" 1 t.vO t.tL ["number"] (qU λi=>decide (55296<=i) && decide (i<56320)):=by
 refine⟨T.Kg,T.Bq.kp,T.MC,T.Bq.okQ Dw y0 λ_ _ _ _ H vs Q E b h=>?_⟩;obtain⟨i,rfl,k⟩:=h;refine⟨_,(ak (aE (mN fB pz (fM T.L1) (aa 0) (fM T.Ay)))),?_⟩;refine aH (λa=>?_) (λa=>?_)
 ·exact cc k (by simp at *;omega)
 ·exact cc k (by simp at *;omega)
def IT (T:Txt K mg t):bo P w K mg base "is_tail" 1 t.vJ t.tG ["number"] (qU λi=>decide (56320<=i) && decide (i<=57343)):=by
 refine⟨T.Kb,T.Bl.kp,T.Mw,T.Bl.okQ Dr y0 λ_ _ _ _ H vs Q E b h=>?_⟩;obtain⟨i,rfl,k⟩:=h;refine⟨_,(ak (aE (mN fB fB (fM T.Ay) (aa 0) (fM T.LV)))),?_⟩;refine aH (λa=>?_) (λa=>?_)
 ·exact cc k (by simp at *;omega)
 ·exact cc k (by simp at *;omega)
def IU (T:Txt K mg t):bo P w K mg base "is_seen_byte" 2 t.vL t.tI ["thing"] (mE (λv=>cT v 61184 61439) K):=by
 refine⟨T.Kd,T.Bn.kp,T.Mz,T.Bn.okQ Dt o5 λ_ _ _ _ H vs Q E c h=>?_⟩;obtain⟨v,rfl,a,k⟩:=h;refine⟨_,(ak (aE (gZ (bb (sn T) c (ab (aa 0) ag)) (gW (mN fB fB (fM T.LZ) (aa 0) (fM T.LX)))))),?_⟩;refine⟨v,Z,a,?_⟩;refine aH (λe=>?_) (λe=>?_)
 ·obtain⟨i,rfl⟩:=rY e;refine aH (λb=>?_) (λb=>?_)
  ·exact cc k (by simp[cT]at *;omega)
  ·exact cc k (by simp[cT]at *;omega)
 ·exact cc k (by cases v<;>simp_all [jk,cT])
def zx (T:Txt K mg t):bo P w K mg base "is_sign" 3 t.vK t.tH ["thing"] (mE fN K):=by
 refine⟨T.Kc,T.Bm.kp,T.Mx,T.Bm.okQ Ds o5 λ_ _ _ _ H vs Q E a h=>?_⟩;obtain⟨v,rfl,b,k⟩:=h;refine⟨_,(ao (be (dQ (mK (fz (fL (bb (sn T) a (ab (aa 0) ag)))) (mJ (fz (Ez fB fB aq (aa 0) (fM T.LW)))))) (ak (aE jf)) bi)
  (ak (aE (xZ (oF (bb (IW T) a (ab (aa 0) ag)) (oF (bb (IT T) a (ab (aa 0) ag)) (gW (bb (IU T) a (ab (aa 0) ag))))))))),?_⟩
 refine⟨v,Z,b,?_⟩;refine aH (λe=>?_) (λe=>?_)
 ·refine lS ?_;exact cc k (by cases v<;>simp_all [jk,cT,fN])
 ·obtain⟨i,rfl⟩:=rY (v:=v) (by simpa using e);refine aH (λf=>?_) (λf=>?_)
  ·refine aH (λd=>?_) (λd=>?_)
   ·exact cc k (by simp[fN,cT]at *;omega)
   ·refine⟨i,Z,?_⟩;refine aH (λg=>?_) (λg=>?_)
    ·exact cc k (by simp[fN,cT]at *;omega)
    ·refine⟨i,Z,?_⟩;refine aH (λc=>?_) (λc=>?_)
     ·exact cc k (by simp[fN,cT]at *;omega)
     ·refine⟨_,Z,b,?_⟩;exact cc k (by rw[Qh];simp[fN,cT]at *;omega)
  ·refine lS ?_;exact cc k (by simp[fN,cT]at *;omega)
def IZ (T:Txt K mg t):bo P w K mg base "is_byte" 2 t.vQ t.tN ["thing"] (mE (λv=>cT v 0 255) K):=by
 refine⟨T.Ki,T.Bs.kp,T.ME,T.Bs.okQ Dy o5 λ_ _ _ _ H vs Q E c h=>?_⟩;obtain⟨v,rfl,a,k⟩:=h;refine⟨_,(ak (aE (gZ (bb (sn T) c (ab (aa 0) ag)) (gW (mN fB fB aq (aa 0) (fM T.LY)))))),?_⟩;refine⟨v,Z,a,?_⟩;refine aH (λe=>?_) (λe=>?_)
 ·obtain⟨i,rfl⟩:=rY e;refine aH (λb=>?_) (λb=>?_)
  ·exact cc k (by simp[cT]at *;omega)
  ·exact cc k (by simp[cT]at *;omega)
 ·exact cc k (by cases v<;>simp_all [jk,cT])
end
end My
namespace My
open PySem L2
def cZ:List Int->Int->Option Nat
 | [],_=>none
 | m::ms,n=>if m=n then some 0 else (cZ ms n).map (· + 1)
def lT{ns:List Int}{n:Int}:cZ ns n=none ↔ n∉ns:=by
 induction ns with
 | nil=>simp[cZ]
 | cons m ms ih =>
  unfold cZ;by_cases e:m=n
  ·simp[e]
  ·rw[Sb e];have a:¬n=m:=λz=>e z.symm;simp[ih,a]
theorem ze:∀ {ns:List Int} {n:Int} {i:Nat},cZ ns n=some i->ns[i]? = some n/\∀j,j<i->ns[j]? ≠ some n
 | [],n,i,h=>by cases h
 | m::ms,n,i,h=>by
  unfold cZ at h;by_cases e:m=n
  ·rw[Sc e]at h;cases h;exact⟨by simp[e],λj c=>Sd c (by omega)⟩
  ·rw[Sb e]at h;obtain⟨k,d,rfl⟩:=OS.mp h;obtain⟨a,b⟩:=ze d;refine⟨by simpa using a,λj c=>?_⟩;cases j with
   | zero=>simpa using e
   | succ j=>simpa using b j (by omega)
theorem Il(ns:List Int)(n m:Int):cZ (ns++[n]) m=match cZ ns m with
 | some i=>some i
 | none=>if n=m then some ns.length else none:=by
 induction ns with
 | nil=>simp[cZ]
 | cons a as ih =>
  rw[QV,cZ,cZ];by_cases e:a=m
  ·rw[Sc e,Sc e]
  ·rw[Sb e,Sb e,ih];cases cZ as m with
   | some i=>rfl
   | none =>
    dsimp only [Option.map];by_cases e2:n=m
    ·rw[Sc e2,Sc e2];simp
    ·rw[Sb e2,Sb e2]
def Ik{ns:List Int}{n:Int}(h:n∈ns):∃i,cZ ns n=some i/\i<ns.length:=by
 cases e:cZ ns n with
 | none=>exact Sd h (lT.mp e)
 | some i=>exact⟨i,rfl,(Ou.mp (ze e).1).1⟩
def ar{α:Type}(g:Int)(x y:α):α:=if g=0 then x else y
def bB(g:Int):Prop:=g=0\/g=1
def gF{g:Int}{x y:V}(h:bB g):bZ [x,y] g=some (ar g x y):=by
 rcases h with rfl|rfl<;>rfl
def bB.flip{g:Int}(h:bB g):bB (1-g):=by
 rcases h with rfl|rfl
 ·exact .inr Z
 ·exact .inl Z
def xA{α:Type}{g:Int}{x y:α}(h:bB g):ar (1-g) x y=ar g y x:=by
 rcases h with rfl|rfl<;>rfl
def fZ{α β:Type}(f:α->β)(g:Int)(x y:α):ar g (f x) (f y)=f (ar g x y):=by
 unfold ar;split<;>rfl
def fb(O P:List Int)(b:Nat):Bool:=!decide (O.getD b 0∈P)
def di(O P:List Int):List Nat:=(List.range O.length).filter (fb O P)
def rP{O P:List Int}{b:Nat}:b∈di O P ↔ ∃n,O[b]? = some n/\n∉P:=by
 unfold di fb;rw[List.mem_filter,O2]
 constructor
 ·rintro⟨h,k⟩;refine⟨O[b],OF h,?_⟩;rw[Qo,OF h]at k;simpa using k
 ·rintro⟨n,h,k⟩;refine⟨(Ou.mp h).1,?_⟩;rw[Qo,h];simpa using k
theorem zr{f:Nat->Bool}{i:Nat}(h:∀j,j<i->f j=false)(k:f i=true):∀ {n:Nat},i<n->((List.range n).filter f).head? = some i
 | 0,z=>Sd z (by omega)
 | n+1,z=>by
  rw[PZ,Qd,List.head?_append];by_cases c:i<n
  ·rw[zr h k c];rfl
  ·obtain rfl:i=n:=by omega
   have e:(List.range i).filter f=[]:=by
    rw[Rf];intro j a;rw[h j (O2.mp a)]
    decide
   rw[e];simp[k]
def KL{f:Nat->Bool}{n:Nat}(h:∀j,j<n->f j=false):(List.range n).filter f=[]:=by
 rw[Rf];intro j a;rw[h j (O2.mp a)]
 decide
def bI(O P:List Int)(g:Int):List Int:=match (di O P).head? with
 | some b=>[254+(1-g),(b:Int)]
 | none=>[]
def mm(ns:List Int):Prop:=(∀n∈ns,Sg n)/\ns.Nodup/\ns.length<=250
structure Fp where
 dx:Addr
 pp:Addr
 pl:Addr
 ps:Addr
 d0:Addr
 d1:Addr
 l0:Addr
 l1:Addr
 s0:Addr
 s1:Addr
def gJ(H:Hp)(d:Addr)(ns:List Int):Prop:=∃kv,H d=some (.dK kv)/\∀n:Int,aR kv (.inl n)=(cZ ns n).map λi=>V.int (i:Int)
structure Tg (t:Adr) (H:Hp) (a:Addr) (f:Fp) (ns ms:List Int):Prop where
 o:H a=some (.ins t.bt f.dx [("places",.ref f.pp),("lists",.ref f.pl),("shifted",.ref f.ps)])
 p:H f.pp=some (.lst [.ref f.d0,.ref f.d1])
 l:H f.pl=some (.lst [.ref f.l0,.ref f.l1])
 s:H f.ps=some (.lst [.ref f.s0,.ref f.s1])
 d0:gJ H f.d0 ns
 d1:gJ H f.d1 ms
 l0:H f.l0=some (.lst (ns.map V.int))
 l1:H f.l1=some (.lst (ms.map V.int))
 s0:H f.s0=some (.lst ((bI ms ns 0).map V.int))
 s1:H f.s1=some (.lst ((bI ns ms 1).map V.int))
 k0:mm ns
 k1:mm ms
section
variable {t:Adr}{H H':Hp}{a:Addr}{f:Fp}{ns ms:List Int}{g:Int}
def Tg.keep(h:Tg t H a f ns ms)(k:∀c u,c∈[a,f.pp,f.pl,f.ps,f.d0,f.d1,f.l0,f.l1,f.s0,f.s1]->H c=some u->H' c=some u):Tg t H' a f ns ms:=by
 obtain⟨o,p,l,s,⟨b,d0,g⟩,⟨e,d1,d⟩,l0,l1,s0,s1,k0,k1⟩:=h;exact⟨k _ _ (by simp) o,k _ _ (by simp) p,k _ _ (by simp) l,k _ _ (by simp) s,⟨b,k _ _ (by simp) d0,g⟩,⟨e,k _ _ (by simp) d1,d⟩,k _ _ (by simp) l0,k _ _ (by simp) l1,k _ _ (by simp) s0,k _ _ (by simp) s1,k0,k1⟩
def Tg.mono(h:Tg t H a f ns ms)(k:af H H'):Tg t H' a f ns ms:=h.keep λc u _ e=>k c u e
def Tg.dk(h:Tg t H a f ns ms)(b:bB g):gJ H (ar g f.d0 f.d1) (ar g ns ms):=by
 rcases b with rfl|rfl
 ·exact h.d0
 ·exact h.d1
def Tg.ll(h:Tg t H a f ns ms)(b:bB g):H (ar g f.l0 f.l1)=some (.lst ((ar g ns ms).map V.int)):=by
 rcases b with rfl|rfl
 ·exact h.l0
 ·exact h.l1
def Tg.ss(h:Tg t H a f ns ms)(b:bB g):H (ar g f.s0 f.s1)=some (.lst ((bI (ar g ms ns) (ar g ns ms) g).map V.int)):=by
 rcases b with rfl|rfl
 ·exact h.s0
 ·exact h.s1
def CT(K:PySem.W.Frag):Sp:=λvs H Q _=>∃(a:Addr) (ns:List Int) (b:Int),vs=[.ref a,.int b]/\aJ K H a (ns.map V.int)/\mm ns/\∀p H',af H H'->H p=none->gJ H' p ns->Q (.ref p) H'
def zw (T:Txt K mg t):bo P w K mg base "places_in" 4 t.vF t.tE ["signs", "which"] (CT K):=by
 refine⟨T.J4,T.Bj.kp,T.Mt,T.Bj.okQ oq (λvs H Q E h=>by obtain⟨a,xs,D,rfl,_⟩:=h;rfl) λ_ _ _ _ H vs Q E C h=>?_⟩;obtain⟨a,ns,D,rfl,B,⟨sg,nd,Y⟩,kq⟩:=h;have F:=C.units;refine⟨_,(ao (be (aT sx (bq (Of K) T.n_len OM (ab (aa 0) ag)) (fM T.LT) (aV _)) (ak mL) bi)
  (ao (aF (i:=2) oq.nd rfl (.inl rfl) oG)
  (ao (bz PassesOwn.never rfl (jd (K:=K) rfl rfl T.n_enumerate (ab (aa 0) ag)) (cN (K:=K) rfl rfl (bp (aG (i:=3) oq.nd rfl (.inl rfl)) (bp (aG (i:=4) oq.nd rfl (.inl rfl)) cM))) (ao (be (dQ (mK (fz (fL (bb (zx T) C (ab (aa 4) ag)))) (mJ (aT (sv F) (aa 4) (aa 2) (by with_unfolding_all rfl))))) (ak mL) bi)
  (ak (lC F (aa 2) (aa 4) (aa 3)))))
  (ak (aE (aa 2)))))),?_⟩
 refine⟨_,.inl B,?_⟩;refine aH (λz=>?_) (λ_=>?_)
 ·have z:((ns.map V.int).length:Int) > 250:=Se z;rw[On]at z;omega
 refine λd U c=>?_;refine⟨a,_,rfl,c.sm.seq B,lY (K:=K) (a:=a) (xs:=ns.map V.int) (λi σ H'=>af H H'/\∃(kvs:List (aw × V)) (s v:Option V),H' d=some (.dK kvs)/\kvs.length<=i/\(∀n:Int,aR kvs (.inl n)=(cZ (ns.take i) n).map λi=>V.int (i:Int))/\σ=[some (.ref a),some (.int D),some (.ref d),s,v]) ⟨c.sm,[],_,_,c.at_,by simp,(λn=>by simp[aR,cZ]),rfl⟩ (λi σ H' _ z=>z.1.seq B) ?_ ?_⟩
 ·rintro i x p σ G W hx ⟨r,kvs,s,v,o,L,e,rfl⟩ u;obtain⟨n,g,rfl⟩:=iC hx;have hi:=(Ou.mp g).1;refine⟨p,_,Z,u.tup,Z,_,_,Z,_,_,Z,Z,?_⟩;have M:=r.trans u.sm;have d3:=u.sm _ _ o;have yes:fN (.int n)=true:=(xz n).mpr (sg n (OA g));refine⟨_,Z,.int n,?_⟩;refine aH (λy=>?_) (λ_=>?_)
  ·have y:(!fN (.int n))=true:=y;rw[yes]at y;cases y
  have b:n∉ns.take i:=λz=>by
   obtain⟨j,l⟩:=OY z;have f:j<i:=by
    have:=(Ou.mp l).1;rw[OG]at this;omega
   rw[P3 f]at l;obtain⟨O,J⟩:=Ou.mp l;obtain⟨N,R⟩:=Ou.mp g;exact Sd (J.trans R.symm) (PL.mp nd j i O N f)
  have I:aR kvs (.inl n)=none:=by rw[e,lT.mpr b];rfl
  refine⟨d,_,Z,cw.k (k:=.inl n) d3,?_⟩;refine aH (λy=>?_) (λ_=>?_)
  ·have y:(aR kvs (.inl n)).isSome=true:=y;rw[I]at y;cases y
  refine⟨d,_,rfl,fJ.k (k:=.inl n) d3 (cI (by omega)),?_⟩;refine⟨M.put c.nw,_,_,_,aP,?_,λm=>?_,Z⟩
  ·rw[oJ _ I,Oz];simp;omega
  ·rw[eT,nU g,Il,OG,Qx (by omega)];by_cases q:m=n
   ·subst q;rw[Sc rfl,lT.mpr b];simp
   ·rw[Sb (λz=>q (Sum.inl.inj z)),e];have S:¬n=m:=λz=>q z.symm;cases cZ (ns.take i) m with
    | some j=>rfl
    | none=>simp[S]
 ·rintro σ G ⟨r,kvs,s,v,o,L,e,rfl⟩;rw[On,OK]at e;exact kq d G r c.nw ⟨kvs,o,e⟩
structure nN (t:Adr) (H:Hp) (a dx pp pl d0 d1 l0 l1:Addr) (ns ms:List Int):Prop where
 o:H a=some (.ins t.bt dx [("places",.ref pp),("lists",.ref pl)])
 p:H pp=some (.lst [.ref d0,.ref d1])
 l:H pl=some (.lst [.ref l0,.ref l1])
 d0:gJ H d0 ns
 d1:gJ H d1 ms
 l0:H l0=some (.lst (ns.map V.int))
 l1:H l1=some (.lst (ms.map V.int))
def gJ.mono{H H':Hp}{d:Addr}{ns:List Int}(h:gJ H d ns)(s:af H H'):gJ H' d ns:=by
 obtain⟨c,a,b⟩:=h;exact⟨c,s _ _ a,b⟩
def nN.mono{H H':Hp}{a dx pp pl d0 d1 l0 l1:Addr}{ns ms:List Int}(h:nN t H a dx pp pl d0 d1 l0 l1 ns ms)(s:af H H'):nN t H' a dx pp pl d0 d1 l0 l1 ns ms :=
 ⟨s _ _ h.o,s _ _ h.p,s _ _ h.l,h.d0.mono s,h.d1.mono s,s _ _ h.l0,s _ _ h.l1⟩
def CS(t:Adr):Sp:=λvs H Q _=>∃(a dx pp pl d0 d1 l0 l1:Addr) (ns ms:List Int) (g:Int),vs=[.ref a,.int g]/\bB g/\nN t H a dx pp pl d0 d1 l0 l1 ns ms/\∀p H',af H H'->H p=none->H' p=some (.lst ((bI (ar g ms ns) (ar g ns ms) g).map V.int))->Q (.ref p) H'
def zB (T:Txt K mg t):fi P w K mg base t.bt "row_beyond" 1 t.wm t.t5 ["self", "page"] (CS t):=by
 refine⟨T.cv,T.GY,T.MZ,T.NH.okQ qZ (λvs H Q E h=>by obtain⟨a,dx,pp,pl,d0,d1,l0,l1,ns,ms,g,rfl,_⟩:=h;rfl) λ_ _ _ _ H vs Q E N h=>?_⟩;obtain⟨a,dx,pp,pl,d0,d1,l0,l1,ns,ms,g,rfl,n,b,k⟩:=h;have R:=N.units;refine⟨_,(ao (bz PassesOwn.never rfl (jd (K:=K) rfl rfl T.n_enumerate (ab (aA (Og K) (cW (K:=K) rfl (aa 0)) (bG hZ aq (aa 1)) (λ_ _=>rfl)) ag)) (cN (K:=K) rfl rfl (bp (aG (i:=2) qZ.nd rfl (.inl rfl)) (bp (aG (i:=3) qZ.nd rfl (.inl rfl)) cM))) (ak (be (aT (J5 R) (aa 3) (aA (Og K) (cW (K:=K) rfl (aa 0)) (aa 1) (λ_ _=>rfl)) (by with_unfolding_all rfl)) (ak (aE (bh (ab (aA (Og K) (xY (v:=.ref t.nA) rfl T.Ax rfl) (bG hZ aq (aa 1)) (λ_ _=>rfl)) (ab (aa 2) ag))))) bi)))
  (ak (aE (bh ag)))),?_⟩
 have G:H (ar (1-g) l0 l1)=some (.lst ((ar g ms ns).map V.int)):=by
  rcases n with rfl|rfl
  ·exact b.l1
  ·exact b.l0
 have L:gJ H (ar g d0 d1) (ar g ns ms):=by
  rcases n with rfl|rfl
  ·exact b.d0
  ·exact b.d1
 obtain⟨u,s,D⟩:=L;have sh:bZ (([254,255]:List Int).map V.int) (1-g)=some (.int (254+(1-g))):=by
  rcases n with rfl|rfl<;>rfl
 generalize hO:ar g ms ns=O at *;generalize hP:ar g ns ms=P' at *;refine⟨a,_,dx,_,_,Z,b.o,T.cv,T.lJ,Z,?_⟩;refine⟨_,.ref (ar (1-g) l0 l1),.inl (.of b.l),by rw[gF n.flip];exact congrArg some (fZ V.ref _ _ _),?_⟩;refine⟨ar (1-g) l0 l1,_,rfl,.of G,lY (K:=K) (a:=ar (1-g) l0 l1) (xs:=O.map V.int) (λi σ H'=>af H H'/\(∀j,j<i->fb O P' j=false)/\∃C B,σ=[some (.ref a),some (.int g),C,B]) ⟨af.refl _,(λj h=>Sd h (by omega)),_,_,rfl⟩ (λi σ H' _ z=>z.1.seq (.of G)) ?_ ?_⟩
 ·rintro i x p σ S H3 hx ⟨r,m,C,B,rfl⟩ F;obtain⟨q,I,rfl⟩:=iC hx;have Y:=(Ou.mp I).1;refine⟨p,_,Z,F.tup,Z,_,_,Z,_,_,Z,Z,?_⟩;have f:=r.trans F.sm;refine⟨a,_,dx,_,_,Z,f _ _ b.o,T.cv,T.rN,Z,?_⟩;refine⟨_,.ref (ar g d0 d1),.inl (.of (f _ _ b.p)),by rw[gF n];exact congrArg some (fZ V.ref _ _ _),?_⟩;refine⟨ar g d0 d1,_,Z,cw.k (k:=.inl q) (f _ _ s),?_⟩;have eq:(aR u (.inl q)).isSome=decide (q∈P'):=by
   rw[D];cases e:cZ P' q with
   | none=>have:=lT.mp e;simp[this]
   | some j =>
    have:q∈P':=Decidable.byContradiction λz=>by rw[lT.mpr z]at e;cases e
    simp[this]
  have J:fb O P' i = !decide (q∈P'):=by
   unfold fb;rw[Qo,I];rfl
  refine aH (λy=>?_) (λy=>?_)
  ·have y:(!(aR u (.inl q)).isSome)=true:=y;rw[eq,<- J]at y;refine⟨_,.int (254+(1-g)),.inr (T.x9 _),sh,?_⟩;refine⟨sz Z,λU M d=>?_⟩;refine k _ _ (f.trans d.sm) (f.free d.nw) ?_;have e:bI O P' g=[254+(1-g),(i:Int)]:=by
    unfold bI di;rw[zr m y Y]
   rw[e];exact d.at_
  ·have y:¬(!(aR u (.inl q)).isSome)=true:=y;rw[eq,<- J]at y;refine⟨f,λj W=>?_,_,_,Z⟩;by_cases c:j<i
   ·exact m j c
   ·obtain rfl:j=i:=by omega
    simpa using y
 ·rintro σ S ⟨r,m,C,B,rfl⟩;rw[On]at m;refine⟨sz Z,λU M d=>k _ _ (r.trans d.sm) (r.free d.nw) ?_⟩;have e:bI O P' g=[]:=by
   unfold bI di;rw[KL m]
   rfl
  rw[e];exact d.at_
def Kp.seq{a f:Addr}{H H':Hp}{xs:List V}(k:Kp a H H')(n:f≠a)(h:aJ K H f xs):aJ K H' f xs:=by
 rcases h with h|h
 ·rcases h with h|⟨o,h⟩
  ·exact .inl (.inl (k _ _ n h))
  ·exact .inl (.inr ⟨o,k _ _ n h⟩)
 ·exact .inr h
def xt(K:PySem.W.Frag)(t:Adr):Sp:=λvs H Q _=>∃(a dx f g:Addr) (ns ms:List Int),vs=[.ref a,.ref f,.ref g]/\H a=some (.ins t.bt dx [])/\aJ K H f (ns.map V.int)/\aJ K H g (ms.map V.int)/\mm ns/\mm ms/\f≠a/\g≠a /\
 ∀fp H',Kp a H H'->Tg t H' a fp ns ms->(∀c∈[fp.pp,fp.pl,fp.ps,fp.d0,fp.d1,fp.l0,fp.l1,fp.s0,fp.s1],c≠a/\H c=none)->Q .non H'
def Gz (T:Txt K mg t):bD P w K mg base bQ 5 t.qu t.pH ["self", "first", "second"] (xt K t):=by
 refine T.NJ.okQ DJ (λvs H Q E h=>by obtain⟨a,dx,f,g,ns,ms,rfl,_⟩:=h;rfl) λ_ _ _ _ H vs Q E hr h=>?_;obtain⟨a,dx,f,g,ns,ms,rfl,ha,hf,hg,S,U,nf,ng,kq⟩:=h;have hu:=hr.units;refine⟨_,(ao (li (K:=K) Z (aa 0) (bh (ab (bb (zw T) hr (ab (aa 1) (ab aq ag))) (ab (bb (zw T) hr (ab (aa 2) (ab aq ag))) ag))))
  (ao (li (K:=K) rfl (aa 0) (bh (ab (cO (Oh K) T.n_list O8 (ab (aa 1) ag)) (ab (cO (Oh K) T.n_list O8 (ab (aa 2) ag)) ag))))
  (ak (li (K:=K) rfl (aa 0) (bh (ab (lj (zB T) hr (aa 0) (ab aq ag)) (ab (lj (zB T) hr (aa 0) (ab aq ag)) ag))))))),?_⟩
 refine⟨f,ns,0,Z,hf,S,λd0 H1 s1 V ai=>?_⟩;refine⟨g,ms,1,Z,s1.seq hg,U,λd1 H2 s2 a1 al=>?_⟩;refine⟨sz Z,λpp H3 N=>?_⟩;have s3:=s1.trans (s2.trans N.sm);refine⟨a,_,dx,_,rfl,s3 _ _ ha,T.cv,T.rN,OH Nat.zero_lt_one (by decide),?_⟩;obtain⟨W,e4⟩:∃W,W=upd H3 a (HO.ins t.bt dx (cz "places" (.ref pp) [])):=⟨_,rfl⟩;have a4:W a=some (.ins t.bt dx [("places",.ref pp)]):=by rw[e4,aP];rfl
 have k4:Kp a H3 W:=by rw[e4];exact Kp.upd
 rw[<- e4];clear e4;have b:Kp a H W:=(Kp.of s3).trans k4;refine⟨_,.inl (b.seq nf hf),λl0 H5 j=>?_⟩;refine⟨_,.inl ((b.trans (Kp.of j.sm)).seq ng hg),λl1 H6 F=>?_⟩;refine⟨sz Z,λpl H7 O=>?_⟩;have a3:=j.sm.trans (F.sm.trans O.sm);refine⟨a,_,dx,_,rfl,a3 _ _ a4,T.cv,T.lJ,OH (Pb 1) (by decide),?_⟩;obtain⟨s,e8⟩:∃s,s=upd H7 a (HO.ins t.bt dx (cz "lists" (.ref pl) [("places",.ref pp)])):=⟨_,rfl⟩;have z:s a=some (.ins t.bt dx [("places",.ref pp),("lists",.ref pl)]):=by rw[e8,aP];rfl
 have k8:Kp a H7 s:=by rw[e8];exact Kp.upd
 rw[<- e8];clear e8;have I:d0≠a:=(aO ha V).symm;have L:d1≠a:=(aO (s1 _ _ ha) a1).symm;have G:pp≠a:=(aO (s2 _ _ (s1 _ _ ha)) N.nw).symm;have m:l0≠a:=(aO a4 j.nw).symm;have r:l1≠a:=(aO (j.sm _ _ a4) F.nw).symm;have o:pl≠a:=(aO (F.sm _ _ (j.sm _ _ a4)) O.nw).symm;have q:Kp a H3 s:=k4.trans ((Kp.of a3).trans k8);have i:Kp a H s:=(Kp.of s3).trans q;obtain⟨an,q0,e0⟩:=ai;obtain⟨ar,q1,e1⟩:=al;have d:nN t s a dx pp pl d0 d1 l0 l1 ns ms:=⟨z,q _ _ G N.at_,k8 _ _ o O.at_,⟨an,q _ _ I (N.sm _ _ (s2 _ _ q0)),e0⟩,⟨ar,q _ _ L (N.sm _ _ q1),e1⟩,k8 _ _ m (O.sm _ _ (F.sm _ _ j.at_)),k8 _ _ r (O.sm _ _ F.at_)⟩;refine⟨a,dx,_,Z,z,Z,?_⟩;refine⟨a,dx,pp,pl,d0,d1,l0,l1,ns,ms,0,Z,.inl Z,d,λz0 H9 D Y ae=>?_⟩;refine⟨a,dx,_,Z,D _ _ z,Z,?_⟩;refine⟨a,dx,pp,pl,d0,d1,l0,l1,ns,ms,1,Z,.inr Z,d.mono D,λz1 HA sA a2 ap=>?_⟩;refine⟨sz Z,λps HB gB=>?_⟩;have C:=D.trans (sA.trans gB.sm);refine⟨a,_,dx,_,rfl,C _ _ z,T.cv,T.lI,OH (Pb 2) (by decide),?_⟩;obtain⟨M,eC⟩:∃M,M=upd HB a (HO.ins t.bt dx (cz "shifted" (.ref ps) [("places",.ref pp),("lists",.ref pl)])):=⟨_,rfl⟩;have aC:M a=some (.ins t.bt dx [("places",.ref pp),("lists",.ref pl),("shifted",.ref ps)]):=by rw[eC,aP];rfl
 have kC:Kp a HB M:=by rw[eC];exact Kp.upd
 rw[<- eC];clear eC;have J:z0≠a:=(aO z Y).symm;have B:z1≠a:=(aO (D _ _ z) a2).symm;have v:ps≠a:=(aO (sA _ _ (D _ _ z)) gB.nw).symm;have af:Kp a s M:=(Kp.of C).trans kC;have hB:=d.mono C;have R:∀ {c:Addr} {H':Hp},Kp a H H'->c≠a->H' c=none->H c=none:=λ{c H'} k n e=>by
  cases h:H c with
  | none=>rfl
  | some u=>rw[k c u n h]at e;cases e
 refine kq ⟨dx,pp,pl,ps,d0,d1,l0,l1,z0,z1⟩ M (i.trans af) ⟨aC,kC _ _ G hB.p,kC _ _ o hB.l,kC _ _ v gB.at_,?_,?_,kC _ _ m hB.l0,kC _ _ r hB.l1,kC _ _ J (gB.sm _ _ (sA _ _ ae)),kC _ _ B (gB.sm _ _ ap),S,U⟩ ?_
 ·obtain⟨kv,x,y⟩:=hB.d0;exact⟨kv,kC _ _ I x,y⟩
 ·obtain⟨kv,x,y⟩:=hB.d1;exact⟨kv,kC _ _ L x,y⟩
 ·intro c hc;simp only [OT,List.not_mem_nil,or_false]at hc;rcases hc with rfl|rfl|rfl|rfl|rfl|rfl|rfl|rfl|rfl
  ·exact⟨G,s1.free (s2.free N.nw)⟩
  ·exact⟨o,R (b.trans (Kp.of (j.sm.trans F.sm))) o O.nw⟩
  ·exact⟨v,R (i.trans (Kp.of (D.trans sA))) v gB.nw⟩
  ·exact⟨I,V⟩
  ·exact⟨L,s1.free a1⟩
  ·exact⟨m,R b m j.nw⟩
  ·exact⟨r,R (b.trans (Kp.of j.sm)) r F.nw⟩
  ·exact⟨J,R i J Y⟩
  ·exact⟨B,R (i.trans (Kp.of D)) B a2⟩
def Iv (T:Txt K mg t):wB P w K mg base "ShiftTongue" t.bt 5 t.qu t.pH ["self", "first", "second"] [] (xt K t):=⟨T.JH,T.G4,⟨[],T.M3,.nil⟩,Gz T⟩
def AA(O P:List Int)(g:Int):bI O P g=[]\/∃b:Nat,(di O P).head? = some b/\bI O P g=[254+(1-g),(b:Int)]:=by
 unfold bI;cases e:(di O P).head? with
 | none=>exact .inl rfl
 | some b=>exact .inr ⟨b,rfl,rfl⟩
def Az(O P:List Int)(g:Int):bI O P g=[] ↔ di O P=[]:=by
 unfold bI;cases e:di O P with
 | nil=>simp
 | cons b r=>simp
def Gf:Option Int->V
 | some n=>.int n
 | none=>.non
def M6{L:List Int}{b n:Int}(a:0<=b)(h:L[b.toNat]? = some n):bZ (L.map V.int) b=some (.int n):=by
 obtain⟨k,rfl⟩:∃k:Nat,b=(k:Int):=⟨b.toNat,by omega⟩;exact aY (by rw[Ov];simp at h;rw[h];rfl)
def CI(t:Adr):Sp:=λvs H Q _=>∃(a:Addr) (f:Fp) (ns ms:List Int) (b g:Int),vs=[.ref a,.int b,.int g]/\bB g/\Tg t H a f ns ms/\0<=b/\Q (Gf (ar g ns ms)[b.toNat]?) H
def zA (T:Txt K mg t):fi P w K mg base t.bt "sign_of" 1 t.wj t.t4 ["self", "byte", "page"] (CI t):=by
 refine⟨T.cv,T.GX,T.MY,T.NG.okQ DH (λvs H Q E h=>by obtain⟨a,f,ns,ms,b,g,rfl,_⟩:=h;rfl) λ_ _ _ _ H vs Q E m h=>?_⟩;obtain⟨a,f,ns,ms,b,g,rfl,two,c,j,k⟩:=h;refine⟨_,(ak (aE (ix (aT pz (aa 1) (bq (Of K) T.n_len OM (ab (aA (Og K) (cW (K:=K) Z (aa 0)) (aa 2) (λ_ _=>rfl)) ag)) (aV _)) (aA (Og K) (aA (Og K) (cW (K:=K) Z (aa 0)) (aa 2) (λ_ _=>rfl)) (aa 1) (λ_ _=>rfl)) bL))),?_⟩;have i:bZ [V.ref f.l0,V.ref f.l1] g=some (.ref (ar g f.l0 f.l1)):=by rw[gF two];exact congrArg some (fZ V.ref _ _ _)
 have e:=c.ll two;refine⟨a,_,f.dx,_,_,Z,c.o,T.cv,T.lJ,Z,?_⟩;refine⟨_,_,.inl (.of c.l),i,?_⟩;refine⟨_,.inl (.of e),?_⟩;refine aH (λz=>?_) (λz=>?_)
 ·have z:b<(((ar g ns ms).map V.int).length:Int):=Se z;rw[On]at z;refine⟨a,_,f.dx,_,_,Z,c.o,T.cv,T.lJ,Z,?_⟩;refine⟨_,_,.inl (.of c.l),i,?_⟩;obtain⟨n,d⟩:∃n,(ar g ns ms)[b.toNat]? = some n:=⟨_,OF (by omega)⟩;rw[d]at k;exact⟨_,.int n,.inl (.of e),M6 j d,k⟩
 ·have z:¬b<(((ar g ns ms).map V.int).length:Int):=λy=>z (Sf y);rw[On]at z;rw[PV (by omega)]at k;exact k
def ba(one a:List Int):Bool:=decide (a.take one.length=one)
def Da(K:PySem.W.Frag):Sp:=λvs H Q _=>∃(a b:Addr) (x y:List Int),vs=[.ref a,.ref b]/\aJ K H a (x.map V.int)/\aJ K H b (y.map V.int)/\∀H',af H H'->Q (.bl (ba x y)) H'
def eI(ns:List Int)(k:Nat):ce (ns.map V.int) none (some (k:Int))=(ns.take k).map V.int:=by rw[gE,Ao]
def sr (T:Txt K mg t):bo P w K mg base "begins" 1 t.vW t.tS ["one", "other"] (Da K):=by
 refine⟨T.Kq,T.Bx.kp,T.MJ,T.Bx.okQ DA (λvs H Q E h=>by obtain⟨a,b,x,y,rfl,_⟩:=h;rfl) λ_ _ _ _ H vs Q E i h=>?_⟩;obtain⟨a,b,x,y,rfl,d,g,k⟩:=h;have e:=i.units;refine⟨_,(ak (aE (gX (cK (K:=K) Z e) (cb (Oi K) (aa 1) cL (bN (bq (Of K) T.n_len OM (ab (aa 0) ag)))) (aa 0) (aV _)))),?_⟩;refine⟨_,.inl d,_,Z,_,g,λj f c=>?_⟩;rw[On,eI]at c;exact ma c.lst (c.sm.seq d) (k f c.sm)
structure jI (H:Hp) (p:Addr) (s:Int) (r:List Int):Prop where
 h:∃q,H p=some (.tup [.int s,.ref q])/\H q=some (.lst (r.map V.int))
 l:1<=r.length/\r.length<=6
def jI.mono{H H':Hp}{p:Addr}{s:Int}{r:List Int}(h:jI H p s r)(k:af H H'):jI H' p s r:=by
 obtain⟨⟨q,a,b⟩,l⟩:=h
 exact⟨⟨q,k _ _ a,k _ _ b⟩,l⟩
def d5(e f:Int × List Int):Bool:=decide (e.1=f.1) || ba e.2 f.2 || ba f.2 e.2
def C7:Sp:=λvs H Q _=>∃(a b:Addr) (e f:Int × List Int),vs=[.ref a,.ref b]/\jI H a e.1 e.2/\jI H b f.1 f.2/\∀H',af H H'->Q (.bl (d5 e f)) H'
def Jb (T:Txt K mg t):bo P w K mg base "collide" 2 t.vU t.tQ ["one", "other"] C7:=by
 refine⟨T.Km,T.Bv.kp,T.MH,T.Bv.okQ Dz (λvs H Q E h=>by obtain⟨a,b,x,y,rfl,_⟩:=h;rfl) λ_ _ _ _ H vs Q E m h=>?_⟩;obtain⟨a,b,⟨s1,d⟩,⟨g,c⟩,rfl,⟨⟨o,i,e⟩,_⟩,⟨⟨n,l,f⟩,_⟩,k⟩:=h;dsimp only at i e l f;have q:=m.units;refine⟨_,(ak (aE (oF (gX (cK (K:=K) Z q) (aA (Og K) (aa 0) aq (λ_ _=>rfl)) (aA (Og K) (aa 1) aq (λ_ _=>rfl)) (aV _)) (oF (bb (sr T) m (ab (aA (Og K) (aa 0) aq (λ_ _=>rfl)) (ab (aA (Og K) (aa 1) aq (λ_ _=>rfl)) ag))) (gW (bb (sr T) m (ab (aA (Og K) (aa 1) aq (λ_ _=>rfl)) (ab (aA (Og K) (aa 0) aq (λ_ _=>rfl)) ag)))))))),?_⟩;refine⟨_,_,.inr (.of i),aY (j:=0) Z,?_⟩;refine⟨_,_,.inr (.of l),aY (j:=0) Z,?_⟩;refine aH (λz=>?_) (λz=>?_)
 ·refine cc (k H (af.refl _)) ?_;have z:decide (s1=g)=true:=z;show (decide (s1=g) || ba d c || ba c d)=true;rw[z];rfl
 have z:¬decide (s1=g)=true:=z;refine⟨_,_,.inr (.of i),aY (j:=1) Z,?_⟩;refine⟨_,_,.inr (.of l),aY (j:=1) Z,?_⟩;refine⟨o,n,d,c,Z,.of e,.of f,λr k1=>?_⟩;refine aH (λy=>?_) (λy=>?_)
 ·refine cc (k r k1) ?_;have y:ba d c=true:=y;show (decide (s1=g) || ba d c || ba c d)=true;rw[y];simp
 have y:¬ba d c=true:=y;refine⟨_,_,.inr (.of (k1 _ _ l)),aY (j:=1) Z,?_⟩;refine⟨_,_,.inr (.of (k1 _ _ i)),aY (j:=1) Z,?_⟩;refine⟨n,o,c,d,Z,.of (k1 _ _ f),.of (k1 _ _ e),λp k2=>?_⟩;refine cc (k p (k1.trans k2)) ?_;show (decide (s1=g) || ba d c || ba c d)=ba c d;simp at z y;simp[z,y]
structure Es (es:List (Int × List Int)):Prop where
 sg:∀e∈es,Sg e.1/\1<=e.2.length/\e.2.length<=6/\∀b∈e.2,0<=b/\b<=255
 pw:es.Pairwise λe f=>d5 e f=false
 l:es.length<=64
def Lz(e f:Int × List Int):d5 e f=d5 f e:=by
 unfold d5;rw[show decide (e.1=f.1)=decide (f.1=e.1) by simp[eq_comm],Bool.or_assoc,Bool.or_assoc,Bool.or_comm (ba e.2 f.2)]
def Es.two{es:List (Int × List Int)}(h:Es es){e f:Int × List Int}(d:e∈es)(g:f∈es):e=f\/d5 e f=false:=by
 obtain⟨i,a,rfl⟩:=Qp.mp d;obtain⟨j,b,rfl⟩:=Qp.mp g;rcases Rg i j with c|c|c
 ·exact .inr (PL.mp h.pw i j a b c)
 ·subst c;exact .inl Z
 ·rw[Lz];exact .inr (PL.mp h.pw j i b a c)
def wD(H:Hp)(ps:List Addr)(es:List (Int × List Int)):Prop:=aN (λa e=>jI H a e.1 e.2) ps es
def CA(K:PySem.W.Frag):Sp:=λvs H Q _=>∃(q:Addr) (r:List Int),vs=[.ref q]/\H q=some (.lst (r.map V.int))/\(∀b∈r,0<=b/\b<=255)/\r.length<=1000/\∀H',af H H'->Q (.bl true) H'
def IV (T:Txt K mg t):bo P w K mg base "is_row" 3 t.vM t.tJ ["thing"] (CA K):=by
 refine⟨T.Ke,T.Bo.kp,T.MA,T.Bo.okQ Du (λvs H Q E h=>by obtain⟨q,r,rfl,_⟩:=h;rfl) λ_ _ _ _ H vs Q E f h=>?_⟩;obtain⟨q,r,rfl,a,e,j,k⟩:=h;refine⟨_,(ak (aE (gZ (bq (mf (K:=K) rfl) T.n_isinstance Qc (ab (aa 0) (ab (lD rfl T.n_list O8) ag))) (gW (bq (qh (K:=K) rfl rfl) T.n_all QH (ab (fA rfl (cq.of (fns:=(aj i8).names) (N:=["thing"]) (Nc:=["each"]) (nv:=1) (caps:=[]) rfl rfl (by decide +kernel)) (cV (K:=K) rfl (aa 0)) (λ_ _ _ _=>(aG (i:=0) (show List.Nodup (["each"]:List Str) by decide +kernel) rfl (Or.inl rfl) (Or.inr rfl))) (λ_ _ _ _=>fu) (λ_ _ _ _=>(bb (IZ T) f (ab (aa 0) ag)))) ag)))))),?_⟩;refine⟨_,_,.lst a,by with_unfolding_all rfl,?_⟩;refine lS ?_;refine⟨q,rfl,⟨_,.of a⟩,pX ((r.map λ_=>true).map V.bl) (by simp) (.of a) (cy (by rw[On];omega)) (λi x y g N hx hy m hN=>?_) λl d c=>?_⟩
 ·obtain⟨o,b,rfl⟩:=iC hx;rw[Ov,Ov,b]at hy;cases hy;have:=e o (OA b);exact⟨_,rfl,.int _,cc (hN _ (af.refl _)) (by simp[cT];omega)⟩
 refine⟨_,c.lst,?_⟩;exact cc (k d c.sm) (by simp)
def C5(K:PySem.W.Frag):Sp:=λvs H Q _=>∃(p:Addr) (e:Int × List Int),vs=[.ref p]/\jI H p e.1 e.2/\Sg e.1/\(∀b∈e.2,0<=b/\b<=255)/\∀H',af H H'->Q (.bl true) H'
def IY (T:Txt K mg t):bo P w K mg base "is_entry" 4 t.vP t.tM ["thing"] (C5 K):=by
 refine⟨T.Kh,T.Br.kp,T.MD,T.Br.okQ Dx (λvs H Q E h=>by obtain⟨p,e,rfl,_⟩:=h;rfl) λ_ _ _ _ H vs Q E c h=>?_⟩;obtain⟨p,⟨sg,r⟩,rfl,⟨⟨q,a,b⟩,l1,i⟩,d,f,k⟩:=h;dsimp only at a b l1 i d f;have g:=c.units;refine⟨_,(ao (be (dQ (mK (fz (fL (bq (mf (K:=K) Z) T.n_isinstance Qc (ab (aa 0) (ab (lD Z T.n_tuple Pu) ag))))) (mJ (aT (jn (K:=K) Z g) (bq (Of K) T.n_len OM (ab (aa 0) ag)) aq (aV _))))) (ak (aE jf)) bi)
  (ak (aE (gZ (bb (zx T) c (ab (aA (Og K) (aa 0) aq (λ_ _=>rfl)) ag)) (gZ (bb (IV T) c (ab (aA (Og K) (aa 0) aq (λ_ _=>rfl)) ag)) (gW (mN fB fB aq (bq (Of K) T.n_len OM (ab (aA (Og K) (aa 0) aq (λ_ _=>rfl)) ag)) (fM T.LU)))))))),?_⟩
 refine⟨_,_,.tup a,by with_unfolding_all rfl,?_⟩;refine aH (λz=>Sd z (by decide)) (λ_=>?_);refine⟨_,.inr (.of a),?_⟩;refine⟨_,_,.inr (.of a),aY (j:=0) Z,?_⟩;refine⟨_,Z,.int _,?_⟩;refine aH (λ_=>?_) (λz=>Sd ((xz sg).mpr d) z);refine⟨_,_,.inr (.of a),aY (j:=1) Z,?_⟩;refine⟨q,r,rfl,b,f,by omega,λl s1=>?_⟩;refine lS ?_;refine⟨_,_,.inr (.of (s1 _ _ a)),aY (j:=1) Z,?_⟩;refine⟨_,.inl (.of (s1 _ _ b)),?_⟩;refine aH (λz=>?_) (λz=>?_)
 ·exact cc (k l s1) (by rw[On];simp;omega)
 ·exact Sd (show decide ((1:Int)<=((r.map V.int).length:Int))=true by rw[On];simp;omega) z
def C8:Sp:=λvs H Q _=>∃(a:Addr) (ps:List Addr) (es:List (Int × List Int)),vs=[.ref a]/\H a=some (.lst (ps.map V.ref))/\wD H ps es/\Es es/\∀H',af H H'->Q .non H'
def Lk(xs:List V)(k:Nat):ce xs none (some (k:Int))=xs.take k:=Ao xs k
def ox{a:List Addr}{i:Nat}{x:V}(h:(a.map V.ref)[i]? = some x):∃q,a[i]? = some q/\x=.ref q:=by
 rw[Ov]at h;obtain⟨q,b,rfl⟩:=OS.mp h;exact⟨q,b,Z⟩
def Jc (T:Txt K mg t):bo P w K mg base "check_table" 5 t.vV t.tR ["rows"] C8:=by
 refine⟨T.Kn,T.Bw.kp,T.MI,T.Bw.okQ mI (λvs H Q E h=>by obtain⟨a,ps,es,rfl,_⟩:=h;rfl) λ_ _ _ _ H vs Q E C h=>?_⟩;obtain⟨a,ps,es,rfl,r,F,ok,k⟩:=h;have hu:=C.units;refine⟨_,(ao (be (aT sx (bq (Of K) T.n_len OM (ab (aa 0) ag)) (fM T.LS) (aV _)) (ak mL) bi)
  (ak (bz PassesOwn.never rfl (jd (K:=K) rfl rfl T.n_enumerate (ab (aa 0) ag)) (cN (K:=K) rfl rfl (bp (aG (i:=1) mI.nd rfl (.inl rfl)) (bp (aG (i:=2) mI.nd rfl (.inl rfl)) cM))) (ao (be (fz (fL (bb (IY T) C (ab (aa 2) ag)))) (ak mL) bi)
  (ak (bz PassesOwn.never rfl (jd (K:=K) rfl rfl T.n_enumerate (ab (cb (Oi K) (aa 0) cL (bN (aa 1))) ag)) (cN (K:=K) rfl rfl (bp (aG (i:=3) mI.nd rfl (.inl rfl)) (bp (aG (i:=4) mI.nd rfl (.inl rfl)) cM))) (ak (be (fL (bb (Jb T) C (ab (aa 4) (ab (aa 2) ag)))) (ak mL) bi)))))))),?_⟩
 have lp:ps.length=es.length:=F.1;have a7:=ok.l;refine⟨_,.inl (.of r),?_⟩;refine aH (λz=>?_) (λ_=>?_)
 ·have z:((ps.map V.ref).length:Int) > 64:=Se z;rw[On]at z;omega
 refine⟨a,_,Z,.of r,lY (K:=K) (a:=a) (xs:=ps.map V.ref) (λi σ H'=>af H H'/\∃S J c d,σ=[some (.ref a),S,J,c,d]) ⟨af.refl _,_,_,_,_,Z⟩ (λi σ H' _ z=>z.1.seq (.of r)) ?_ ?_⟩
 ·rintro i x p σ N H3 hx ⟨B,S,J,c,d,rfl⟩ L;obtain⟨y,G,rfl⟩:=ox hx;obtain⟨e,O,R⟩:=F.right G;refine⟨p,_,Z,L.tup,Z,_,_,Z,_,_,Z,Z,?_⟩;have I:=B.trans L.sm;obtain⟨k1,k2,k3,k4⟩:=ok.sg e (OA O);refine⟨y,e,Z,R.mono I,k1,k4,λH4 Y=>?_⟩;refine aH (λz=>Sd (show (!true)=true from z) (by decide)) (λ_=>?_);have m:=I.trans Y;refine⟨_,Z,_,m.seq (.of r),λM H5 s=>?_⟩;rw[Lk]at s;have g:=m.trans s.sm;refine⟨M,_,Z,s.lst,lY (K:=K) (a:=M) (xs:=(ps.map V.ref).take i) (λj σ H'=>af H5 H'/\∃c d,σ=[some (.ref a),some (.int (i:Int)),some (.ref y),c,d]) ⟨af.refl _,_,_,Z⟩ (λi σ H' _ z=>z.1.seq s.lst) ?_ ?_⟩
  ·rintro j u pj σ H6 H7 b ⟨q,c,d,rfl⟩ D;have o:j<i:=by have:=(Ou.mp b).1;rw[OG]at this;omega
   rw[P3 o]at b;obtain⟨U,v,rfl⟩:=ox b;obtain⟨f,hf,ef⟩:=F.right v;refine⟨pj,_,Z,D.tup,Z,_,_,Z,_,_,Z,Z,?_⟩;have n:=g.trans (q.trans D.sm);refine⟨U,y,f,e,Z,ef.mono n,R.mono n,λH8 s8=>?_⟩;have nc:d5 f e=false:=by
    obtain⟨a1,W⟩:=Ou.mp hf;obtain⟨a2,e2⟩:=Ou.mp O;rw[<- W,<- e2];exact PL.mp ok.pw j i a1 a2 o
   refine aH (λz=>Sd (show d5 f e=true from z) (by rw[nc];decide)) (λ_=>?_);exact⟨q.trans (D.sm.trans s8),_,_,Z⟩
  ·rintro σ H6 ⟨q,c,d,rfl⟩;exact⟨g.trans q,_,_,_,_,Z⟩
 ·rintro σ N ⟨B,_⟩;exact k N B
structure Ft where
 dx:Addr
 d1:Addr
 d2:Addr
 d3:Addr
def bM(r:List Int):List aw:=r.map Sum.inl
def mX(r:List Int):r.map V.int=(bM r).map kV:=by
 unfold bM;rw[Pw];rfl
def lQ{r s:List Int}(h:bM r=bM s):r=s:=by
 unfold bM at h
 induction r generalizing s with
 | nil=>cases s with
  | nil=>rfl
  | cons _ _=>cases h
 | cons x r ih=>cases s with
  | nil=>cases h
  | cons y s=>simp at h;rw[h.1,ih (by simpa using h.2)]
def iL(H:Hp)(k3:List (List aw × V))(es:List (Int × List Int))(a:List Int):Prop:=∃(q:Addr) (b:List Int),aR k3 (bM a)=some (.ref q)/\H q=some (.tup (b.map V.int))/\∃e'∈es,e'.2=a++b
structure Kv (H:Hp) (k1:List (aw × V)) (k2 k3:List (List aw × V)) (es:List (Int × List Int)):Prop where
 a:∀e∈es,∃q,aR k1 (.inl e.1)=some (.ref q)/\H q=some (.tup (e.2.map V.int))
 b:∀e∈es,aR k2 (bM e.2)=some (.int e.1)
 b':∀r:List Int,(∀e∈es,e.2≠r)->aR k2 (bM r)=none
 c:∀e∈es,∀m,m<=e.2.length->iL H k3 es (e.2.take m)
 e:∀x∈k3.map (λx=>x.1),∃rr,x=bM rr/\iL H k3 es rr
 nd:(k3.map λx=>x.1).Nodup
 d:k1.map (λx=>x.1)=es.map λe=>Sum.inl e.1
def qI{kvs:List (aw × V)}{k:aw}(h:k∉kvs.map λx=>x.1):aR kvs k=none:=by
 unfold aR;rw[Qe,Pf];intro x hx z;exact h (Oq.mpr ⟨x,hx,Se z⟩)
def qH{kvs:List (List aw × V)}{k:List aw}(h:k∉kvs.map λx=>x.1):aR kvs k=none:=by
 unfold aR;rw[Qe,Pf];intro x hx z;exact h (Oq.mpr ⟨x,hx,Se z⟩)
open Classical in
def y7(kvs:List (List aw × V))(k:List aw)(v:V):((bu kvs k v).map λx=>x.1)=if k∈(kvs.map λx=>x.1) then kvs.map λx=>x.1 else (kvs.map λx=>x.1)++[k]:=by
 by_cases h:k∈(kvs.map λx=>x.1)
 ·rw[Sc h];unfold bu;obtain⟨y,hy,a⟩:=Oq.mp h;rw[Sc (List.any_eq_true.mpr ⟨y,hy,Sf a⟩),Pw];refine Rh λy hy=>?_;show (if y.1=k then (y.1,v) else y).1=y.1
  split<;>rfl
 ·rw[Sb h,oJ v (qH h),Ot]
  rfl
def HP{kvs:List (List aw × V)}{k x:List aw}{v:V}(h:x∈(bu kvs k v).map λx=>x.1):x=k\/x∈kvs.map λx=>x.1:=by
 rw[y7]at h
 split at h
 ·exact .inr h
 ·rcases Os.mp h with h|h
  ·exact .inr h
  ·exact .inl (Op.mp h)
def HN{kvs:List (List aw × V)}{k:List aw}{v:V}(h:(kvs.map λx=>x.1).Nodup):((bu kvs k v).map λx=>x.1).Nodup:=by
 rw[y7]
 split
 ·exact h
 ·rename_i c;exact Pd.mpr ⟨h,Ri ..,λa b y hy z=>by rw[Op.mp hy]at z;exact c (z ▸ b)⟩
structure Tt (t:Adr) (H:Hp) (a:Addr) (f:Ft) (es:List (Int × List Int)) (n:Nat):Prop where
 o:H a=some (.ins t.bA f.dx [("row_by_sign",.ref f.d1),("sign_by_row",.ref f.d2),("rest_by_row",.ref f.d3)])
 k:∃k1 k2 k3,H f.d1=some (.dK k1)/\H f.d2=some (.dT k2)/\H f.d3=some (.dT k3)/\k1.length<=n/\k2.length<=n/\k3.length<=n/\Kv H k1 k2 k3 es
 ne:f.d2≠f.d3
variable {H H':Hp}{a:Addr}{f:Ft}{es:List (Int × List Int)}{n:Nat}
def Kv.mono{k1:List (aw × V)}{k2 k3:List (List aw × V)}(h:Kv H k1 k2 k3 es)(s:∀q xs,H q=some (.tup xs)->H' q=some (.tup xs)):Kv H' k1 k2 k3 es:=by
 refine⟨λe f=>?_,h.b,h.b',λe f m i=>?_,λx hx=>?_,h.nd,h.d⟩
 ·obtain⟨q,x,y⟩:=h.a e f;exact⟨q,x,s _ _ y⟩
 ·obtain⟨q,g,x,y,z⟩:=h.c e f m i;exact⟨q,g,x,s _ _ y,z⟩
 ·obtain⟨j,e,q,g,x,y,z⟩:=h.e x hx;exact⟨j,e,q,g,x,s _ _ y,z⟩
def Tt.mono(h:Tt t H a f es n)(s:af H H'):Tt t H' a f es n:=by
 obtain⟨o,⟨k1,k2,k3,g,c,i,l1,b,j,d⟩,ne⟩:=h;exact⟨s _ _ o,⟨k1,k2,k3,s _ _ g,s _ _ c,s _ _ i,l1,b,j,d.mono λq xs e=>s _ _ e⟩,ne⟩
def aD{c d:Addr}{u v:HO}(h:H c=some u)(k:H d=some v)(n:u≠v):c≠d:=λz=>by rw[z,k]at h;exact n (OI h).symm
def dC(f:Ft)(H H':Hp):Prop:=∀c u,c≠f.d1->c≠f.d2->c≠f.d3->H c=some u->H' c=some u
def dC.trans{H b a:Hp}(h:dC f H b)(h':dC f b a):dC f H a:=λc u d i g e=>h' c u d i g (h c u d i g e)
def dC.of{H a:Hp}(h:af H a):dC f H a:=λc u _ _ _ e=>h c u e
def Tt.tup{q:Addr}{xs:List V}(h:Tt t H a f es n)(b:H q=some (.tup xs))(k:dC f H H'):H' q=some (.tup xs):=by
 obtain⟨o,⟨k1,k2,k3,e,d,c,_⟩,ne⟩:=h;exact k _ _ (aD b e (by intro z;cases z)) (aD b d (by intro z;cases z)) (aD b c (by intro z;cases z)) b
def C4(t:Adr):Sp:=λvs H Q _=>∃(a:Addr) (f:Ft) (q:Addr) (n:Nat) (s:Int) (r:List Int) (es:List (Int × List Int)),vs=[.ref a,.int s,.ref q]/\Tt t H a f es n/\H q=some (.tup (r.map V.int))/\r.length<=6/\n<=1000/\(∀e∈es,e.1≠s/\e.2≠r) /\
 ∀H',Tt t H' a f (es++[(s,r)]) (n+9)->dC f H H'->Q .non H'
def Jr (T:Txt K mg t):fi P w K mg base t.bA "enter" 1 t.wf t.tZ ["self", "sign", "row"] (C4 t):=by
 refine⟨T.dy,T.GU,T.MV,T.ND.okQ xG (λvs H Q E h=>by obtain⟨a,f,q,n,s,r,es,rfl,_⟩:=h;rfl) λ_ _ _ _ H vs Q E hr h=>?_⟩;obtain⟨a,f,q,n,sg,r,es,rfl,tb,hq,lr,ln,new,k⟩:=h;have hu:=hr.units;obtain⟨o,⟨k1,k2,k3,a1,a2,a3,l1,l2,l3,G⟩,ne⟩:=id tb;refine⟨_,(ao (lC hu (cW (K:=K) Z (aa 0)) (aa 1) (aa 2))
  (ao (lC hu (cW (K:=K) rfl (aa 0)) (aa 2) (aa 1))
  (ak (bz PassesOwn.never rfl (gU rfl T.n_range (ab (bG (Oj K) (bq (Of K) T.n_len OM (ab (aa 2) ag)) aq) ag)) (aG (i:=3) xG.nd rfl (.inl rfl)) (ak (lC hu (cW (K:=K) rfl (aa 0)) (cb (zE (K:=K) rfl) (aa 2) cL (bN (aa 3))) (cb (zE (K:=K) rfl) (aa 2) (bN (aa 3)) cL))))))),?_⟩
 have ae:f.d1≠f.d2:=aD a1 a2 (by intro z;cases z);have ad:f.d1≠f.d3:=aD a1 a3 (by intro z;cases z);have S:a≠f.d1:=aD o a1 (by intro z;cases z);have Y:a≠f.d2:=aD o a2 (by intro z;cases z);have W:a≠f.d3:=aD o a3 (by intro z;cases z);refine⟨a,_,f.dx,_,_,Z,o,T.dy,T.rM,Z,?_⟩;refine⟨f.d1,_,rfl,fJ.k (k:=.inl sg) a1 (cI (by omega)),?_⟩;obtain⟨I,e1⟩:∃I,I=upd H f.d1 (.dK (bu k1 (.inl sg) (.ref q))):=⟨_,rfl⟩;rw[<- e1];have o1:dC f H I:=λc u m1 m2 m3 e=>by rw[e1,am m1];exact e
 have b1:I f.d1=some (.dK (bu k1 (.inl sg) (.ref q))):=by rw[e1,aP]
 have b2:I f.d2=some (.dT k2):=by rw[e1,am ae.symm];exact a2
 have b3:I f.d3=some (.dT k3):=by rw[e1,am ad.symm];exact a3
 clear e1;refine⟨a,_,f.dx,_,_,Z,o1 _ _ S Y W o,T.dy,T.rL,Z,?_⟩;have aE:=tb.tup hq o1;refine⟨f.d2,_,rfl,fJ.t (k:=bM r) b2 (by rw[<- mX];exact aE) (cI (by omega)),?_⟩;obtain⟨H2,e2⟩:∃H2,H2=upd I f.d2 (.dT (bu k2 (bM r) (.int sg))):=⟨_,rfl⟩;rw[<- e2];have o2:dC f I H2:=λc u m1 m2 m3 e=>by rw[e2,am m2];exact e
 have c1:H2 f.d1=some (.dK (bu k1 (.inl sg) (.ref q))):=by rw[e2,am ae];exact b1
 have c2:H2 f.d2=some (.dT (bu k2 (bM r) (.int sg))):=by rw[e2,aP]
 have c3:H2 f.d3=some (.dT k3):=by rw[e2,am ne.symm];exact b3
 clear e2;have D:=o1.trans o2;have aB:=tb.tup hq D;refine⟨_,.inr (.of aB),?_⟩;refine⟨_,rfl,by rw[On];omega,by rw[On];omega,?_⟩;rw[On];refine jr (lo:=0) (n:=((r.length:Int)+1).toNat) (λi σ H'=>dC f H H'/\H' f.d1=some (.dK (bu k1 (.inl sg) (.ref q)))/\H' f.d2=some (.dT (bu k2 (bM r) (.int sg)))/\(∃g,H' f.d3=some (.dT g)/\g.length<=n+i/\(∀m,m<i->iL H' g (es++[(sg,r)]) (r.take m))/\(∀e∈es,∀m,m<=e.2.length->iL H' g (es++[(sg,r)]) (e.2.take m))/\(∀x∈g.map (λx=>x.1),∃l,x=bM l/\iL H' g (es++[(sg,r)]) l)/\(g.map λx=>x.1).Nodup)/\∃v3,σ=[some (.ref a),some (.int sg),some (.ref q),v3]) ⟨D,c1,c2,⟨k3,c3,by omega,(λm h=>Sd h (by omega)),(λe j m M=>?_),(λx hx=>?_),G.nd⟩,_,rfl⟩ ?_ ?_
 ·obtain⟨q',r2,x,y,e',U,z⟩:=G.c e j m M;exact⟨q',r2,x,tb.tup y D,e',OZ _ U,z⟩
 ·obtain⟨l,ex,q',r2,x,y,e',U,z⟩:=G.e x hx;exact⟨l,ex,q',r2,x,tb.tup y D,e',OZ _ U,z⟩
 ·rintro i σ H3 hi ⟨N,d1,d2,⟨g,d3,aF,v,B,p,R⟩,v3,rfl⟩;have F:=tb.tup hq N;refine⟨_,Z,_,.of F,F,λC H4 s4 h4=>?_⟩;refine⟨a,_,f.dx,_,_,Z,s4 _ _ (N _ _ S Y W o),T.dy,T.oR,Z,?_⟩;refine⟨_,Z,_,.of (s4 _ _ F),s4 _ _ F,λp5 H5 s5 h5=>?_⟩;rw[Pe,eI,mX]at h5;have O:=s4.trans s5;refine⟨f.d3,_,rfl,fJ.t (k:=bM (r.take i)) (O _ _ d3) h5 (cI (by omega)),?_⟩;obtain⟨J,e6⟩:∃J,J=upd H5 f.d3 (.dT (bu g (bM (r.take i)) (.ref C))):=⟨_,rfl⟩;rw[<- e6];have t6:∀c u,c≠f.d3->H3 c=some u->J c=some u:=λc u m e=>by rw[e6,am m];exact O _ _ e
  have ax:C≠f.d3:=aD (s5 _ _ h4) (O _ _ d3) (by intro z;cases z);have ar:J C=some (.tup (ce (r.map V.int) (some (0+(i:Int))) none)):=by rw[e6,am ax];exact s5 _ _ h4
  have b6:J f.d3=some (.dT (bu g (bM (r.take i)) (.ref C))):=by rw[e6,aP]
  clear e6;have L:J C=some (.tup ((r.drop i).map V.int)):=by
   rw[ar,Pe,gE];exact congrArg _ (congrArg _ (congrArg _ (pN r i)))
  have keep:∀l,iL H3 g (es++[(sg,r)]) l->iL J (bu g (bM (r.take i)) (.ref C)) (es++[(sg,r)]) l:=by
   rintro l ⟨q',r2,x,y,z⟩;by_cases c:bM l=bM (r.take i)
   ·have c':=lQ c;exact⟨C,r.drop i,by rw[eT,Sc c],L,(sg,r),by simp,by rw[c',P0]⟩
   ·exact⟨q',r2,by rw[eT,Sb c];exact x,t6 _ _ (aD y d3 (by intro z;cases z)) y,z⟩
  have here:iL J (bu g (bM (r.take i)) (.ref C)) (es++[(sg,r)]) (r.take i):=⟨C,r.drop i,by rw[eT,Sc rfl],L,(sg,r),by simp,by rw[P0]⟩;refine⟨λc u m1 m2 m3 e=>t6 _ _ m3 (N c u m1 m2 m3 e),t6 _ _ ad d1,t6 _ _ ne d2,⟨_,b6,?_,λm M=>?_,(λe j m M=>keep _ (B e j m M)),λx hx=>?_,HN R⟩,_,Z⟩
  ·have:=jh g (bM (r.take i)) (.ref C);omega
  ·by_cases c:m<i
   ·exact keep _ (v m c)
   ·obtain rfl:m=i:=by omega
    exact here
  ·rcases HP hx with rfl|hx
   ·exact⟨r.take i,Z,here⟩
   ·obtain⟨l,ex,z⟩:=p x hx;exact⟨l,ex,keep l z⟩
 ·rintro σ H3 ⟨N,d1,d2,⟨g,d3,aF,v,B,p,R⟩,_⟩;refine k _ ⟨N _ _ S Y W o,⟨_,_,g,d1,d2,d3,?_,?_,by omega,?_⟩,ne⟩ N
  ·have:=jh k1 (.inl sg) (.ref q);omega
  ·have:=jh k2 (bM r) (.int sg);omega
  ·refine⟨λe j=>?_,λe j=>?_,λr' a7=>?_,(λe j m M=>?_),p,R,?_⟩
   ·rcases Os.mp j with j|j
    ·rw[eT,Sb (λz=>(new e j).1 (Sum.inl.inj z))];obtain⟨q',x,y⟩:=G.a e j;exact⟨q',x,tb.tup y N⟩
    ·rw[Op.mp j,eT,Sc rfl];exact⟨q,Z,tb.tup hq N⟩
   ·rcases Os.mp j with j|j
    ·rw[eT,Sb (λz=>(new e j).2 (lQ z))];exact G.b e j
    ·rw[Op.mp j,eT,Sc rfl]
   ·rw[eT,Sb (λz=>a7 (sg,r) (by simp) (lQ z).symm)];exact G.b' r' λe j=>a7 e (by simp[j])
   ·rcases Os.mp j with j|j
    ·exact B e j m M
    ·rw[Op.mp j]at M ⊢;exact v m (by dsimp only at M;omega)
   ·have no:aR k1 (.inl sg)=none:=by
     refine qI λz=>?_;rw[G.d]at z;obtain⟨e,j,ee⟩:=Oq.mp z;exact (new e j).1 (Sum.inl.inj ee)
    rw[oJ _ no,Ot,Ot,G.d]
    rfl
def xr(t:Adr):Sp:=λvs H Q _=>∃(a dx p:Addr) (ps:List Addr) (es:List (Int × List Int)),vs=[.ref a,.ref p]/\H a=some (.ins t.bA dx [])/\H p=some (.lst (ps.map V.ref))/\wD H ps es/\Es es /\
 ∀f H',Kp a H H'->Tt t H' a f es 1000->Q .non H'
def Tt.up{H:Hp}{a:Addr}{f:Ft}{es:List (Int × List Int)}{n m:Nat}(h:Tt t H a f es n)(i:n<=m):Tt t H a f es m:=by
 obtain⟨o,⟨k1,k2,k3,d,b,e,l1,g,j,c⟩,ne⟩:=h;exact⟨o,⟨k1,k2,k3,d,b,e,by omega,by omega,by omega,c⟩,ne⟩
def Gy (T:Txt K mg t):bD P w K mg base bQ 6 t.qo t.pG ["self", "rows"] (xr t):=by
 refine T.NB.okQ xE (λvs H Q E h=>by obtain⟨a,dx,p,ps,es,rfl,_⟩:=h;rfl) λ_ _ _ _ H vs Q E hr h=>?_;obtain⟨a,dx,p,ps,es,rfl,y,W,en,ok,kq⟩:=h;have hu:=hr.units;refine⟨_,(ao (cU (bb (Jc T) hr (ab (aa 1) ag)))
  (ao (li (K:=K) rfl (aa 0) oG)
  (ao (li (K:=K) rfl (aa 0) x3)
  (ao (li (K:=K) rfl (aa 0) x3)
  (ak (bz PassesOwn.never rfl (cV (K:=K) rfl (aa 1)) (aG (i:=2) xE.nd rfl (.inl rfl)) (ak (cU (lj (Jr T) hr (aa 0) (ab (aA (Og K) (aa 2) aq (λ_ _=>rfl)) (ab (cO (jx (K:=K) rfl) T.n_tuple Pu (ab (aA (Og K) (aa 2) aq (λ_ _=>rfl)) ag)) ag))))))))))),?_⟩
 refine⟨p,ps,es,Z,W,en,ok,λH1 s1=>?_⟩;refine λd1 H2 f=>?_;refine⟨a,_,dx,_,rfl,f.sm _ _ (s1 _ _ y),T.dy,T.rM,OH Nat.zero_lt_one (by decide),?_⟩;obtain⟨m,R⟩:∃m,m=upd H2 a (HO.ins t.bA dx (cz "row_by_sign" (.ref d1) [])):=⟨_,rfl⟩;have a3:m a=some (.ins t.bA dx [("row_by_sign",.ref d1)]):=by rw[R,aP];rfl
 have k3:Kp a H2 m:=by rw[R];exact Kp.upd
 rw[<- R];clear R;refine λd2 H4 F=>?_;refine⟨a,_,dx,_,rfl,F.sm _ _ a3,T.dy,T.rL,OH (Pb 1) (by decide),?_⟩;obtain⟨g,N⟩:∃g,g=upd H4 a (HO.ins t.bA dx (cz "sign_by_row" (.ref d2) [("row_by_sign",.ref d1)])):=⟨_,rfl⟩;have a5:g a=some (.ins t.bA dx [("row_by_sign",.ref d1),("sign_by_row",.ref d2)]):=by rw[N,aP];rfl
 have k5:Kp a H4 g:=by rw[N];exact Kp.upd
 rw[<- N];clear N;refine λd3 H6 k=>?_;refine⟨a,_,dx,_,rfl,k.sm _ _ a5,T.dy,T.oR,OH (Pb 2) (by decide),?_⟩;obtain⟨b,O⟩:∃b,b=upd H6 a (HO.ins t.bA dx (cz "rest_by_row" (.ref d3) [("row_by_sign",.ref d1),("sign_by_row",.ref d2)])):=⟨_,rfl⟩;have a7:b a=some (.ins t.bA dx [("row_by_sign",.ref d1),("sign_by_row",.ref d2),("rest_by_row",.ref d3)]):=by rw[O,aP];rfl
 have k7:Kp a H6 b:=by rw[O];exact Kp.upd
 rw[<- O];clear O;have n1:d1≠a:=(aO (s1 _ _ y) f.nw).symm;have n2:d2≠a:=(aO a3 F.nw).symm;have n3:d3≠a:=(aO a5 k.nw).symm;have D:Kp a m g:=(Kp.of F.sm).trans k5;have C:Kp a g b:=(Kp.of k.sm).trans k7;have v:Kp a m b:=D.trans C;have a0:Kp a H1 b:=(Kp.of f.sm).trans (k3.trans v);have a6:Kp a H b:=(Kp.of s1).trans a0;have b2:g d2=some (.dT []):=k5 _ _ n2 F.at_;have Y:d2≠d3:=aO b2 k.nw;have tb:Tt t b a ⟨dx,d1,d2,d3⟩ [] 0:=⟨a7,⟨[],[],[],v _ _ n1 (k3 _ _ n1 f.at_),C _ _ n2 b2,k7 _ _ n3 k.at_,Oo _,Oo _,Oo _,⟨(λe h=>nomatch h),(λe h=>nomatch h),(λr _=>rfl),(λe h=>nomatch h),(λx h=>nomatch h),.nil,rfl⟩⟩,Y⟩;have f1:H d1=none:=s1.free f.nw;have f2:∀c u,H c=some u->c≠a->c≠d2:=λc u e n=>aO (k3 _ _ n (f.sm _ _ (s1 _ _ e))) F.nw;have f3:∀c u,H c=some u->c≠a->c≠d3:=λc u e n=>aO (D _ _ n (k3 _ _ n (f.sm _ _ (s1 _ _ e)))) k.nw;have lx:=en.1;have aF:=ok.l;have d:∀H',dC ⟨dx,d1,d2,d3⟩ b H'->Kp a H H':=λH' o c u n e=>o c u (aO e f1) (f2 c u e n) (f3 c u e n) (a6 c u n e);have px:∀H',dC ⟨dx,d1,d2,d3⟩ b H'->H' p=some (.lst (ps.map V.ref)):=λH' o=>d H' o _ _ (aD W y (by intro z;cases z)) W;refine⟨p,rfl,⟨_,.of (px b (dC.of (af.refl _)))⟩,eG (K:=K) (a:=p) (xs:=ps.map V.ref) (λi σ H'=>Tt t H' a ⟨dx,d1,d2,d3⟩ (es.take i) (i*9)/\dC ⟨dx,d1,d2,d3⟩ b H'/\∃v2,σ=[some (.ref a),some (.ref p),v2]) ⟨tb.up (by omega),dC.of (af.refl _),_,rfl⟩ (λi σ H' _ z=>.of (px H' z.2.1)) ?_ ?_⟩
 ·rintro i x σ H8 hx ⟨G,M,v2,rfl⟩;obtain⟨pe,J,rfl⟩:=ox hx;obtain⟨e,he,⟨q,L,I⟩,l1,l6⟩:=en.right J;have B:=d _ M _ _ (aD L y (by intro z;cases z)) L;have S:=d _ M _ _ (aD I y (by intro z;cases z)) I;have hi:i<ps.length:=(Ou.mp J).1;refine⟨a,dx,_,Z,G.o,Z,?_⟩;refine⟨_,_,.inr (.of B),aY (j:=0) Z,?_⟩;refine⟨_,_,.inr (.of B),aY (j:=1) Z,?_⟩;refine⟨_,.of S,λpt H9 U=>?_⟩;refine⟨a,⟨dx,d1,d2,d3⟩,pt,i*9,e.1,e.2,es.take i,rfl,G.mono U.sm,U.at_,l6,by omega,λe' a4=>?_,λHA tA oA=>?_⟩
  ·obtain⟨j,hj,rfl⟩:=Qp.mp a4;obtain⟨a2,e2⟩:=Ou.mp he;rw[OG]at hj;have s:=PL.mp ok.pw j i (by omega) a2 (by omega);rw[e2]at s;rw[List.getElem_take];unfold d5 ba at s;refine⟨λz=>?_,λz=>?_⟩
   ·rw[Sf z]at s;cases s
   ·rw[z]at s;simp at s
  ·have et:es.take (i+1)=es.take i++[(e.1,e.2)]:=nU he;rw[et];exact⟨tA.up (by omega),M.trans ((dC.of U.sm).trans oA),_,rfl⟩
 ·rintro σ H8 ⟨t8,M,_⟩;rw[On,lx,OK]at t8;exact kq _ _ (d _ M) (t8.up (by omega))
def Iu (T:Txt K mg t):wB P w K mg base "TableTongue" t.bA 6 t.qo t.pG ["self", "rows"] [] (xr t):=⟨T.JG,T.G3,⟨[],T.MT,.nil⟩,Gy T⟩
theorem my:∀ {kvs:List (aw × V)} {i:Nat} {k:aw} {v:V},(kvs.map λx=>x.1).Nodup->kvs[i]? = some (k,v)->aR kvs k=some v
 | [],_,_,_,_,h=>by simp at h
 | q::r,0,k,v,_,h=>by
  simp at h;subst h;exact eU Z
 | q::r,i+1,k,v,nd,h=>by
  obtain⟨a,b⟩:=Ph.mp nd;have h:r[i]? = some (k,v):=by simpa using h
  have ne:¬q.1=k:=λz=>a (Oq.mpr ⟨(k,v),OA h,z.symm⟩);rw[eV ne];exact my b h
def CM(t:Adr):Sp:=λvs H Q _=>∃(a:Addr) (f:Ft) (es:List (Int × List Int)) (n:Nat),vs=[.ref a]/\Tt t H a f es n/\n<=1000/\(es.map λe=>e.1).Nodup/\∀(p:Addr) (ps:List Addr) H',af H H'->H' p=some (.lst (ps.map V.ref))->aN (λq (e:Int × List Int)=>∃l,H' q=some (.tup [.int e.1,.ref l])/\H' l=some (.lst (e.2.map V.int))) ps es->Q (.ref p) H'
def Jo (T:Txt K mg t):fi P w K mg base t.bA "rows" 1 t.we t.tY ["self"] (CM t):=by
 refine⟨T.dy,T.GS,T.MS,T.NA.okQ DG (λvs H Q E h=>by obtain⟨a,f,es,n,rfl,_⟩:=h;rfl) λ_ _ _ _ H vs Q E hr h=>?_⟩;obtain⟨a,f,es,n,rfl,tt,hn,nd,k⟩:=h;obtain⟨o,⟨k1,k2,k3,F,a2,a3,l1,l2,l3,G⟩,ne⟩:=id tt;refine⟨_,(ak (aE (rk (fA rfl (cq.of (fns:=(aj jb).names) (N:=["self"]) (Nc:=["sign", "row"]) (nv:=2) (caps:=[]) rfl rfl (by decide +kernel)) (oC (cW (K:=K) rfl (aa 0))) (λ_ _ _ _=>(cN (K:=K) rfl (n:=2) rfl (bp (aG (i:=0) (show List.Nodup (["sign", "row"]:List Str) by decide +kernel) rfl (Or.inl rfl) (Or.inr rfl)) (bp (aG (i:=1) (show List.Nodup (["sign", "row"]:List Str) by decide +kernel) rfl (Or.inl rfl) (Or.inr rfl)) cM)))) (λ_ _ _ _=>fu) (λ_ _ _ _=>(bE (ab (aa 0) (ab (cO (Oh K) T.n_list O8 (ab (aa 1) ag)) ag)))))))),?_⟩;refine⟨f.d1,.dK k1,(λD v z=>by rw[F]at z;cases z),?_⟩;refine⟨a,_,f.dx,_,_,Z,o,T.dy,T.rM,Z,?_⟩;refine⟨f.d1,k1,Z,F,λD=>?_⟩;have el:es.length=k1.length:=by have:=congrArg List.length G.d;rw[On,On]at this;exact this.symm
 obtain⟨y,C⟩:∃y,y=upd H f.d1 (.frz D (.dK k1)):=⟨_,rfl⟩;have d1:y f.d1=some (.frz D (.dK k1)):=by rw[C,aP]
 have M:∀c u,c≠f.d1->H c=some u->y c=some u:=λc u n e=>by rw[C,am n];exact e
 rw[<- C];clear C;refine uC (K:=K) (λi B H'=>af y H'/\i<=k1.length/\∃ps:List Addr,B=ps.map V.ref/\aN (λq (e:Int × List Int)=>∃l,H' q=some (.tup [.int e.1,.ref l])/\H' l=some (.lst (e.2.map V.int))) ps (es.take i)) ⟨af.refl _,Ox _,[],rfl,aN.nil⟩ (λi B H' L z=>⟨z.1 _ _ d1,?_⟩) (cy (by omega)) (λi R v B H2 O N m z b hN=>?_) λB H2 p O z g=>?_
 ·obtain⟨_,_,ps,rfl,r⟩:=z;have:=r.1;rw[OG]at this;rw[On];omega
 ·obtain⟨j,_,ps,rfl,r⟩:=z;have L:i<k1.length:=(Ou.mp m).1;obtain⟨e,J⟩:∃e,es[i]? = some e:=⟨_,OF (by omega)⟩;have ek:R=Sum.inl e.1:=by
   have U:(k1.map λx=>x.1)[i]? = some R:=by rw[Ov,m];rfl
   rw[G.d,Ov,J]at U;exact (OI U).symm
  subst ek;obtain⟨q,Y,S⟩:=G.a e (OA J);have ev:v=.ref q:=by
   have nk:(k1.map λx=>x.1).Nodup:=by
    rw[G.d];have nd:=Po.mp nd;exact Po.mpr (nd.imp λh z=>h (Sum.inl.inj z))
   have:=my nk m;rw[Y]at this;exact (OI this).symm
  subst ev;simp only [ft,if_true];have q3:O q=some (.tup (e.2.map V.int)):=b _ _ (j _ _ (M _ _ (aD S F (by intro z;cases z)) S));refine⟨_,.inr (.of q3),λW H4 I=>?_⟩;refine⟨sz rfl,λp5 H5 s=>hN _ _ ⟨j.trans (b.trans (I.sm.trans s.sm)),L,ps++[p5],by rw[Ot];rfl,?_⟩⟩;rw[OU,J];refine aN.app (r.imp λc e' h=>?_) (aN.cons ⟨W,s.at_,s.sm _ _ I.at_⟩ aN.nil);obtain⟨l,h,h'⟩:=h;exact⟨l,s.sm _ _ (I.sm _ _ (b _ _ h)),s.sm _ _ (I.sm _ _ (b _ _ h'))⟩
 ·obtain⟨j,_,ps,rfl,r⟩:=z;refine⟨⟨D,g.sm _ _ (j _ _ d1)⟩,k p ps _ (λc u e=>?_) ?_ ?_⟩
  ·by_cases n:c=f.d1
   ·subst n;rw[aP,<- F,e]
   ·rw[am n];exact g.sm _ _ (j _ _ (M c u n e))
  ·rw[am (aO (j _ _ d1) g.nw).symm];exact g.at_
  ·rw[Ps (by omega)]at r;refine r.imp λc e h=>?_;obtain⟨l,h,h'⟩:=h;exact⟨l,by rw[am (aD (g.sm _ _ h) (g.sm _ _ (j _ _ d1)) (by intro z;cases z))];exact g.sm _ _ h,by rw[am (aD (g.sm _ _ h') (g.sm _ _ (j _ _ d1)) (by intro z;cases z))];exact g.sm _ _ h'⟩
def cC(rows:List (List Int))(p:List Int):List Int:=if p∈rows then [] else p
structure qD (H:Hp) (rows PS:List (List Int)) (b:List Int) (ks:List (aw × V)):Prop where
 nd:(ks.map λy=>y.1).Nodup
 int:∀y∈ks,∃x:Int,y.1=.inl x
 yes:∀x,b++[x]∈PS->∃q,aR ks (.inl x)=some (.ref q)/\H q=some (.tup ((cC rows (b++[x])).map V.int))
 no:∀x,b++[x]∉PS->aR ks (.inl x)=none
 len:ks.length<=PS.length
structure cF (H:Hp) (p:Addr) (rows PS:List (List Int)) (ky:List Int->Prop) (kvs:List (aX × Addr × V)):Prop where
 dq:DQ H p kvs
 key:∀b,b∈kvs.map (λe=>e.1) ↔ ky b
 met:∀b x,b++[x]∈PS->ky b
 val:∀e∈kvs,∃d ks,e.2.2=.ref d/\H d=some (.dK ks)/\qD H rows PS e.1 ks
 inj:∀e∈kvs,∀e'∈kvs,e.2.2=e'.2.2->e.1=e'.1
def qD.mono{H H':Hp}{rows PS:List (List Int)}{b:List Int}{ks:List (aw × V)}(h:qD H rows PS b ks)(s:∀q xs,H q=some (.tup xs)->H' q=some (.tup xs)):qD H' rows PS b ks :=
 ⟨h.nd,h.int,λx hx=>let ⟨q,a,b⟩:=h.yes x hx;⟨q,a,s _ _ b⟩,h.no,h.len⟩
def cF.same{H H':Hp}{p:Addr}{rows PS:List (List Int)}{f:List Int->Prop}{kvs:List (aX × Addr × V)}(h:cF H p rows PS f kvs)(s:af H H'):cF H' p rows PS f kvs :=
 ⟨h.dq.same s,h.key,h.met,λe g=>let ⟨d,ks,a,b,c⟩:=h.val e g;⟨d,ks,a,s _ _ b,c.mono λq xs z=>s _ _ z⟩,h.inj⟩
def iV{kvs:List (aX × Addr × V)}{b:List Int}{v:V}(h:ca kvs b=some v):∃e∈kvs,e.1=b/\e.2.2=v:=by
 unfold ca at h;obtain⟨e,a,rfl⟩:=OS.mp h;exact⟨e,Px a,by have z:=PM a;exact Se z,Z⟩
def nQ{kvs:List (aX × Addr × V)}{b:List Int}(h:b∈kvs.map λe=>e.1):∃v,ca kvs b=some v:=by
 cases e:ca kvs b with
 | some v=>exact⟨v,rfl⟩
 | none =>
  unfold ca at e;rw[Qe,Pf]at e;obtain⟨x,hx,rfl⟩:=Oq.mp h;exact Sd (Sf Z) (e x hx)
def EM{kvs:List (aX × Addr × V)}{b:List Int}{q:Addr}{v:V}(h:ca kvs b=none):gn kvs b q v=kvs++[(b,q,v)]:=by
 unfold gn;rw[h]
 rfl
def zZ{H H':Hp}{a d:Addr}{kvs:List (aX × Addr × V)}{ks:List (aw × V)}(h:DQ H a kvs)(hd:H d=some (.dK ks))(s:∀c,c≠d->H' c=H c):DQ H' a kvs:=by
 obtain⟨⟨xs,ep,b,e⟩,k,n,l⟩:=h;refine⟨⟨xs,ep,?_,e⟩,λx hx=>?_,n,l⟩
 ·rw[s a (aD b hd (by intro z;cases z))];exact b
 ·have z:=k x hx;show H' x.2.1=_;rw[s _ (aD z hd (by intro z;cases z))];exact z
def o9(kvs:List (aw × V))(k:aw)(v:V):(k∈(kvs.map λx=>x.1)/\((bu kvs k v).map λx=>x.1)=kvs.map λx=>x.1)\/(k∉(kvs.map λx=>x.1)/\((bu kvs k v).map λx=>x.1)=(kvs.map λx=>x.1)++[k]):=by
 by_cases h:k∈(kvs.map λx=>x.1)
 ·refine .inl ⟨h,?_⟩;unfold bu;obtain⟨y,hy,a⟩:=Oq.mp h;rw[Sc (List.any_eq_true.mpr ⟨y,hy,Sf a⟩),Pw];refine Rh λy hy=>?_;show (if y.1=k then (y.1,v) else y).1=y.1
  split<;>rfl
 ·refine .inr ⟨h,?_⟩;rw[oJ v (qI h),Ot]
  rfl
def cF.put{H H':Hp}{p d k:Addr}{rows PS:List (List Int)}{M:List Int->Prop}{kvs:List (aX × Addr × V)}{b:List Int}{x:Int}{ks:List (aw × V)}(h:cF H p rows PS M kvs)(m:ca kvs b=some (.ref d))(hd:H d=some (.dK ks))(hq:H k=some (.tup ((cC rows (b++[x])).map V.int)))
 (U:H'=upd H d (.dK (bu ks (.inl x) (.ref k)))):cF H' p rows (PS++[b++[x]]) M kvs:=by
 have G:∀c,c≠d->H' c=H c:=λc n=>by rw[U,am n]
 have F:∀q xs,H q=some (.tup xs)->H' q=some (.tup xs):=λq xs z=>by rw[G q (aD z hd (by intro z;cases z))];exact z
 have kb:M b:=by
  obtain⟨e,r,l,_⟩:=iV m;exact (h.key b).mp (Oq.mpr ⟨e,r,l⟩)
 refine⟨zZ h.dq hd G,h.key,λb' a hx=>?_,λe r=>?_,h.inj⟩
 ·rcases Os.mp hx with z|z
  ·exact h.met b' a z
  ·have z:=Rj (Op.mp z) rfl;rw[z];exact kb
 ·obtain⟨d1,R,B,L,f⟩:=h.val e r;by_cases c:d1=d
  ·subst c;rw[hd]at L;cases L;obtain⟨I,g,l,C⟩:=iV m;have eb:e.1=b:=by rw[<- l];exact h.inj e r I g (B.trans C.symm)
   refine⟨d1,_,B,by rw[U,aP],?_⟩;rw[eb]at f ⊢;refine⟨?_,λy hy=>?_,λa hx=>?_,λa hx=>?_,by have:=jh ks (.inl x) (.ref k);have:=f.len;rw[Oz];simp;omega⟩
   ·rcases o9 ks (.inl x) (.ref k) with ⟨_,z2⟩|⟨z,z2⟩
    ·rw[z2];exact f.nd
    ·rw[z2];refine Pd.mpr ⟨f.nd,by simp,λu N v m=>?_⟩;rw[Op.mp m];exact λe=>z (e ▸ N)
   ·have D:y.1∈(bu ks (.inl x) (.ref k)).map λx=>x.1:=Oq.mpr ⟨y,hy,rfl⟩;have o:y.1∈(ks.map λx=>x.1)->∃x:Int,y.1=.inl x:=λz=>by
     obtain⟨u,N,eu⟩:=Oq.mp z;obtain⟨x,ex⟩:=f.int u N;exact⟨x,eu.symm.trans ex⟩
    rcases o9 ks (.inl x) (.ref k) with ⟨_,z2⟩|⟨_,z2⟩
    ·rw[z2]at D;exact o D
    ·rw[z2]at D;rcases Os.mp D with z|z
     ·exact o z
     ·exact⟨x,Op.mp z⟩
   ·rw[eT];by_cases c:(Sum.inl a:aw)=.inl x
    ·rw[Sc c];cases Sum.inl.inj c;exact⟨k,Z,F _ _ hq⟩
    ·rw[Sb c];have hx:b++[a]∈PS:=by
      rcases Os.mp hx with z|z
      ·exact z
      ·have z:=List.append_inj_right' (Op.mp z) rfl;cases z;exact Sd Z c
     obtain⟨q,J,O⟩:=f.yes a hx;exact⟨q,J,F _ _ O⟩
   ·rw[eT];by_cases c:(Sum.inl a:aw)=.inl x
    ·cases Sum.inl.inj c;exact Sd (ON _ (Op.mpr Z)) hx
    ·rw[Sb c];exact f.no a λz=>hx (OZ _ z)
  ·refine⟨d1,R,B,by rw[G d1 c];exact L,?_⟩;have Y:e.1≠b:=λz=>by
    obtain⟨I,g,l,C⟩:=iV m;have nd:=h.dq.nd;have:e=I:=by
     have:=Po.mp nd;obtain⟨i,S⟩:=OY r;obtain⟨j,s⟩:=OY g;have l1:=(Ou.mp S).1;have l2:=(Ou.mp s).1;have:i=j:=by
      have q1:(kvs.map λe=>e.1)[i]? = some b:=by rw[Ov,S];exact congrArg some z
      have W:(kvs.map λe=>e.1)[j]? = some b:=by rw[Ov,s];exact congrArg some l
      exact (Qq (by rw[On];exact l1) nd).mp (q1.trans W.symm)
     subst this;rw[S]at s;cases s;rfl
    subst this;rw[B]at C;cases C;exact c Z
   refine⟨f.nd,f.int,λa hx=>?_,λa hx=>f.no a λz=>hx (OZ _ z),by have:=f.len;rw[Oz];omega⟩;have hx:e.1++[a]∈PS:=by
    rcases Os.mp hx with z|z
    ·exact z
    ·exact Sd (Rj (Op.mp z) Z) Y
   obtain⟨q,J,O⟩:=f.yes a hx;exact⟨q,J,F _ _ O⟩
def cF.new{H H':Hp}{p f q:Addr}{rows PS:List (List Int)}{i:List Int->Prop}{kvs:List (aX × Addr × V)}{b:List Int}(h:cF H p rows PS i kvs)(s:¬i b)(l:H f=some (.dK []))(o:∀e∈kvs,e.2.2 ≠ .ref f)
 (dq:DQ H' p (kvs++[(b,q,.ref f)])) (g:∀c,c≠p->H' c=H c):cF H' p rows PS (λc=>i c\/c=b) (kvs++[(b,q,.ref f)]):=by
 obtain⟨xs,ep,j,_⟩:=h.dq.ex;have r:∀q xs,H q=some (.tup xs)->H' q=some (.tup xs):=λq xs z=>by rw[g q (aD z j (by intro z;cases z))];exact z
 refine⟨dq,λc=>?_,λc x hx=>.inl (h.met c x hx),λe d=>?_,λe d m a z=>?_⟩
 ·rw[Ot,Os,h.key];simp
 ·rcases Os.mp d with d|d
  ·obtain⟨d1,k,u,n,v⟩:=h.val e d;exact⟨d1,k,u,by rw[g d1 (aD n j (by intro z;cases z))];exact n,v.mono r⟩
  ·cases Op.mp d;exact⟨f,[],rfl,by rw[g f (aD l j (by intro z;cases z))];exact l,.nil,(λy hy=>nomatch hy),(λx hx=>Sd (h.met b x hx) s),(λx _=>rfl),Ox _⟩
 ·rcases Os.mp d with d|d<;>rcases Os.mp a with a|a
  ·exact h.inj e d m a z
  ·cases Op.mp a;exact Sd z (o e d)
  ·cases Op.mp d;exact Sd z.symm (o m a)
  ·cases Op.mp d;cases Op.mp a
   rfl
def cB(r:List Int)(n:Nat):List (List Int):=(List.range n).map λk=>r.take (k+1)
def bf(rows:List (List Int)):List (List Int):=rows.flatMap λr=>cB r r.length
def yf(r:List Int)(n:Nat):cB r (n+1)=cB r n++[r.take (n+1)]:=by
 unfold cB;rw[PZ,Ot]
 rfl
def Fi(rows:List (List Int))(r:List Int):bf (rows++[r])=bf rows++cB r r.length:=by
 unfold bf;rw[Rk];simp
def ye{rows:List (List Int)}(h:∀r∈rows,r.length<=6):(bf rows).length<=6*rows.length:=by
 induction rows with
 | nil=>exact Ox _
 | cons r rows ih =>
  have a:=h r (OP ..);have b:=ih λx hx=>h x (OQ _ hx);show (cB r r.length++bf rows).length<=_;rw[Oz];have:(cB r r.length).length=r.length:=by unfold cB;rw[On,O0]
  rw[OV];omega
def yJ{r q:List Int}:q∈cB r r.length ↔ q≠[]/\q <+: r:=by
 unfold cB;rw[Oq]
 constructor
 ·rintro⟨k,a,rfl⟩;have a:=O2.mp a;refine⟨λz=>?_,List.take_prefix _ _⟩;have:=congrArg List.length z;simp only [OG,QX]at this;omega
 ·rintro⟨h1,h2⟩;have b:0<q.length:=PY.mpr h1;have c:=h2.length_le;refine⟨q.length-1,O2.mpr (by omega),?_⟩;rw[show q.length-1+1=q.length by omega];exact (Rl.mp h2).symm
def oU{rows:List (List Int)}{q:List Int}:q∈bf rows ↔ q≠[]/\∃r∈rows,q <+: r:=by
 unfold bf;rw[List.mem_flatMap]
 constructor
 ·rintro⟨r,hr,h⟩;obtain⟨a,b⟩:=yJ.mp h;exact⟨a,r,hr,b⟩
 ·rintro⟨a,r,hr,b⟩;exact⟨r,hr,yJ.mpr ⟨a,b⟩⟩
def cF.kyE{H:Hp}{p:Addr}{rows PS:List (List Int)}{c a:List Int->Prop}{kvs:List (aX × Addr × V)}(h:cF H p rows PS c kvs)(e:∀b,c b ↔ a b):cF H p rows PS a kvs :=
 ⟨h.dq,λb=>(h.key b).trans (e b),λb x hx=>(e b).mp (h.met b x hx),h.val,h.inj⟩
def dX(PS:List (List Int)):List Int->Prop:=λb=>∃x,b++[x]∈PS
def cF.nil{H:Hp}{p:Addr}(rows:List (List Int))(h:DQ H p []):cF H p rows [] (dX []) []:=by
 refine⟨h,λb=>⟨λz=>?_,λz=>?_⟩,λb x hx=>?_,λe a=>?_,λe a=>?_⟩
 ·cases z
 ·obtain⟨x,hx⟩:=z;cases hx
 ·cases hx
 ·cases a
 ·cases a
def ii(p:Addr)(H H':Hp):Prop:=∀c u,c≠p->H c=some u->H' c=some u
def ww(H:Hp)(kvs:List (aX × Addr × V)):Prop:=∀e∈kvs,∀d,e.2.2=.ref d->H d=none
def Jz{rows:List (List Int)}{r:List Int}{j:Nat}(b:∀x∈rows,∀y∈rows,x <+: y->x=y)(a:r∈rows)(d:j<r.length):cC rows (r.take (j+1))=if j+1<r.length then r.take (j+1) else []:=by
 unfold cC;by_cases c:j+1<r.length
 ·rw[Sc c,Sb λz=>?_];have:=congrArg List.length (b _ z _ a (List.take_prefix _ _));rw[OG]at this;omega
 ·rw[Sb c,Ps (by omega),Sc a]
def CF(t:Adr):Sp:=λvs H Q _=>∃(a:Addr) (f:Ft) (es:List (Int × List Int)) (n:Nat),vs=[.ref a]/\Tt t H a f es n/\n<=1000/\Es es /\
 ∀p kvs H',af H H'->H p=none->cF H' p (es.map λe=>e.2) (bf (es.map λe=>e.2)) (dX (bf (es.map λe=>e.2))) kvs->kvs.length<=(bf (es.map λe=>e.2)).length->Q (.ref p) H'
def IL (T:Txt K mg t):bo P w K mg base "steps_of" 2 t.vA t.tj ["tongue"] (CF t):=by
 refine⟨T.JW,T.Be.kp,T.Mn,T.Be.okQ jS (λvs H Q E h=>by obtain⟨a,f,es,n,rfl,_⟩:=h;rfl) λ_ _ _ _ H vs Q E M h=>?_⟩;obtain⟨a,f,es,n,rfl,tt,hn,ok,k⟩:=h;have hu:=M.units;refine⟨_,(ao (aF (i:=1) jS.nd Z (.inl Z) EB)
  (ao (bz PassesOwn.never rfl (cV (K:=K) rfl (jg (Jo T) M (aa 0))) (cN (K:=K) rfl rfl (bp (aG (i:=2) jS.nd rfl (.inl rfl)) (bp (aG (i:=3) jS.nd rfl (.inl rfl)) cM))) (ak (bz PassesOwn.never rfl (gU rfl T.n_range (ab (bq (Of K) T.n_len OM (ab (aa 3) ag)) ag)) (aG (i:=4) jS.nd rfl (.inl rfl)) (ao (aF (i:=5) jS.nd rfl (.inl rfl) (cO (jx (K:=K) rfl) T.n_tuple Pu (ab (cb (Oi K) (aa 3) cL (bN (aa 4))) ag)))
  (ao (cU (EE hu (aa 1) (aa 5) oG))
  (ak (lC hu (mP hu (aa 1) (aa 5)) (aA (Og K) (aa 3) (aa 4) (λ_ _=>rfl)) (ix (aT pz (bG (Oj K) (aa 4) aq) (bq (Of K) T.n_len OM (ab (aa 3) ag)) (aV _)) (cO (jx (K:=K) rfl) T.n_tuple Pu (ab (cb (Oi K) (aa 3) cL (bN (bG (Oj K) (aa 4) aq))) ag)) (bE ag)))))))))
  (ak (aE (aa 1))))),?_⟩
 refine λC H1 g1=>?_;refine⟨a,f.dx,_,Z,g1.sm _ _ tt.o,Z,?_⟩;obtain⟨rows,er⟩:∃rows,rows=es.map λe=>e.2:=⟨_,rfl⟩;have pf:∀x∈rows,∀y∈rows,x <+: y->x=y:=by
  intro x hx y hy hp;rw[er]at hx hy;obtain⟨O,h1,rfl⟩:=Oq.mp hx;obtain⟨S,h2,rfl⟩:=Oq.mp hy;rcases ok.two h1 h2 with z|z
  ·rw[z]
  ·have:ba O.2 S.2=true:=Sf (Rl.mp hp).symm;unfold d5 at z;rw[this]at z;simp at z
 have bb:(es.map λe=>e.1).Nodup:=by
  refine Po.mpr (ok.pw.imp λ{O S} z=>?_);unfold d5 at z;intro c;rw[Sf c]at z;simp at z
 refine⟨a,f,es,n,Z,tt.mono g1.sm,hn,bb,λp2 ps G s2 h2 al=>?_⟩;have b2:ps.length=es.length:=al.1;have lr:rows.length=es.length:=by rw[er,On]
 have d0:DQ G C []:=(DQ.new g1).same s2;obtain⟨bM,bF,dh,_⟩:=d0.ex;have S0:cF G C rows (bf (rows.take 0)) (dX (bf (rows.take 0))) []:=cF.nil rows d0;refine⟨p2,rfl,⟨_,.of h2⟩,eG (K:=K) (a:=p2) (xs:=ps.map V.ref) (λi σ H'=>ii C G H'/\(∃kvs,cF H' C rows (bf (rows.take i)) (dX (bf (rows.take i))) kvs/\kvs.length<=(bf (rows.take i)).length/\ww G kvs)/\∃v2 v3 v4 v5,σ=[some (.ref a),some (.ref C),v2,v3,v4,v5]) ⟨λc u _ e=>e,⟨[],S0,Ox _,λe he=>by cases he⟩,_,_,_,_,rfl⟩ (λi σ H' _ z=>.of (z.1 _ _ (aD h2 dh (by intro z;cases z)) h2)) ?_ ?_⟩
 ·rintro i x σ H3 hx ⟨b3,⟨kvs,st,lk,nv⟩,v2,v3,v4,v5,rfl⟩;rw[Ov]at hx;obtain⟨q,hq,rfl⟩:=OS.mp hx;obtain⟨e,he,l,O,S⟩:=al.right hq;have em:e∈es:=OA he;have aB:rows[i]? = some e.2:=by rw[er,Ov,he];rfl
  have b0:e.2∈rows:=OA aB;have le:=(ok.sg e em).2.2.1;have il:i<64:=by have:=(Ou.mp he).1;have:=ok.l;omega
  have q3:=b3 _ _ (aD O dh (by intro z;cases z)) O;have l3:=b3 _ _ (aD S dh (by intro z;cases z)) S;refine⟨q,_,Z,.of q3,Z,?_⟩;refine⟨_,_,Z,_,_,Z,Z,?_⟩;refine⟨_,.inl (.of l3),?_⟩;refine⟨_,rfl,by rw[On];omega,by rw[On];omega,?_⟩;rw[On];refine jr (lo:=0) (n:=(e.2.length:Int).toNat) (λj σ H'=>ii C G H'/\(∃kvs,cF H' C rows (bf (rows.take i)++cB e.2 j) (dX (bf (rows.take i)++cB e.2 j)) kvs/\kvs.length<=(bf (rows.take i)++cB e.2 j).length/\ww G kvs)/\∃v4 v5,σ=[some (.ref a),some (.ref C),some (.int e.1),some (.ref l),v4,v5]) ⟨b3,⟨kvs,by rw[show cB e.2 0=[] from rfl,Pg];exact st,by rw[show cB e.2 0=[] from rfl,Pg];exact lk,nv⟩,_,_,Z⟩ ?_ ?_
  ·rintro j σ H4 hj ⟨b4,⟨m,s,R,N⟩,v4,v5,rfl⟩;rw[OX]at hj;obtain⟨PS,ePS⟩:∃PS,PS=bf (rows.take i)++cB e.2 j:=⟨_,rfl⟩;rw[<- ePS]at s R;have lPS:PS.length<=390:=by
    have:=ye (rows:=rows.take i) λr M=>by
     have M:=Pj M;rw[er]at M;obtain⟨O,h1,rfl⟩:=Oq.mp M;exact (ok.sg O h1).2.2.1
    rw[ePS,Oz];have l2:(cB e.2 j).length=j:=by unfold cB;rw[On,O0]
    rw[OG]at this;omega
   obtain⟨x,hx⟩:∃x,e.2[j]? = some x:=⟨_,OF hj⟩;have tk:e.2.take (j+1)=e.2.take j++[x]:=by rw[OU,hx];rfl
   obtain⟨b,eb⟩:∃b,b=e.2.take j:=⟨_,rfl⟩;rw[<- eb]at tk;have l4:=b4 _ _ (aD S dh (by intro z;cases z)) S;obtain⟨bO,bL,ap,_⟩:=s.dq.ex;refine⟨_,Z,_,.of l4,λp5 H5 g5=>?_⟩;rw[Pe,eI,<- eb]at g5;refine⟨_,.of g5.at_,λp6 H6 g6=>?_⟩;have F:=g5.sm.trans g6.sm;dsimp only [bT];refine fY (λσ' H'=>σ'=[some (.ref a),some (.ref C),some (.int e.1),some (.ref l),some (.int (0+(j:Int))),some (.ref p6)]/\ii C H6 H'/\∃g,cF H' C rows PS (λc=>dX PS c\/c=b) g/\g.length<=PS.length+1/\ww G g/\b∈g.map λe=>e.1) (λnx aj=>?_) λσ' H8 z=>?_
   ·refine⟨C,m,Z,s.dq.same F,λp7 H7 W=>?_⟩;have b6:=F.trans W.sm;have I:=s.same b6;refine⟨p6,m,b,rfl,I.dq,W.sm _ _ g6.at_,cI (by omega),λv U=>?_,λU H8 d8 so=>?_⟩
    ·obtain⟨Y,p,aC,a0⟩:=iV U;have kb:b∈m.map λe=>e.1:=Oq.mpr ⟨Y,p,aC⟩;have b5:=(I.key b).mp kb;refine aj _ _ ⟨rfl,λc u _ z=>W.sm _ _ z,m,I.kyE λc=>⟨.inl,λz=>?_⟩,by omega,N,kb⟩;rcases z with z|z
     ·exact z
     ·rw[z];exact b5
    ·rw[EM U]at d8;have nb:¬dX PS b:=λz=>by
      obtain⟨v,ah⟩:=nQ ((I.key b).mpr z);rw[U]at ah;cases ah
     have np:p7≠C:=λz=>by have:=W.nw;rw[z,F _ _ ap]at this;cases this
     have n2:G p7=none:=by
      cases c:G p7 with
      | none=>rfl
      | some u =>
       have:=F _ _ (b4 _ _ np c);rw[W.nw]at this;cases this
     have nn:∀e∈m,e.2.2 ≠ .ref p7:=λY p z=>by
      obtain⟨d1,bv,a1,a2,_⟩:=s.val Y p;rw[z]at a1;cases a1;have:=F _ _ a2;rw[W.nw]at this;cases this
     refine aj _ _ ⟨rfl,λc u n z=>by rw[so c n];exact W.sm _ _ z,_,I.new nb W.at_ nn d8 so,by rw[Oz];simp;omega,λY p d hd=>?_,by rw[Ot];exact ON _ (Op.mpr Z)⟩;rcases Os.mp p with z|z
     ·exact N Y z d hd
     ·cases Op.mp z;cases hd;exact n2
   ·obtain⟨rfl,b8,g,b1,b9,an,aS⟩:=z;have av:ii C G H8:=λc u n z=>b8 c u n (F _ _ (b4 c u n z));have l8:=av _ _ (aD S dh (by intro z;cases z)) S;have q8:=b8 _ _ (λz=>by have:=g6.nw;rw[z,g5.sm _ _ ap]at this;cases this) g6.at_;have gl:=Jz pf b0 hj;rw[tk]at gl;refine⟨_,.inl (.of l8),?_⟩;rw[On];refine aH (λc=>?A) (λc=>?B)
    case' A =>
     refine⟨_,Z,_,.of l8,λp9 H9 g9=>?_⟩;rw[Pe,show ((j:Int)+1)=((j+1:Nat):Int) by omega,eI,tk]at g9;refine⟨_,.of g9.at_,λa5 L D=>?_⟩;have s8:af H8 L:=g9.sm.trans D.sm;have ay:L a5=some (.tup ((cC rows (b++[x])).map V.int)):=by
      rw[gl,Sc (by have:=Se c;omega)];exact D.at_
     clear g9 D
    case' B =>
     refine⟨sz Z,λa5 L D=>?_⟩;have s8:af H8 L:=D.sm;have ay:L a5=some (.tup ((cC rows (b++[x])).map V.int)):=by
      rw[gl,Sb (λz=>c (Sf (by omega)))];exact D.at_
     clear D
    all_goals
     have J:=b1.same s8;obtain⟨v,U⟩:=nQ aS;obtain⟨Y,p,aC,a0⟩:=iV U;obtain⟨d,ks,a1,a2,a3⟩:=J.val Y p;rw[a0]at a1;subst a1;refine⟨C,p6,g,b,.ref d,Z,Z,J.dq,s8 _ _ q8,U,?_⟩;refine⟨_,.int x,.inl (.of (s8 _ _ l8)),?_,?_⟩
     ·rw[Pe];exact aY (by rw[Ov,hx];rfl)
     refine⟨d,_,rfl,fJ.k (k:=.inl x) a2 (cI (by have:=a3.len;omega)),?_⟩;have nd:G d=none:=an Y p d a0;refine⟨λc u n z=>?_,⟨g,?_,by rw[yf,<- Pr,<- ePS,Oz];exact b9,an⟩,_,_,Z⟩
     ·rw[am (λz'=>by rw[z',nd]at z;cases z)];exact s8 _ _ (av c u n z)
     ·rw[yf,<- Pr,<- ePS,tk];refine (J.put U a2 ay Z).kyE λc=>?_
      constructor
      ·rintro (⟨y,hy⟩|rfl)
       ·exact⟨y,OZ _ hy⟩
       ·exact⟨x,ON _ (Op.mpr Z)⟩
      ·rintro⟨y,hy⟩;rcases Os.mp hy with z|z
       ·exact .inl ⟨y,z⟩
       ·exact .inr (Rj (Op.mp z) Z)
  ·rintro σ H4 ⟨b4,⟨m,s,R,N⟩,v4,v5,rfl⟩;rw[OX]at s R;have et:bf (rows.take (i+1))=bf (rows.take i)++cB e.2 e.2.length:=by
    rw[OU,aB];rw[show (some e.2).toList=[e.2] from rfl,Fi]
   refine⟨b4,⟨m,?_,by rw[et];exact R,N⟩,_,_,_,_,Z⟩;rw[et];exact s
 ·rintro σ H3 ⟨b3,⟨kvs,st,lk,nv⟩,v2,v3,v4,v5,rfl⟩;have sm:af H H3:=λc u e=>b3 c u (λz=>by rw[z,g1.nw]at e;cases e) (s2 _ _ (g1.sm _ _ e));rw[On,b2,<- lr,OK]at st lk;have:=ye (rows:=rows) λr M=>by
   rw[er]at M;obtain⟨O,h1,rfl⟩:=Oq.mp M;exact (ok.sg O h1).2.2.1
  have:=ok.l;rw[er]at st lk;exact k C kvs H3 sm g1.nw st lk
def gv{σ:St}{i:Nat}{v:V}{H:Hp}{Q:VK}(h:σ[i]? = some (some v))(q:Q v H):mV i σ H Q:=by
 unfold mV;rw[h];exact q
def zW{K:PySem.W.Frag}{H:Hp}{a b:Addr}{ns ms:List Int}{neg:Bool}{Q:VK}(d:H a=some (.tup (ns.map V.int)))(c:H b=some (.tup (ms.map V.int)))(q:Q (.bl (if neg then !decide (ns=ms) else decide (ns=ms))) H) :
 gA K neg (.ref a) (.ref b) H Q:=by
 refine⟨_,_,aU.tup (.of d) (dt.ints ns),aU.tup (.of c) (dt.ints ms),QJ ns,QJ ms,?_⟩;have e:PyData.eqv (.tuple (ns.map PyData.int)) (.tuple (ms.map PyData.int))=decide (ns=ms):=by
  show PyData.eqvAll _ _=_;exact PySem.W.ked_eqvAll ns ms
 rw[e];exact q
def c7(rows PS:List (List Int))(b c:List Int)(x:Int):Option ad :=
 if b++[x]∈PS/\c++[x]∈PS/\cC rows (c++[x])≠cC rows (b++[x]) then some (cC rows (b++[x]),cC rows (c++[x])) else none
structure dF (H:Hp) (F:Int->Option ad) (S:Int->Prop) (n:Nat) (ks:List (aw × V)):Prop where
 nd:(ks.map λy=>y.1).Nodup
 int:∀y∈ks,∃x:Int,y.1=.inl x
 yes:∀x g,S x->F x=some g->∃q,aR ks (.inl x)=some (.ref q)/\bc H g q
 no:∀x,(S x->F x=none)->aR ks (.inl x)=none
 len:ks.length<=n
def dF.mono{H H':Hp}{F:Int->Option ad}{S:Int->Prop}{n:Nat}{ks:List (aw × V)}(h:dF H F S n ks)(s:∀q xs,H q=some (.tup xs)->H' q=some (.tup xs)):dF H' F S n ks :=
 ⟨h.nd,h.int,λx g a b=>by
  obtain⟨q,f,c,d,i,e,j⟩:=h.yes x g a b;exact⟨q,f,c,d,s _ _ i,s _ _ e,s _ _ j⟩,h.no,h.len⟩
def dF.skip{H:Hp}{F:Int->Option ad}{S d:Int->Prop}{n:Nat}{ks:List (aw × V)}{x:Int}(h:dF H F S n ks)(hS:∀z,d z ↔ S z\/z=x)(hF:F x=none):dF H F d (n+1) ks:=by
 refine⟨h.nd,h.int,λz g a b=>?_,λz a=>h.no z λc=>a ((hS z).mpr (.inl c)),by have:=h.len;omega⟩;rcases (hS z).mp a with a|a
 ·exact h.yes z g a b
 ·rw[a,hF]at b;cases b
def dF.put{H:Hp}{F:Int->Option ad}{S j:Int->Prop}{n:Nat}{ks:List (aw × V)}{x:Int}{g:ad}{q:Addr}(h:dF H F S n ks)(hS:∀z,j z ↔ S z\/z=x)(hF:F x=some g)(m:bc H g q):dF H F j (n+1) (bu ks (.inl x) (.ref q)):=by
 refine⟨?_,λy hy=>?_,λz g' a b=>?_,λz a=>?_,by have:=jh ks (.inl x) (.ref q);have:=h.len;omega⟩
 ·rcases o9 ks (.inl x) (.ref q) with ⟨_,z2⟩|⟨z,z2⟩
  ·rw[z2];exact h.nd
  ·rw[z2];refine Pd.mpr ⟨h.nd,by simp,λu i v l=>?_⟩;rw[Op.mp l];exact λe=>z (e ▸ i)
 ·have f:y.1∈(bu ks (.inl x) (.ref q)).map λx=>x.1:=Oq.mpr ⟨y,hy,rfl⟩;have d:y.1∈(ks.map λx=>x.1)->∃x:Int,y.1=.inl x:=λz=>by
   obtain⟨u,i,k⟩:=Oq.mp z;obtain⟨x,ex⟩:=h.int u i;exact⟨x,k.symm.trans ex⟩
  rcases o9 ks (.inl x) (.ref q) with ⟨_,z2⟩|⟨_,z2⟩
  ·rw[z2]at f;exact d f
  ·rw[z2]at f;rcases Os.mp f with z|z
   ·exact d z
   ·exact⟨x,Op.mp z⟩
 ·rw[eT];by_cases c:(Sum.inl z:aw)=.inl x
  ·rw[Sc c];cases Sum.inl.inj c;rw[hF]at b;cases b;exact⟨q,Z,m⟩
  ·rw[Sb c];rcases (hS z).mp a with a|a
   ·exact h.yes z g' a b
   ·exact Sd (by rw[a]) c
 ·rw[eT];by_cases c:(Sum.inl z:aw)=.inl x
  ·cases Sum.inl.inj c;have:=a ((hS x).mpr (.inr rfl));rw[hF]at this;cases this
  ·rw[Sb c];exact h.no z λy=>a ((hS z).mpr (.inl y))
def C9:Sp:=λvs H Q _=>∃(p b c:Addr) (rows PS:List (List Int)) (f:List Int->Prop) (kvs:List (aX × Addr × V)) (a e:List Int),vs=[.ref p,.ref b,.ref c]/\cF H p rows PS f kvs/\PS.length<=390 /\
 H b=some (.tup (a.map V.int))/\H c=some (.tup (e.map V.int))/\f a/\f e/\a≠e /\
 ∀d ks H',af H H'->H d=none->H' d=some (.dK ks)->dF H' (c7 rows PS a e) (λ_=>True) 390 ks->Q (.ref d) H'
def Je (T:Txt K mg t):bo P w K mg base "apart_behind" 1 t.vY t.tU ["steps", "one", "other"] C9:=by
 refine⟨T.Ks,T.Bz.kp,T.ML,T.Bz.okQ ou (λvs H Q E h=>by obtain⟨p,b,c,rows,PS,ky,kvs,B,r,rfl,_⟩:=h;rfl) λ_ _ _ _ H vs Q E hr h=>?_⟩;obtain⟨p,b,c,rows,PS,ky,kvs,B,r,rfl,st,lP,hb,hc,aK,aJ,ne,k⟩:=h;have L:=hr.units;refine⟨_,(ao (aF (i:=3) ou.nd Z (.inl Z) oG)
  (ao (rj (bz PassesOwn.never rfl (oC (mP L (aa 0) (aa 1))) (cN (K:=K) rfl rfl (bp (aG (i:=4) ou.nd rfl (.inl rfl)) (bp (aG (i:=5) ou.nd rfl (.inl rfl)) cM))) (ak (be (dQ (gj (aT (sv L) (aa 4) (mP L (aa 0) (aa 2)) (by with_unfolding_all rfl)) (gh (aT (jn (K:=K) rfl L) (oH L (mP L (aa 0) (aa 2)) (aa 4)) (aa 5) (aV _))))) (ak (lC L (aa 3) (aa 4) (bE (ab (aa 5) (ab (oH L (mP L (aa 0) (aa 2)) (aa 4)) ag))))) bi))))
  (ak (aE (aa 3))))),?_⟩
 refine λG H1 F=>?_;have m:=st.same F.sm;obtain⟨v1,ap⟩:=nQ ((m.key B).mpr aK);obtain⟨e1,W,ai,N⟩:=iV ap;obtain⟨d1,d,a1,a2,M⟩:=m.val e1 W;rw[N]at a1;subst a1;obtain⟨v2,J⟩:=nQ ((m.key r).mpr aJ);obtain⟨e2,a6,af,a7⟩:=iV J;obtain⟨d2,a4,b1,b2,Y⟩:=m.val e2 a6;rw[a7]at b1;subst b1;rw[ai]at M;rw[af]at Y;have nd:d2≠d1:=λz=>by
  subst z;exact ne (by rw[<- ai,<- af];exact m.inj e1 W e2 a6 (N.trans a7.symm))
 have C:G≠d1:=λz=>by
  obtain⟨d0,k0,z1,z2,_⟩:=st.val e1 W;rw[N]at z1;cases z1;have:=F.nw;rw[z,z2]at this;cases this
 refine⟨d1,.dK d,(λo v z=>by rw[a2]at z;cases z),?_⟩;refine⟨p,b,kvs,B,.ref d1,Z,Z,m.dq,F.sm _ _ hb,ap,?_⟩;refine⟨d1,d,Z,a2,λob=>?_⟩;obtain⟨I,eH2⟩:∃I,I=upd H1 d1 (.frz ob (.dK d)):=⟨_,rfl⟩;have f2:I d1=some (.frz ob (.dK d)):=by rw[eH2,aP]
 have o2:∀c u,c≠d1->H1 c=some u->I c=some u:=λc u n e=>by rw[eH2,am n];exact e
 have b6:∀c u,c≠d1->I c=some u->H1 c=some u:=λc u n e=>by rw[eH2,am n]at e;exact e
 rw[<- eH2];have aj:DQ I p kvs:=zZ m.dq a2 λc n=>by rw[eH2,am n]
 have aq:∀q xs,H1 q=some (.tup xs)->I q=some (.tup xs):=λq xs z=>o2 _ _ (aD z a2 (by intro z;cases z)) z;have V:=o2 _ _ C F.at_;clear eH2;refine KI (λi σ H'=>ii G I H'/\(∃f,H' G=some (.dK f)/\dF H' (c7 rows PS B r) (λx=>(Sum.inl x:aw)∈(d.take i).map λy=>y.1) i f)/\∃v4 v5,σ=[some (.ref p),some (.ref b),some (.ref c),some (.ref G),v4,v5]) ⟨λc u _ e=>e,⟨[],V,.nil,(λy hy=>nomatch hy),(λx g a=>nomatch a),(λx _=>rfl),Ox _⟩,_,_,rfl⟩ (λi σ H' _ z=>z.1 _ _ C.symm f2) ?_ ?_
 ·rintro i key v pt σ H3 H4 D ⟨b3,⟨f,f3,fn⟩,v4,v5,rfl⟩ U;obtain⟨x,hx⟩:=M.int _ (OA D);have hx:key=.inl x:=hx;subst hx;have hv:=my M.nd D;have inP:B++[x]∈PS:=Classical.byContradiction λz=>by rw[M.no x z]at hv;cases hv
  obtain⟨q1,y1,y2⟩:=M.yes x inP;rw[hv]at y1;cases y1;have hi:i<d.length:=(Ou.mp D).1;have R:ii G I H4:=λc u n e=>U.sm _ _ (b3 c u n e);obtain⟨b7,bk,bf,_⟩:=aj.ex;have ae:∀q xs,I q=some (.tup xs)->q≠G:=λq xs z=>aD z V (by intro z;cases z);have s:∀q xs,H1 q=some (.tup xs)->H4 q=some (.tup xs):=λq xs z=>R _ _ (ae _ _ (aq _ _ z)) (aq _ _ z);have S:DQ H4 p kvs:=by
   obtain⟨⟨xs,ep,h1,h2⟩,kk,n,l⟩:=aj
   exact⟨⟨xs,ep,R _ _ (aD h1 V (by intro z;cases z)) h1,h2⟩,λx hx=>R _ _ (ae _ _ (kk x hx)) (kk x hx),n,l⟩
  have ad:G≠d2:=λz=>by
   obtain⟨d0,k0,z1,z2,_⟩:=st.val e2 a6;rw[a7]at z1;cases z1;have:=F.nw;rw[z,z2]at this;cases this
  have a0:H4 d2=some (.dK a4):=R _ _ ad.symm (o2 _ _ nd b2);have take:∀z:Int,(Sum.inl z:aw)∈((d.take (i+1)).map λy=>y.1) ↔ ((Sum.inl z:aw)∈(d.take i).map λy=>y.1)\/z=x:=λz=>by
   rw[OU,D,Ot,Os]
   constructor
   ·rintro (h|h)
    ·exact .inl h
    ·exact .inr (Sum.inl.inj (Op.mp h))
   ·rintro (h|h)
    ·exact .inl h
    ·exact .inr (by rw[h];exact Op.mpr Z)
  have b0:(Sum.inl x:aw)∉(d.take i).map λy=>y.1:=λz=>by
   obtain⟨j,hj⟩:=OY z;have jl:=(Ou.mp hj).1;rw[On,OG]at jl;rw[Ov,P3 (by omega),<- Ov]at hj;have h2:(d.map λy=>y.1)[i]? = some (Sum.inl x):=by rw[Ov,D];rfl
   have:=(Qq (by rw[On];omega) M.nd).mp (hj.trans h2.symm);omega
  refine⟨pt,_,Z,.of U.at_,Z,?_⟩;refine⟨_,_,Z,_,_,Z,Z,?_⟩;refine⟨p,c,kvs,r,.ref d2,Z,Z,S,s _ _ (F.sm _ _ hc),J,?_⟩;refine⟨d2,_,Z,cw.k (k:=.inl x) a0,?_⟩;have O:=fn.mono λq xs z=>U.sm _ _ z;have al:=s _ _ (F.sm _ _ hc);by_cases inC:r++[x]∈PS
  ·obtain⟨q2,z1,z2⟩:=Y.yes x inC;refine aH (λ_=>?_) (λz=>Sd (show (aR a4 (.inl x)).isSome=true by rw[z1];rfl) z);refine⟨p,c,kvs,r,.ref d2,Z,Z,S,al,J,?_⟩;refine⟨d2,_,rfl,by have:=cw.k (k:=.inl x) a0;rw[z1]at this;exact this,?_⟩;refine gv (by rfl) ?_;refine zW (s _ _ z2) (s _ _ y2) ?_;refine aH (λz=>?_) (λz=>?_)
   ·have aA:cC rows (r++[x])≠cC rows (B++[x]):=λe=>by
     have z:(!decide (cC rows (r++[x])=cC rows (B++[x])))=true:=z;rw[Sf e]at z;cases z
    have hF:c7 rows PS B r x=some (cC rows (B++[x]),cC rows (r++[x])):=Sc ⟨inP,inC,aA⟩;refine⟨p,c,kvs,r,.ref d2,Z,Z,S,al,J,?_⟩;refine⟨d2,_,rfl,by have:=cw.k (k:=.inl x) a0;rw[z1]at this;exact this,?_⟩;refine⟨sz Z,λp6 H6 g6=>?_⟩;refine⟨G,_,rfl,fJ.k (k:=.inl x) (g6.sm _ _ (U.sm _ _ f3)) (cI (by have:=fn.len;have:=M.len;omega)),?_⟩;have f6:=g6.sm _ _ (U.sm _ _ f3);refine⟨λc u n e=>by rw[am n];exact g6.sm _ _ (R c u n e),⟨_,aP,?_⟩,_,_,Z⟩;refine ((O.mono λq xs z=>g6.sm _ _ z).put take hF ⟨q1,q2,g6.at_,g6.sm _ _ (s _ _ y2),g6.sm _ _ (s _ _ z2)⟩).mono λq xs z=>?_;rw[am (aD z f6 (by intro z;cases z))];exact z
   ·have e:cC rows (r++[x])=cC rows (B++[x]):=Classical.byContradiction λe=>z (by show (!decide (cC rows (r++[x])=cC rows (B++[x])))=true;rw[Sh e];rfl);exact⟨R,⟨f,U.sm _ _ f3,O.skip take (Sb λy=>y.2.2 e)⟩,_,_,Z⟩
  ·have z1:=Y.no x inC;refine aH (λz=>Sd (show (aR a4 (.inl x)).isSome=true from z) (by rw[z1];decide)) (λ_=>?_);refine Ic ?_;exact⟨R,⟨f,U.sm _ _ f3,O.skip take (Sb λy=>inC y.2.1)⟩,_,_,Z⟩
 ·rintro σ H3 ⟨b3,⟨f,f3,fn⟩,v4,v5,rfl⟩;refine⟨⟨ob,b3 _ _ C.symm f2⟩,?_⟩;rw[OK]at fn;have nn:G≠d1:=C;refine k G f _ (λc u e=>?_) F.nw (by rw[am nn];exact f3) ?_
  ·by_cases c1:c=d1
   ·subst c1;have:=F.sm _ _ e;rw[a2]at this;rw[aP,<- this]
   ·rw[am c1];exact b3 _ _ (λz=>by rw[z,F.nw]at e;cases e) (o2 _ _ c1 (F.sm _ _ e))
  ·refine (show dF H3 (c7 rows PS B r) (λ_=>True) 390 f from ⟨fn.nd,fn.int,λx g _ hg=>?_,λx hx=>fn.no x λ_=>hx trivial,by have:=fn.len;have:=M.len;omega⟩).mono λq xs z=>by
    rw[am (aD z (b3 _ _ C.symm f2) (by intro z;cases z))];exact z
   refine fn.yes x g ?_ hg;unfold c7 at hg
   split at hg
   ·rename_i z;obtain⟨q,hq,_⟩:=M.yes x z.1;by_cases c1:(Sum.inl x:aw)∈d.map λy=>y.1
    ·exact c1
    ·rw[qI c1]at hq;cases hq
   ·cases hg
structure Gr (H:Hp) (a:Addr) (kvs:List (ad × Addr × V)) (F:ad->Int->Option ad) (N:ad->Prop):Prop where
 dp:DP H a kvs
 key:∀k,k∈kvs.map (λe=>e.1) ↔ N k
 val:∀e∈kvs,∃d ks,e.2.2=.ref d/\H d=some (.dK ks)/\dF H (F e.1) (λ_=>True) 390 ks
def Gr.same{H H':Hp}{a:Addr}{kvs:List (ad × Addr × V)}{F:ad->Int->Option ad}{N:ad->Prop}(h:Gr H a kvs F N)(s:af H H'):Gr H' a kvs F N :=
 ⟨h.dp.same s,h.key,λe f=>let ⟨d,ks,a,b,c⟩:=h.val e f;⟨d,ks,a,s _ _ b,c.mono λq xs z=>s _ _ z⟩⟩
def Gr.nE{H:Hp}{a:Addr}{kvs:List (ad × Addr × V)}{F:ad->Int->Option ad}{N N':ad->Prop}(h:Gr H a kvs F N)(e:∀k,N k ↔ N' k):Gr H a kvs F N':=⟨h.dp,λk=>(h.key k).trans (e k),h.val⟩
def mC{kvs:List (ad × Addr × V)}{b:ad}(h:b∉kvs.map λe=>e.1):aS kvs b=none:=by
 unfold aS;rw[Qe,Pf];intro x hx z;exact h (Oq.mpr ⟨x,hx,Se z⟩)
def ik{kvs:List (ad × Addr × V)}{b:ad}{v:V}(h:aS kvs b=some v):∃e∈kvs,e.1=b/\e.2.2=v:=by
 unfold aS at h;obtain⟨e,a,rfl⟩:=OS.mp h;exact⟨e,Px a,by have z:=PM a;exact Se z,Z⟩
def gO{kvs:List (ad × Addr × V)}{b:ad}(h:b∈kvs.map λe=>e.1):∃v,aS kvs b=some v:=by
 cases e:aS kvs b with
 | some v=>exact⟨v,rfl⟩
 | none =>
  unfold aS at e;rw[Qe,Pf]at e;obtain⟨x,hx,rfl⟩:=Oq.mp h;exact Sd (Sf Z) (e x hx)
def mQ{kvs:List (ad × Addr × V)}{b:ad}{q:Addr}{v:V}(h:aS kvs b=none):cX kvs b q v=kvs++[(b,q,v)]:=by
 unfold cX;rw[h]
 rfl
def Gr.put{H H':Hp}{a q d:Addr}{kvs:List (ad × Addr × V)}{F:ad->Int->Option ad}{N:ad->Prop}{k:ad}{ks:List (aw × V)}(h:Gr H a kvs F N)(p:¬N k)(hd:H d=some (.dK ks))(m:dF H (F k) (λ_=>True) 390 ks)
 (dp:DP H' a (cX kvs k q (.ref d))) (f:∀c,c≠a->H' c=H c):Gr H' a (kvs++[(k,q,.ref d)]) F (λx=>N x\/x=k):=by
 obtain⟨xs,ep,g,_⟩:=h.dp.ex;have j:∀q xs,H q=some (.tup xs)->H' q=some (.tup xs):=λq xs z=>by rw[f q (aD z g (by intro z;cases z))];exact z
 have nv:aS kvs k=none:=mC λz=>p ((h.key k).mp z);rw[mQ nv]at dp;refine⟨dp,λx=>?_,λe b=>?_⟩
 ·rw[Ot,Os,h.key];simp
 ·rcases Os.mp b with b|b
  ·obtain⟨d1,i,n,l,o⟩:=h.val e b;exact⟨d1,i,n,by rw[f d1 (aD l g (by intro z;cases z))];exact l,o.mono j⟩
  ·cases Op.mp b;exact⟨d,ks,rfl,by rw[f d (aD hd g (by intro z;cases z))];exact hd,m.mono j⟩
def oP{α:Type}{ns:List α}{i:Nat}{x:α}(nd:ns.Nodup)(h:ns[i]? = some x):x∉ns.take i:=λz=>by
 obtain⟨j,a⟩:=OY z;have b:=(Ou.mp a).1;rw[OG]at b;rw[P3 (by omega)]at a;have:=(Qq (by omega) nd).mp (a.trans h.symm);omega
def eE{α:Type}{ns:List α}{i:Nat}{x y:α}(h:ns[i]? = some x):y∈ns.take (i+1) ↔ y∈ns.take i\/y=x:=by
 rw[OU,h,Os];exact or_congr Iff.rfl Op
def hE(PS:List (List Int)):ad->Prop:=λk=>dX PS k.1/\dX PS k.2/\k.1≠k.2
def Db:Sp:=λvs H Q _=>∃(p:Addr) (rows PS:List (List Int)) (kvs:List (aX × Addr × V)),vs=[.ref p]/\cF H p rows PS (dX PS) kvs/\PS.length<=390/\kvs.length<=400 /\
 ∀a kvA H',af H H'->H a=none->Gr H' a kvA (λk=>c7 rows PS k.1 k.2) (hE PS)->kvA.length<=kvs.length*kvs.length->Q (.ref a) H'
def Jd (T:Txt K mg t):bo P w K mg base "apart_of" 2 t.vX t.tT ["steps"] Db:=by
 refine⟨T.Kr,T.By.kp,T.MK,T.By.okQ ot (λvs H Q E h=>by obtain⟨p,rows,PS,kvs,rfl,_⟩:=h;rfl) λ_ _ _ _ H vs Q E hr h=>?_⟩;obtain⟨p,rows,PS,kvs,rfl,st,lP,lk,k⟩:=h;have hu:=hr.units;refine⟨_,(ao (aF (i:=1) ot.nd Z (.inl Z) mM)
  (ao (bz PassesOwn.never rfl (xW (aa 0)) (aG (i:=2) ot.nd rfl (.inl rfl)) (ak (bz PassesOwn.never rfl (xW (aa 0)) (aG (i:=3) ot.nd rfl (.inl rfl)) (ak (be (aT (jn (K:=K) rfl hu) (aa 2) (aa 3) (aV _)) (ak (mO hu (aa 1) (bE (ab (aa 2) (ab (aa 3) ag))) (bb (Je T) hr (ab (aa 0) (ab (aa 2) (ab (aa 3) ag)))))) bi)))))
  (ak (aE (aa 1))))),?_⟩
 refine λr H1 F=>?_;obtain⟨ns,f⟩:∃ns,ns=kvs.map λe=>e.1:=⟨_,rfl⟩;have nsN:ns.Nodup:=by rw[f];exact st.dq.nd
 have m:∀b,b∈ns ↔ dX PS b:=λb=>by rw[f];exact st.key b
 have M:ns.length=kvs.length:=by rw[f,On]
 obtain⟨am,aq,N,_⟩:=st.dq.ex;have Y:=st.same F.sm;refine⟨p,kvs,Z,Y.dq,λo L=>?_⟩;rw[F.sm _ _ N]at L;cases L;have G0:Gr H1 r [] (λk=>c7 rows PS k.1 k.2) (λk=>k.1≠k.2/\k.1∈ns.take 0/\k.2∈ns):=⟨DP.new F,λk=>⟨(λz=>nomatch z),(λz=>nomatch z.2.1)⟩,λe he=>nomatch he⟩;refine zS (λi σ H'=>af H H'/\(∃kvA,Gr H' r kvA (λk=>c7 rows PS k.1 k.2) (λk=>k.1≠k.2/\k.1∈ns.take i/\k.2∈ns)/\kvA.length<=kvs.length*i)/\∃W B,σ=[some (.ref p),some (.ref r),W,B]) ⟨F.sm,⟨[],G0,Ox _⟩,_,_,Z⟩ (λi σ H' _ z=>z.1 _ _ N) ?_ ?_
 ·rintro i b G vb σ H2 hi ⟨J,⟨kvA,U,lA⟩,W,B,rfl⟩;have C:ns[i]? = some b:=by rw[f,Ov,hi];rfl
  have bm:b∈ns:=OA C;have il:i<kvs.length:=(Ou.mp hi).1;have s:H G=some (.tup (b.map V.int)):=st.dq.key _ (OA hi);refine⟨p,kvs,Z,(st.same J).dq,λo L=>?_⟩;rw[J _ _ N]at L;cases L;refine zS (λj σ H'=>af H H'/\(∃kvA,Gr H' r kvA (λk=>c7 rows PS k.1 k.2) (λk=>k.1≠k.2/\(k.1∈ns.take i/\k.2∈ns\/k.1=b/\k.2∈ns.take j))/\kvA.length<=kvs.length*i+j)/\∃B,σ=[some (.ref p),some (.ref r),some (.ref G),B]) ⟨J,⟨kvA,U.nE λx=>⟨λz=>⟨z.1,.inl z.2⟩,λz=>⟨z.1,z.2.elim id λy=>nomatch y.2⟩⟩,lA⟩,_,rfl⟩ (λi σ H' _ z=>z.1 _ _ N) ?_ ?_
  ·rintro j c R vc σ H3 S ⟨a,⟨kvB,n,lB⟩,B,rfl⟩;have l:ns[j]? = some c:=by rw[f,Ov,S];rfl
   have cm:c∈ns:=OA l;have jl:j<kvs.length:=(Ou.mp S).1;have D:H R=some (.tup (c.map V.int)):=st.dq.key _ (OA S);dsimp only [bT];unfold iW mB fW;refine gv (v:=.ref G) Z ?_;refine gv (v:=.ref R) Z ?_;refine zW (a _ _ s) (a _ _ D) ?_;refine aH (λz=>?_) (λz=>?_)
   ·have ne:b≠c:=λe=>by
     have z:(!decide (b=c))=true:=z;rw[Sf e]at z;cases z
    refine⟨p,G,R,rows,PS,dX PS,kvs,b,c,Z,st.same a,lP,a _ _ s,a _ _ D,(m b).mp bm,(m c).mp cm,ne,λd ks H4 s4 n4 h4 fd=>?_⟩;refine⟨sz Z,λq5 H5 O=>?_⟩;have g:=s4.trans O.sm;have I:=n.same g;refine⟨r,q5,kvB,(b,c),Z,Z,I.dp,⟨G,R,O.at_,g _ _ (a _ _ s),g _ _ (a _ _ D)⟩,?_,λH6 d6 so=>?_⟩
    ·have:kvs.length*i<=400*400:=Rm lk (by omega);rw[sizeLine_eq];omega
    ·refine⟨λc0 u e=>?_,⟨_,(I.put (k:=(b,c)) (λz=>?_) (O.sm _ _ h4) (fd.mono λq xs z=>O.sm _ _ z) d6 so).nE λx=>?_,by rw[Oz];simp;omega⟩,_,rfl⟩
     ·rw[so c0 (λz=>by rw[z,F.nw]at e;cases e)];exact g _ _ (a _ _ e)
     ·rcases z.2 with z|z
      ·exact oP nsN C z.1
      ·exact oP nsN l z.2
     ·rw[eE l]
      constructor
      ·rintro (z|rfl)
       ·exact⟨z.1,z.2.imp id λy=>⟨y.1,.inl y.2⟩⟩
       ·exact⟨ne,.inr ⟨rfl,.inr rfl⟩⟩
      ·rintro⟨z1,z|⟨z2,z|z⟩⟩
       ·exact .inl ⟨z1,.inl z⟩
       ·exact .inl ⟨z1,.inr ⟨z2,z⟩⟩
       ·exact .inr (Prod.ext z2 z)
   ·have e:b=c:=Classical.byContradiction λe=>z (by show (!decide (b=c))=true;rw[Sh e];rfl);refine⟨a,⟨kvB,n.nE λx=>?_,by omega⟩,_,rfl⟩;rw[eE l]
    constructor
    ·exact λz=>⟨z.1,z.2.imp id λy=>⟨y.1,.inl y.2⟩⟩
    ·rintro⟨z1,z|⟨z2,z|z⟩⟩
     ·exact⟨z1,.inl z⟩
     ·exact⟨z1,.inr ⟨z2,z⟩⟩
     ·exact Sd (z2.trans (e.trans z.symm)) z1
  ·rintro σ H3 ⟨a,⟨kvB,n,lB⟩,B,rfl⟩;refine⟨a,⟨kvB,n.nE λx=>?_,by rw[Nat.mul_succ];exact lB⟩,_,_,Z⟩;rw[<- M,OK,eE C]
   constructor
   ·rintro⟨z1,z|z⟩
    ·exact⟨z1,.inl z.1,z.2⟩
    ·exact⟨z1,.inr z.1,z.2⟩
   ·rintro⟨z1,z|z,z2⟩
    ·exact⟨z1,.inl ⟨z,z2⟩⟩
    ·exact⟨z1,.inr ⟨z,z2⟩⟩
 ·rintro σ H2 ⟨J,⟨kvA,U,lA⟩,W,B,rfl⟩;refine k r kvA H2 J F.nw (U.nE λx=>?_) lA;rw[<- M,OK];show _ ↔ dX PS x.1/\dX PS x.2/\x.1≠x.2;rw[<- m,<- m];exact⟨λz=>⟨z.2.1,z.2.2,z.1⟩,λz=>⟨z.2.2,z.1,z.2.1⟩⟩
def cr(F:ad->Int->Option ad):ad->List Int->Option ad
 | k,[]=>some k
 | k,x::r=>(F k x).bind λg=>cr F g r
def yd(F:ad->Int->Option ad)(k:ad)(r:List Int)(x:Int):cr F k (r++[x])=(cr F k r).bind λg=>F g x:=by
 induction r generalizing k with
 | nil =>
  show (F k x).bind (λg=>some g)=F k x;cases F k x<;>rfl
 | cons y r ih =>
  show (F k y).bind (λg=>cr F g (r++[x]))=((F k y).bind λg=>cr F g r).bind λg=>F g x;cases F k y with
  | none=>rfl
  | some g=>exact ih g
def AX(F:ad->Int->Option ad)(k:ad)(n:Nat):Prop:=∀r g,cr F k r=some g->r.length<=n
def ci(H:Hp)(kvs:List (ad × Addr × V))(k:ad)(q:Addr)(n:Nat)(a:V):Prop:=aS kvs k=some (.ref q)/\H q=some (.tup [.int (n:Int),a])
structure iQ (H:Hp) (a:Addr) (kvs:List (ad × Addr × V)) (F:ad->Int->Option ad) (N:ad->Prop):Prop where
 dp:DP H a kvs
 sub:∀k,k∈kvs.map (λe=>e.1)->N k
 val:∀k,k∈kvs.map (λe=>e.1)->∃q n bv,ci H kvs k q n bv/\(n<=160000/\AX F k n)/\(n=0\/∃x g q' bv',bv=.int x/\F k x=some g/\ci H kvs g q' (n-1) bv')
def ci.key{H:Hp}{kvs:List (ad × Addr × V)}{k:ad}{q:Addr}{n:Nat}{c:V}(h:ci H kvs k q n c):k∈kvs.map λe=>e.1:=by
 obtain⟨e,a,b,_⟩:=ik h.1;exact Oq.mpr ⟨e,a,b⟩
def ci.same{H H':Hp}{kvs:List (ad × Addr × V)}{k:ad}{q:Addr}{n:Nat}{a:V}(h:ci H kvs k q n a)(s:∀q xs,H q=some (.tup xs)->H' q=some (.tup xs)):ci H' kvs k q n a:=⟨h.1,s _ _ h.2⟩
def iQ.same{H H':Hp}{a:Addr}{kvs:List (ad × Addr × V)}{F:ad->Int->Option ad}{N:ad->Prop}(h:iQ H a kvs F N)(s:af H H'):iQ H' a kvs F N :=
 ⟨h.dp.same s,h.sub,λk c=>by
  obtain⟨q,n,d,a,l,b⟩:=h.val k c;refine⟨q,n,d,a.same λq xs z=>s _ _ z,l,b.imp id ?_⟩;rintro⟨x,g,q',bv',b1,b2,b3⟩;exact⟨x,g,q',bv',b1,b2,b3.same λq xs z=>s _ _ z⟩⟩
def ci.one{H:Hp}{kvs:List (ad × Addr × V)}{k:ad}{q f:Addr}{n d:Nat}{g a:V}(h:ci H kvs k q n g)(h':ci H kvs k f d a):q=f/\n=d/\g=a:=by
 obtain⟨j,i⟩:=h;obtain⟨b,c⟩:=h';rw[j]at b;cases b;rw[i]at c
 injection c with e
 injection e with e
 injection e with e1 e2
 injection e2 with e2 _
 injection e1 with e1
 exact⟨rfl,by omega,e2⟩
def CO:Sp:=λvs H Q _=>∃(a b q:Addr) (kvA kvF:List (ad × Addr × V)) (F:ad->Int->Option ad) (N:ad->Prop) (k:ad) (c:Addr) (n:Nat) (d:V),vs=[.ref a,.ref b,.ref q]/\Gr H a kvA F N/\iQ H b kvF F N/\bc H k q/\ci H kvF k c n d /\
 ∀l r H',af H H'->H l=none->H' l=some (.lst (r.map V.int))->r.length=n->(∃g,cr F k r=some g)->Q (.ref l) H'
def IQ (T:Txt K mg t):bo P w K mg base "row_apart" 1 t.vE t.tB ["apart", "far", "pair"] CO:=by
 refine⟨T.J3,T.Bi.kp,T.Ms,T.Bi.okQ om (λvs H Q E h=>by obtain⟨a,R,q,kvA,kvF,F,N,k,qv,n,bv,rfl,_⟩:=h;rfl) λ_ _ _ _ H vs Q E hr h=>?_⟩;obtain⟨a,R,q,kvA,kvF,F,N,k,qv,n,bv,rfl,gr,fr,kq,fv,kk⟩:=h;have S:=hr.units;have nl:n<=160000:=by
  obtain⟨q0,n0,a7,y,l0,_⟩:=fr.val k fv.key;obtain⟨_,rfl,_⟩:=y.one fv;exact l0.1
 refine⟨_,(ao (aF (i:=3) om.nd Z (.inl Z) (bh ag))
  (ao (rn PassesOwn.never (aT sx (aA (Og K) (eW S (aa 1) (aa 2)) aq (λ_ _=>rfl)) aq (aV _)) (ao (aF (i:=4) om.nd rfl (.inl rfl) (aA (Og K) (eW S (aa 1) (aa 2)) aq (λ_ _=>rfl)))
  (ao (cU (dJ (K:=K) rfl O1 O9 Pa eB (aa 3) (ab (aa 4) ag)))
  (ak (aF (i:=2) om.nd rfl (.inl rfl) (oH S (eW S (aa 0) (aa 2)) (aa 4)))))))
  (ak (aE (aa 3))))),?_⟩
 refine⟨sz Z,λl H1 D=>?_⟩;have sl:∀ {H':Hp},ii l H1 H'->af H H':=λ{H'} b c u e=>b c u (λz=>by rw[z,D.nw]at e;cases e) (D.sm _ _ e);refine⟨λm σ H'=>ii l H1 H'/\∃I j s L r v4,σ=[some (.ref a),some (.ref R),some (.ref I),some (.ref l),v4]/\bc H' j I/\ci H' kvF j s m L/\H' l=some (.lst (r.map V.int))/\r.length+m=n/\cr F k r=some j,⟨n,λc u _ e=>e,q,k,qv,bv,[],_,rfl,kq.same D.sm,fv.same λq xs z=>D.sm _ _ z,D.at_,by simp,rfl⟩,?_⟩;rintro m σ U ⟨b2,I,j,s,L,r,v4,rfl,B,f,J,ln,hp⟩;have s2:=sl b2;have p:=fr.same s2;have M:=gr.same s2;refine⟨R,I,kvF,j,.ref s,Z,Z,p.dp,B,f.1,?_⟩;refine⟨_,.int (m:Int),.inr (.of f.2),Z,?_⟩;refine aH (λz=>?_) (λz=>?_)
 ·have mp:0<m:=by have:=Se z;omega
  obtain⟨q0,n0,a7,y,l0,c0⟩:=p.val j f.key;obtain⟨rfl,rfl,rfl⟩:=y.one f;rcases c0 with c0|⟨x,g,q1,bv1,rfl,c2,c3⟩
  ·omega
  obtain⟨v,hv⟩:=gO ((M.key j).mpr (p.sub j f.key));obtain⟨e0,W,a8,a5⟩:=ik hv;obtain⟨d,ks,a1,a2,a3⟩:=M.val e0 W;rw[a5]at a1;subst a1;rw[a8]at a3;obtain⟨qg,y1,y2⟩:=a3.yes x g trivial c2;refine⟨_,λσ' H' h=>⟨n0-1,by omega,h⟩,?_⟩;refine⟨R,I,kvF,j,.ref q0,Z,Z,p.dp,B,f.1,?_⟩;refine⟨_,.int x,.inr (.of f.2),Z,?_⟩;refine⟨.inl ⟨rfl,_,.of J⟩,_,J,?_,?_⟩
  ·rw[On,sizeLine_eq];omega
  obtain⟨C,G⟩:∃C,C=upd U l (.lst (r.map V.int++[.int x])):=⟨_,rfl⟩;have l3:C l=some (.lst ((r++[x]).map V.int)):=by rw[G,aP,Ot];rfl
  have b3:ii l H1 C:=λc u n e=>by rw[G,am n];exact b2 c u n e
  have o:∀q xs,U q=some (.tup xs)->C q=some (.tup xs):=λq xs z=>by rw[G,am (aD z J (by intro z;cases z))];exact z
  rw[<- G];have s3:=sl b3;have Y:=gr.same s3;have d3:C d=some (.dK ks):=by rw[G,am (aD a2 J (by intro z;cases z))];exact a2
  have O:∀ {k:ad} {q:Addr},bc U k q->bc C k q:=λ{k q} h=>by
   obtain⟨c,b,h1,h2,h3⟩:=h;exact⟨c,b,o _ _ h1,o _ _ h2,o _ _ h3⟩
  clear G;refine⟨a,I,kvA,j,.ref d,Z,Z,Y.dp,O B,hv,?_⟩;refine⟨d,_,rfl,by have:=cw.k (k:=.inl x) d3;rw[y1]at this;exact this,?_⟩;refine⟨b3,qg,g,q1,bv1,r++[x],_,rfl,O y2,c3.same o,l3,by rw[Oz];simp;omega,?_⟩;rw[yd,hp];exact c2
 ·have m0:m=0:=by
   cases m with
   | zero=>rfl
   | succ m=>exact Sd (Sf (by omega)) z
  exact kk l r U s2 D.nw J (by omega) ⟨j,hp⟩
structure jy (F:ad->Int->Option ad) (N:ad->Prop) (k:ad) (r:List Int) (kvM:List (ad × Addr × V)):Prop where
 len:kvM.length=r.length
 at_:∀(i:Nat) e,kvM[i]? = some e->e.2.2=.int (i:Int)/\cr F k (r.take i)=some e.1/\N e.1
def EZ(F:ad->Int->Option ad)(k:ad)(r s:List Int):cr F k (r++s)=(cr F k r).bind λg=>cr F g s:=by
 induction r generalizing k with
 | nil=>rfl
 | cons y r ih =>
  show (F k y).bind (λg=>cr F g (r++s))=((F k y).bind λg=>cr F g r).bind λg=>cr F g s;cases F k y with
  | none=>rfl
  | some g=>exact ih g
def Ac{H H':Hp}{a d:Addr}{kvs:List (ad × Addr × V)}{ks:List (aw × V)}(h:DP H a kvs)(hd:H d=some (.dK ks))(s:∀c,c≠d->H' c=H c):DP H' a kvs:=by
 obtain⟨⟨xs,ep,f,g⟩,k,n,l⟩:=h;have e:∀q xs,H q=some (.tup xs)->H' q=some (.tup xs):=λq xs z=>by rw[s q (aD z hd (by intro z;cases z))];exact z
 refine⟨⟨xs,ep,?_,g⟩,λx hx=>?_,n,l⟩
 ·rw[s a (aD f hd (by intro z;cases z))];exact f
 ·obtain⟨c,b,z1,z2,z3⟩:=k x hx;exact⟨c,b,e _ _ z1,e _ _ z2,e _ _ z3⟩
def md{H H':Hp}{a d:Addr}{kvs:List (ad × Addr × V)}{g:List V}(h:DP H a kvs)(hd:H d=some (.lst g))(s:∀c,c≠d->H' c=H c):DP H' a kvs:=by
 obtain⟨⟨xs,ep,f,i⟩,k,n,l⟩:=h;have e:∀q xs,H q=some (.tup xs)->H' q=some (.tup xs):=λq xs z=>by rw[s q (aD z hd (by intro z;cases z))];exact z
 refine⟨⟨xs,ep,?_,i⟩,λx hx=>?_,n,l⟩
 ·rw[s a (aD f hd (by intro z;cases z))];exact f
 ·obtain⟨c,b,z1,z2,z3⟩:=k x hx;exact⟨c,b,e _ _ z1,e _ _ z2,e _ _ z3⟩
def Ll(ns:List Int)(i:Nat):ce (ns.map V.int) (some (i:Int)) none=(ns.drop i).map V.int:=by
 rw[gE,pN]
def CD:Sp:=λvs H Q _=>∃(a b q:Addr) (kvA kvF:List (ad × Addr × V)) (F:ad->Int->Option ad) (N:ad->Prop) (k:ad),vs=[.ref a,.ref b,.ref q]/\Gr H a kvA F N/\kvA.length<=160000/\DP H b kvF/\(∀k x g,N k->F k x=some g->N g) /\
 (∀k,N k->k∉kvF.map (λe=>e.1)->∃x g,F k x=some g/\g∉kvF.map λe=>e.1)/\bc H k q/\N k/\k∉kvF.map (λe=>e.1) /\
 ∀p q' l k' r H',af H H'->H' p=some (.tup [.ref q',.ref l])->H l=none->bc H' k' q'->N k'->H' l=some (.lst (r.map V.int))->r≠[]->r.length<=kvA.length->cr F k' r=some k'->Q (.ref p) H'
def IK (T:Txt K mg t):bo P w K mg base "trip_from" 1 t.vz t.tf ["apart", "far", "pair"] CD:=by
 refine⟨T.JV,T.Bd.kp,T.Mm,T.Bd.okQ mH (λvs H Q E h=>by obtain⟨a,fa,q,kvA,kvF,F,N,k,rfl,_⟩:=h;rfl) λ_ _ _ _ H vs Q E hr h=>?_⟩;obtain⟨a,fa,q,kvA,kvF,F,N,k,rfl,gr,lA,df,cl,out,kq,nk,kf,kk⟩:=h;have hu:=hr.units;refine⟨_,(ao (aF (i:=3) mH.nd Z (.inl Z) (bh ag))
  (ao (aF (i:=4) mH.nd rfl (.inl rfl) mM)
  (ao (rn PassesOwn.never (aT (su hu) (aa 2) (aa 4) (by with_unfolding_all rfl)) (ao (mO hu (aa 4) (aa 2) (bq (Of K) T.n_len OM (ab (aa 3) ag)))
  (ao (rj (oB (i:=5) mH.nd rfl (.inl rfl) rfl (cq.of (fns:=(aj i7).names) (N:=["apart", "far", "pair", "row", "met", "onward"]) (Nc:=["byte", "goal", "far"]) (nv:=2) (caps:=[1]) rfl rfl (by decide +kernel)) (oC (eW hu (aa 0) (aa 2))) (λ_ _ _ _=>(cN (K:=K) rfl (n:=2) rfl (bp (aG (i:=0) (show List.Nodup (["byte", "goal", "far"]:List Str) by decide +kernel) rfl (Or.inl rfl) (Or.inr rfl)) (bp (aG (i:=1) (show List.Nodup (["byte", "goal", "far"]:List Str) by decide +kernel) rfl (Or.inl rfl) (Or.inr rfl)) cM)))) (λ_ _ _ _=>(oz (aT (su hu) (aa 1) (aa 2) (by with_unfolding_all rfl)))) (λ_ _ _ _=>(aa 0))))
  (ao (cU (dJ (K:=K) rfl O1 O9 Pa eB (aa 3) (ab (aA (Og K) (aa 5) aq (λ_ _=>rfl)) ag)))
  (ak (aF (i:=2) mH.nd rfl (.inl rfl) (oH hu (eW hu (aa 0) (aa 2)) (aA (Og K) (aa 5) aq (λ_ _=>rfl)))))))))
  (ak (aE (bE (ab (aa 2) (ab (cb (Oi K) (aa 3) (bN (eW hu (aa 4) (aa 2))) cL) ag)))))))),?_⟩
 refine⟨sz Z,λl H1 g1=>?_⟩;refine λS H2 g2=>?_;have bk:S≠l:=λz=>by have:=g2.nw;rw[z,g1.at_]at this;cases this
 have be:H S=none:=by
  cases c:H S with
  | none=>rfl
  | some u=>have:=g1.sm _ _ c;rw[g2.nw]at this;cases this
 refine⟨λm σ H'=>af H H'/\∃M f r kvM v5,σ=[some (.ref a),some (.ref fa),some (.ref M),some (.ref l),some (.ref S),v5]/\bc H' f M/\N f/\f∉kvF.map (λe=>e.1)/\H' l=some (.lst (r.map V.int))/\DP H' S kvM/\jy F N k r kvM/\cr F k r=some f/\m=kvA.length-kvM.length,⟨kvA.length,g1.sm.trans g2.sm,q,k,[],[],_,rfl,kq.same (g1.sm.trans g2.sm),nk,kf,g2.sm _ _ g1.at_,DP.new g2,⟨rfl,λi e h=>by simp at h⟩,rfl,rfl⟩,?_⟩;rintro m σ H3 ⟨s3,M,f,r,kvM,v5,rfl,C,G,bG,hl,dm,vs,hp,rfl⟩;have aw:=gr.same s3;have mk:∀k0,k0∈kvM.map (λe=>e.1)->k0∈kvA.map λe=>e.1:=λk0 h=>by
  obtain⟨e,he,rfl⟩:=Oq.mp h;obtain⟨i,I⟩:=OY he;exact (aw.key _).mpr (vs.at_ i e I).2.2
 have lM:kvM.length<=kvA.length:=by
  have:=P1 dm.nd mk
  rwa [On,On]at this
 refine⟨M,S,kvM,f,Z,Z,dm,C,?_⟩;refine aH (λz=>?_) (λz=>?_)
 ·have hn:aS kvM f=none:=by
   cases c:aS kvM f with
   | none=>rfl
   | some v =>
    have z:(!(aS kvM f).isSome)=true:=z;rw[c]at z;cases z
  have nm:f∉kvM.map λe=>e.1:=λh=>by
   obtain⟨v,D⟩:=gO h;rw[hn]at D;cases D
  have ka:f∈kvA.map λe=>e.1:=(aw.key f).mpr G;have lt:kvM.length+1<=kvA.length:=by
   have:=P1 (Ph.mpr ⟨nm,dm.nd⟩) (l₂:=kvA.map λe=>e.1) λx hx=>by
    rcases OT.mp hx with h|h
    ·rw[h];exact ka
    ·exact mk x h
   rwa [OV,On,On]at this
  refine⟨_,λσ' H' h=>⟨kvA.length-(kvM.length+1),by omega,h⟩,?_⟩;refine⟨_,.inl (.of hl),?_⟩;refine⟨S,M,kvM,f,rfl,rfl,dm,C,by rw[sizeLine_eq];omega,λW d4 bt=>?_⟩;rw[On,mQ hn]at d4;have a9:∀ {c u},c≠S->H3 c=some u->W c=some u:=λ{c u} n e=>by rw[bt c n];exact e
  obtain⟨c6,c4,bA,_⟩:=dm.ex;have ay:∀q xs,H3 q=some (.tup xs)->W q=some (.tup xs):=λq xs z=>a9 (aD z bA (by intro z;cases z)) z;have s4:af H W:=λc u e=>a9 (λz=>by rw[z,be]at e;cases e) (s3 _ _ e);have aK:=gr.same s4;have bl:=df.same s4;have R:∀ {H H':Hp} {k:ad} {q:Addr},(∀q xs,H q=some (.tup xs)->H' q=some (.tup xs))->bc H k q->bc H' k q:=λs h=>by
   obtain⟨c,b,h1,h2,h3⟩:=h;exact⟨c,b,s _ _ h1,s _ _ h2,s _ _ h3⟩
  have l4:W l=some (.lst (r.map V.int)):=a9 bk.symm hl;obtain⟨v,D⟩:=gO ka;obtain⟨e0,b7,bK,bz⟩:=ik D;obtain⟨d,ks,a1,a2,Y⟩:=aK.val e0 b7;rw[bz]at a1;subst a1;rw[bK]at Y;obtain⟨x1,aM,o1,o2⟩:=out f G bG;obtain⟨qx,y1,_⟩:=Y.yes x1 aM trivial o1;refine⟨d,.dK ks,(λo v z=>by rw[a2]at z;cases z),?_⟩;refine⟨a,M,kvA,f,.ref d,Z,Z,aK.dp,R ay C,D,?_⟩;refine⟨d,ks,Z,a2,λob=>?_⟩;obtain⟨H5,e5⟩:∃H5,H5=upd W d (.frz ob (.dK ks)):=⟨_,rfl⟩;have f5:H5 d=some (.frz ob (.dK ks)):=by rw[e5,aP]
  have b5:∀ {c u},c≠d->W c=some u->H5 c=some u:=λ{c u} n e=>by rw[e5,am n];exact e
  have bD:DP H5 fa kvF:=Ac bl a2 λc n=>by rw[e5,am n]
  have b8:∀q xs,W q=some (.tup xs)->H5 q=some (.tup xs):=λq xs z=>b5 (aD z a2 (by intro z;cases z)) z;rw[<- e5];clear e5;refine uC (K:=K) (λi ys H'=>af H5 H'/\∃bs:List Int,ys=bs.map V.int/\bs.length<=i/\(∀x∈bs,∃g,F f x=some g/\g∉kvF.map λe=>e.1)/\∀j x v,j<i->ks[j]? = some (.inl x,v)->∀g,F f x=some g->g∉kvF.map (λe=>e.1)->bs≠[]) ⟨af.refl _,[],rfl,Ox _,(λx h=>nomatch h),λj x v h=>Sd h (by omega)⟩ (λi ys H' I z=>⟨z.1 _ _ f5,?_⟩) (cy (by have:=Y.len;omega)) (λi ky v ys H6 H7 NN a6 z ba hN=>?_) λys H6 p7 H7 z g7=>?_
  ·obtain⟨_,bs,rfl,lb,_⟩:=z;rw[On];exact lb
  ·obtain⟨s6,bs,rfl,lb,al,ne⟩:=z;obtain⟨x,hx⟩:=Y.int _ (OA a6);have hx:ky=.inl x:=hx;subst hx;have a4:=my Y.nd a6;obtain⟨g,hg⟩:∃g,F f x=some g:=by
    cases c:F f x with
    | some g=>exact⟨g,rfl⟩
    | none=>rw[Y.no x λ_=>c]at a4;cases a4
   obtain⟨qg,w1,w2⟩:=Y.yes x g trivial hg;rw[a4]at w1;cases w1;have p:=s6.trans ba;refine⟨qg,fa,kvF,g,Z,Z,bD.same p,R (λq xs z=>p _ _ (b8 _ _ z)) w2,?_⟩;have bF:∀j x' v',j<i+1->ks[j]? = some (.inl x',v')->j<i\/x'=x:=λj x' v' hj hk=>by
    by_cases c:j=i
    ·subst c;rw[a6]at hk;cases hk;exact .inr Z
    ·exact .inl (by omega)
   refine aH (λz=>?_) (λz=>?_)
   ·have ng:g∉kvF.map λe=>e.1:=λh=>by
     obtain⟨v,D⟩:=gO h;have z:(!(aS kvF g).isSome)=true:=z;rw[D]at z;cases z
    refine hN _ _ ⟨p,bs++[x],by rw[Ot];rfl,by rw[Oz];simp;omega,λy hy=>?_,λ_ _ _ _ _ _ _ _=>by simp⟩;rcases Os.mp hy with h|h
    ·exact al y h
    ·rw[Op.mp h];exact⟨g,hg,ng⟩
   ·have ig:g∈kvF.map λe=>e.1:=Classical.byContradiction λh=>z (by show (!(aS kvF g).isSome)=true;rw[mC h];rfl);refine hN _ _ ⟨p,bs,rfl,by omega,al,λj x' v' hj hk g' a5 aC=>?_⟩;rcases bF j x' v' hj hk with c|c
    ·exact ne j x' v' c hk g' a5 aC
    ·rw[c,hg]at a5;cases a5;exact Sd ig aC
  ·obtain⟨s6,bs,rfl,lb,al,ne⟩:=z;have p:=s6.trans g7.sm;have bn:bs≠[]:=by
    unfold aR at y1;obtain⟨y,hy,_⟩:=OS.mp y1;have ey:y.1=.inl x1:=by have z:=PM hy;exact Se z
    obtain⟨j,hj⟩:=OY (Px hy);exact ne j x1 y.2 (Ou.mp hj).1 (by rw[hj,<- ey]) aM o1 o2
   obtain⟨B,tl,rfl⟩:∃B tl,bs=B::tl:=by
    cases bs with
    | nil=>exact Sd rfl bn
    | cons B tl=>exact⟨B,tl,rfl⟩
   obtain⟨g,hg,ng⟩:=al B (OP ..);obtain⟨qg,w1,w2⟩:=Y.yes B g trivial hg;refine⟨⟨ob,p _ _ f5⟩,?_⟩;obtain⟨U,e8⟩:∃U,U=upd H7 d (.dK ks):=⟨_,rfl⟩;have d8:U d=some (.dK ks):=by rw[e8,aP]
   have J:af W U:=λc u e=>by
    by_cases n:c=d
    ·subst n;rw[a2]at e;cases e;exact d8
    ·rw[e8,am n];exact p _ _ (b5 n e)
   have p8:U p7=some (.lst ((B::tl).map V.int)):=by rw[e8,am (aD g7.at_ (p _ _ f5) (by intro z;cases z))];exact g7.at_
   rw[<- e8];clear e8;have l8:=J _ _ l4;have rl:r.length<=160000:=by have:=vs.len;omega
   have bd:p7≠l:=λz=>by have:=g7.nw;rw[z,s6 _ _ (b5 (aD l4 a2 (by intro z;cases z)) l4)]at this;cases this
   refine⟨.inl ⟨rfl,_,.of l8⟩,_,.int B,.inl (.of p8),aY (j:=0) rfl,_,l8,by rw[On,sizeLine_eq];omega,?_⟩;obtain⟨O,e9⟩:∃O,O=upd U l (.lst (r.map V.int++[.int B])):=⟨_,rfl⟩;have l9:O l=some (.lst ((r++[B]).map V.int)):=by rw[e9,aP,Ot];rfl
   have L:∀c,c≠l->O c=U c:=λc n=>by rw[e9,am n]
   have aJ:∀q xs,U q=some (.tup xs)->O q=some (.tup xs):=λq xs z=>by rw[L q (aD z l8 (by intro z;cases z))];exact z
   have s9:af H O:=λc u e=>by rw[L c (λz=>by rw[z,g1.nw]at e;cases e)];exact J _ _ (s4 _ _ e)
   rw[<- e9];clear e9;have p9:O p7=some (.lst ((B::tl).map V.int)):=by rw[L _ bd];exact p8
   have d9:O d=some (.dK ks):=by rw[L _ (aD d8 l8 (by intro z;cases z))];exact d8
   have aN:∀q xs,H3 q=some (.tup xs)->O q=some (.tup xs):=λq xs z=>aJ _ _ (J _ _ (ay _ _ z));refine⟨a,M,kvA,f,.ref d,Z,Z,(gr.same s9).dp,R aN C,D,?_⟩;refine⟨_,.int B,.inl (.of p9),aY (j:=0) Z,?_⟩;refine⟨d,_,rfl,by have:=cw.k (k:=.inl B) d9;rw[w1]at this;exact this,?_⟩;refine⟨s9,qg,g,r++[B],kvM++[(f,M,.int (r.length:Int))],_,rfl,R (λq xs z=>aJ _ _ (J _ _ z)) w2,cl f B g G hg,ng,l9,md (d4.same J) l8 L,⟨by rw[Oz,Oz,vs.len];rfl,λi e I=>?_⟩,?_,by rw[Oz];rfl⟩
   ·by_cases c:i<kvM.length
    ·rw[Pq c]at I;obtain⟨v1,v2,v3⟩:=vs.at_ i e I;have:=vs.len;exact⟨v1,by rw[RX (by omega)];exact v2,v3⟩
    ·have il:=(Ou.mp I).1;rw[Oz]at il;have il:i<kvM.length+1:=il;have ei:i=kvM.length:=by omega
     subst ei;rw[PC (Oo _),QK]at I;cases I;refine⟨by rw[vs.len],?_,G⟩;rw[vs.len,RX (Oo _),OK];exact hp
   ·rw[yd,hp];exact hg
 ·obtain⟨v,D⟩:∃v,aS kvM f=some v:=by
   cases c:aS kvM f with
   | some v=>exact⟨v,rfl⟩
   | none=>exact Sd (show (!(aS kvM f).isSome)=true by rw[c];rfl) z
  obtain⟨e,he,e1,e2⟩:=ik D;obtain⟨i,I⟩:=OY he;obtain⟨v1,v2,v3⟩:=vs.at_ i e I;rw[e2]at v1;subst v1;rw[e1]at v2;have il:i<r.length:=by have:=(Ou.mp I).1;have:=vs.len;omega
  refine⟨S,M,kvM,f,.int (i:Int),Z,Z,dm,C,D,?_⟩;refine⟨_,Z,_,.of hl,λl5 H5 g5=>?_⟩;refine⟨sz Z,λp6 H6 g6=>?_⟩;have s6:=s3.trans (g5.sm.trans g6.sm);refine kk p6 M l5 f (r.drop i) H6 s6 g6.at_ ?_ (C.same (g5.sm.trans g6.sm)) G ?_ ?_ (by rw[Qk];have:=vs.len;omega) ?_
  ·cases c:H l5 with
   | none=>rfl
   | some u=>have:=s3 _ _ c;rw[g5.nw]at this;cases this
  ·have:=g6.sm _ _ g5.at_;rw[Ll]at this;exact this
  ·intro c;have:=congrArg List.length c;rw[Qk]at this;simp at this;omega
  ·have:=EZ F k (r.take i) (r.drop i);rw[P0,hp,v2]at this;exact this.symm
def CC:Sp:=λvs H Q _=>∃(q l:Addr) (k:ad),vs=[.ref q,.ref l]/\bc H k q /\
 ∀p l1 l2 H',af H H'->H' p=some (.tup [.ref l1,.ref l2,.ref l])->H l1=none->H l2=none->l1≠l2->H' l1=some (.lst (k.1.map V.int))->H' l2=some (.lst (k.2.map V.int))->Q (.ref p) H'
def zu (T:Txt K mg t):bo P w K mg base "witness" 1 t.vx t.sZ ["pair", "row"] CC:=by
 refine⟨T.JU,T.Bc.kp,T.Ml,T.Bc.okQ Dq (λvs H Q E h=>by obtain⟨q,l,k,rfl,_⟩:=h;rfl) λ_ _ _ _ H vs Q E o h=>?_⟩;obtain⟨q,l,k,rfl,⟨c,b,g,m,j⟩,n⟩:=h;have v:=o.units;refine⟨_,(ak (aE (bE (ab (cO (Oh K) T.n_list O8 (ab (aA (Og K) (aa 0) aq (λ_ _=>rfl)) ag)) (ab (cO (Oh K) T.n_list O8 (ab (aA (Og K) (aa 0) aq (λ_ _=>rfl)) ag)) (ab (aa 1) ag)))))),?_⟩;refine⟨_,.ref c,.inr (.of g),Z,?_⟩;refine⟨_,.inr (.of m),λl1 x a=>?_⟩;refine⟨_,.ref b,.inr (.of (a.sm _ _ g)),Z,?_⟩;refine⟨_,.inr (.of (a.sm _ _ j)),λf s d=>?_⟩;refine⟨sz Z,λp i e=>?_⟩;have r:H f=none:=by
  cases c:H f with
  | none=>rfl
  | some u=>have:=a.sm _ _ c;rw[d.nw]at this;cases this
 exact n p l1 f i (a.sm.trans (d.sm.trans e.sm)) e.at_ a.nw r (λz=>by have:=d.nw;rw[<- z,a.at_]at this;cases this) (e.sm _ _ (d.sm _ _ a.at_)) (e.sm _ _ d.at_)
def iR(H:Hp)(F:Int->Option ad)(y:aw × V)(e:Int × ad):Prop:=y.1=.inl e.1/\F e.1=some e.2/\∃q,y.2=.ref q/\bc H e.2 q
def KZ{H:Hp}{F:Int->Option ad}{n:Nat}{ks:List (aw × V)}(h:dF H F (λ_=>True) n ks):∃es:List (Int × ad),aN (iR H F) ks es:=by
 have all:∀y∈ks,∃e,iR H F y e:=λy hy=>by
  obtain⟨i,j⟩:=OY hy;obtain⟨x,hx⟩:=h.int y hy;have a:=my (k:=y.1) (v:=y.2) h.nd j;rw[hx]at a;cases c:F x with
  | none=>rw[h.no x λ_=>c]at a;cases a
  | some g =>
   obtain⟨q,b,d⟩:=h.yes x g trivial c;rw[a]at b;exact⟨(x,g),hx,c,q,OI b,d⟩
 clear h
 induction ks with
 | nil=>exact⟨[],aN.nil⟩
 | cons y ks ih =>
  obtain⟨e,f⟩:=all y (OP ..);obtain⟨es,h⟩:=ih λz hz=>all z (OQ _ hz);exact⟨e::es,aN.cons f h⟩
structure nO (H:Hp) (a:Addr) (kvs:List (ad × Addr × V)) (F:ad->Int->Option ad) (N:ad->Prop) (E:ad->List (Int × ad)):Prop where
 dp:DP H a kvs
 key:∀k,k∈kvs.map (λe=>e.1) ↔ N k
 val:∀e∈kvs,∃d ks,e.2.2=.ref d/\H d=some (.dK ks)/\dF H (F e.1) (λ_=>True) 390 ks/\aN (iR H (F e.1)) ks (E e.1)
def iR.mono{H H':Hp}{F:Int->Option ad}{ks:List (aw × V)}{es:List (Int × ad)}(h:aN (iR H F) ks es)(s:∀q xs,H q=some (.tup xs)->H' q=some (.tup xs)):aN (iR H' F) ks es :=
 h.imp λy e ⟨a,b,q,c,x,y,z1,z2,z3⟩=>⟨a,b,q,c,x,y,s _ _ z1,s _ _ z2,s _ _ z3⟩
def nO.same{H H':Hp}{a:Addr}{kvs:List (ad × Addr × V)}{F:ad->Int->Option ad}{N:ad->Prop}{E:ad->List (Int × ad)}(h:nO H a kvs F N E)(s:af H H'):nO H' a kvs F N E :=
 ⟨h.dp.same s,h.key,λe g=>let ⟨d,ks,a,b,c,f⟩:=h.val e g;⟨d,ks,a,s _ _ b,c.mono λq xs z=>s _ _ z,iR.mono f λq xs z=>s _ _ z⟩⟩
def yB{kvs:List (ad × Addr × V)}(nd:(kvs.map λe=>e.1).Nodup){e a:ad × Addr × V}(h:e∈kvs)(h':a∈kvs)(k:e.1=a.1):e=a:=by
 obtain⟨i,c⟩:=OY h;obtain⟨j,b⟩:=OY h';have l1:=(Ou.mp c).1;have f:(kvs.map λe=>e.1)[i]? = some a.1:=by rw[Ov,c];exact congrArg some k
 have d:(kvs.map λe=>e.1)[j]? = some a.1:=by rw[Ov,b];rfl
 have:=(Qq (by rw[On];exact l1) nd).mp (f.trans d.symm);subst this;rw[c]at b;cases b;rfl
def Jx{H:Hp}{a:Addr}{kvs:List (ad × Addr × V)}{F:ad->Int->Option ad}{N:ad->Prop}(h:Gr H a kvs F N):∃E,nO H a kvs F N E:=by
 have all:∀k,∃es,∀e∈kvs,e.1=k->∃d ks,e.2.2=.ref d/\H d=some (.dK ks)/\dF H (F e.1) (λ_=>True) 390 ks/\aN (iR H (F e.1)) ks es:=λk=>by
  by_cases c:k∈kvs.map λe=>e.1
  ·obtain⟨e,b,rfl⟩:=Oq.mp c;obtain⟨d,ks,l,j,i⟩:=h.val e b;obtain⟨es,m⟩:=KZ i;refine⟨es,λn f g=>?_⟩;cases yB h.dp.nd f b g;exact⟨d,ks,l,j,i,m⟩
  ·exact⟨[],λe b g=>Sd (Oq.mpr ⟨e,b,g⟩) c⟩
 exact⟨λk=>Classical.choose (all k),h.dp,h.key,λe b=>Classical.choose_spec (all e.1) e b Z⟩
structure bK (H:Hp) (a:Addr) (kvs:List (ad × Addr × V)) (N:ad->Prop) (ed:List (ad × ad)):Prop where
 dp:DP H a kvs
 key:∀k,k∈kvs.map (λe=>e.1) ↔ N k
 val:∀e∈kvs,∃l qs,e.2.2=.ref l/\H l=some (.lst (qs.map V.ref))/\aN (λq p=>bc H p q) qs ((ed.filter λpg=>decide (pg.2=e.1)).map λpg=>pg.1)
 inj:∀e∈kvs,∀e'∈kvs,e.2.2=e'.2.2->e.1=e'.1
def bK.nE{H:Hp}{a:Addr}{kvs:List (ad × Addr × V)}{N N':ad->Prop}{b:List (ad × ad)}(h:bK H a kvs N b)(e:∀k,N k ↔ N' k):bK H a kvs N' b:=⟨h.dp,λk=>(h.key k).trans (e k),h.val,h.inj⟩
def bK.same{H H':Hp}{a:Addr}{kvs:List (ad × Addr × V)}{N:ad->Prop}{d:List (ad × ad)}(h:bK H a kvs N d)(s:af H H'):bK H' a kvs N d :=
 ⟨h.dp.same s,h.key,λe f=>let ⟨l,qs,a,b,c⟩:=h.val e f;⟨l,qs,a,s _ _ b,c.imp λq p z=>z.same s⟩,h.inj⟩
def bY{H H':Hp}{k:ad}{q:Addr}(h:bc H k q)(s:∀q xs,H q=some (.tup xs)->H' q=some (.tup xs)):bc H' k q:=by
 obtain⟨c,b,d,e,a⟩:=h;exact⟨c,b,s _ _ d,s _ _ e,s _ _ a⟩
def bK.but{H H':Hp}{a d:Addr}{kvs:List (ad × Addr × V)}{N:ad->Prop}{g:List (ad × ad)}{u:HO}(h:bK H a kvs N g)(hd:H d=some u)(m:∀xs,u ≠ .tup xs)(I:∀xs,u ≠ .lst xs)(G:∀f,u ≠ .ext f)(s:∀c,c≠d->H' c=H c):bK H' a kvs N g:=by
 have b:∀q xs,H q=some (.tup xs)->H' q=some (.tup xs):=λq xs z=>by rw[s q (aD z hd (m xs).symm)];exact z
 obtain⟨⟨⟨xs,ep,j,o⟩,k,n,l⟩,F,r,v⟩:=h;refine⟨⟨⟨xs,ep,by rw[s a (aD j hd (G _).symm)];exact j,o⟩,λx hx=>bY (k x hx) b,n,l⟩,F,λe y=>?_,v⟩;obtain⟨l,B,C,i,D⟩:=r e y;exact⟨l,B,C,by rw[s l (aD i hd (I _).symm)];exact i,D.imp λq p z=>bY z b⟩
def bK.put{H H':Hp}{a l q:Addr}{kvs:List (ad × Addr × V)}{N:ad->Prop}{v:List (ad × ad)}{p g:ad}{s:List V}(h:bK H a kvs N v)(C:aS kvs g=some (.ref l))(o:H l=some (.lst s))(D:bc H p q)
 (u:H'=upd H l (.lst (s++[.ref q]))):bK H' a kvs N (v++[(p,g)]):=by
 have k:∀c,c≠l->H' c=H c:=λc n=>by rw[u,am n]
 have j:∀q xs,H q=some (.tup xs)->H' q=some (.tup xs):=λq xs z=>by rw[k q (aD z o (by intro z;cases z))];exact z
 obtain⟨B,d,f,b⟩:=ik C;refine⟨md h.dp o k,h.key,λe r=>?_,h.inj⟩;obtain⟨l1,x,i,m,y⟩:=h.val e r;by_cases c:l1=l
 ·subst c;have F:e.1=g:=by rw[<- f];exact h.inj e r B d (i.trans b.symm)
  rw[o]at m;cases m;refine⟨l1,x++[q],i,by rw[u,aP,Ot];rfl,?_⟩;rw[Qd,Ot];refine aN.app (y.imp λq p z=>bY z j) ?_;rw[List.filter_cons_of_pos (by exact Sf F.symm)];exact aN.cons (bY D j) aN.nil
 ·refine⟨l1,x,i,by rw[k l1 c];exact m,?_⟩;have G:¬g=e.1:=λz=>by
   cases yB h.dp.nd r d (z.symm.trans f.symm);rw[i]at b;cases b;exact c Z
  rw[Qd,List.filter_cons_of_neg (by simpa using G),List.filter_nil,Pg];exact y.imp λq p z=>bY z j
def bK.new{H H':Hp}{a l q:Addr}{kvs:List (ad × Addr × V)}{N:ad->Prop}{k:ad}(h:bK H a kvs N [])(s:¬N k)(m:H l=some (.lst []))(n:∀e∈kvs,e.2.2 ≠ .ref l)
 (dp:DP H' a (cX kvs k q (.ref l))) (f:∀c,c≠a->H' c=H c):bK H' a (kvs++[(k,q,.ref l)]) (λx=>N x\/x=k) []:=by
 obtain⟨xs,ep,j,_⟩:=h.dp.ex;have nv:aS kvs k=none:=mC λz=>s ((h.key k).mp z);rw[mQ nv]at dp;refine⟨dp,λx=>?_,λe d=>?_,λe d g b z=>?_⟩
 ·rw[Ot,Os,h.key];simp
 ·rcases Os.mp d with d|d
  ·obtain⟨l1,o,p,i,r⟩:=h.val e d;have:o=[]:=Qn r.1;subst this;exact⟨l1,[],p,by rw[f l1 (aD i j (by intro z;cases z))];exact i,aN.nil⟩
  ·cases Op.mp d;exact⟨l,[],rfl,by rw[f l (aD m j (by intro z;cases z))];exact m,aN.nil⟩
 ·rcases Os.mp d with d|d<;>rcases Os.mp b with b|b
  ·exact h.inj e d g b z
  ·cases Op.mp b;exact Sd z (n e d)
  ·cases Op.mp d;exact Sd z.symm (n g b)
  ·cases Op.mp d;cases Op.mp b
   rfl
def c5(E:ad->List (Int × ad))(ks:List ad):List (ad × ad):=ks.flatMap λk=>(E k).map λa=>(k,a.2)
def KW(E:ad->List (Int × ad))(ks:List ad)(k:ad):c5 E (ks++[k])=c5 E ks++(E k).map λa=>(k,a.2):=by
 unfold c5;rw[Rk];simp
def KY{E:ad->List (Int × ad)}{ks:List ad}(h:∀k∈ks,(E k).length<=390):(c5 E ks).length<=390*ks.length:=by
 induction ks with
 | nil=>exact Ox _
 | cons k ks ih =>
  have c:=h k (OP ..);have b:=ih λx hx=>h x (OQ _ hx);show (((E k).map λa=>(k,a.2))++c5 E ks).length<=_;rw[Oz,On,OV];omega
def AS(H:Hp)(kvs:List (ad × Addr × V)):Prop:=∀e∈kvs,∀l,e.2.2=.ref l->H l=none
def Dc:Sp:=λvs H Q _=>∃(a:Addr) (kvA:List (ad × Addr × V)) (F:ad->Int->Option ad) (N:ad->Prop) (E:ad->List (Int × ad)),vs=[.ref a]/\nO H a kvA F N E/\(∀k x g,N k->F k x=some g->N g)/\kvA.length<=40000 /\
 ∀fd kvH H',af H H'->H fd=none->bK H' fd kvH N (c5 E (kvA.map λe=>e.1))->AS H kvH->Q (.ref fd) H'
def Jf (T:Txt K mg t):bo P w K mg base "ahead_of" 1 t.vZ t.tV ["apart"] Dc:=by
 refine⟨T.Ku,T.BA.kp,T.MM,T.BA.okQ jU (λvs H Q E h=>by obtain⟨a,kvA,F,N,E,rfl,_⟩:=h;rfl) λ_ _ _ _ H vs Q E hr h=>?_⟩;obtain⟨a,kvA,F,N,E,rfl,B,cl,lA,kk⟩:=h;have hu:=hr.units;refine⟨_,(ao (aF (i:=1) jU.nd Z (.inl Z) mM)
  (ao (bz PassesOwn.never rfl (xX (aa 0)) (aG (i:=2) jU.nd rfl (.inl rfl)) (ak (mO hu (aa 1) (aa 2) (bh ag))))
  (ao (bz PassesOwn.never rfl (ro (aa 0)) (cN (K:=K) rfl rfl (bp (aG (i:=2) jU.nd rfl (.inl rfl)) (bp (aG (i:=3) jU.nd rfl (.inl rfl)) cM))) (ak (rj (bz PassesOwn.never rfl (Ek (aa 3)) (aG (i:=4) jU.nd rfl (.inl rfl)) (ak (cU (dJ (K:=K) rfl O1 O9 Pa eB (eW hu (aa 1) (aa 4)) (ab (aa 2) ag))))))))
  (ak (aE (aa 1)))))),?_⟩
 refine λm H1 S=>?_;obtain⟨ns,g⟩:∃ns,ns=kvA.map λe=>e.1:=⟨_,rfl⟩;have nsN:ns.Nodup:=by rw[g];exact B.dp.nd
 have a5:ns.length=kvA.length:=by rw[g,On]
 have lE:∀k∈ns,(E k).length<=390:=λk hk=>by
  rw[g]at hk;obtain⟨e,s,rfl⟩:=Oq.mp hk;obtain⟨d,ks,_,_,a3,a4⟩:=B.val e s;have:=a3.len;have:=a4.1;omega
 obtain⟨b7,aZ,dh,_⟩:=B.dp.ex;refine⟨a,kvA,Z,B.dp.same S.sm,λo ho=>?_⟩;rw[S.sm _ _ dh]at ho;cases ho;have A0:bK H1 m [] (λk=>k∈ns.take 0) []:=by
  refine⟨DP.new S,λk=>⟨λz=>?_,λz=>?_⟩,λe s=>?_,λe s=>?_⟩
  ·cases z
  ·cases z
  ·cases s
  ·cases s
 refine KJ (λi σ H'=>af H H'/\(∃kvH,bK H' m kvH (λk=>k∈ns.take i) []/\AS H kvH/\kvH.length<=i)/\∃I J y,σ=[some (.ref a),some (.ref m),I,J,y]) ⟨S.sm,⟨[],A0,(λe s=>by cases s),Ox _⟩,_,_,_,rfl⟩ (λi σ H' _ z=>z.1 _ _ dh) ?_ ?_
 ·rintro i k V v σ H2 L ⟨U,⟨kvH,ah,nw,lH⟩,I,J,y,rfl⟩;have C:ns[i]? = some k:=by rw[g,Ov,L];rfl
  have il:i<kvA.length:=(Ou.mp L).1;have M:bc H k V:=B.dp.key _ (OA L);refine⟨sz Z,λl H3 g3=>?_⟩;have O:=U.trans g3.sm;have f:=ah.same g3.sm;refine⟨m,V,kvH,k,rfl,rfl,f.dp,M.same O,by rw[sizeLine_eq];omega,λH4 Y so=>?_⟩;have nl:H l=none:=by
   cases c:H l with
   | none=>rfl
   | some u=>have:=U _ _ c;rw[g3.nw]at this;cases this
  have aB:=f.new (k:=k) (q:=V) (oP nsN C) g3.at_ (λe s z=>by
   obtain⟨l1,qs,R,D,_⟩:=ah.val e s;rw[z]at R;cases R;rw[g3.nw]at D;cases D) Y so
  refine⟨λc u e=>by rw[so c (λz=>by rw[z,S.nw]at e;cases e)];exact O _ _ e,⟨_,aB.nE λx=>(eE C).symm,λe s l1 a7=>?_,by rw[Oz];simp;omega⟩,_,_,_,rfl⟩;rcases Os.mp s with h|h
  ·exact nw e h l1 a7
  ·cases Op.mp h;cases a7;exact nl
 ·rintro σ H2 ⟨U,⟨kvH,ah,nw,lH⟩,I,J,y,rfl⟩;have av:bK H2 m kvH N (c5 E (ns.take 0)):=ah.nE λx=>by
   rw[<- a5,OK,g];exact B.key x
  clear ah;refine⟨a,kvA,Z,B.dp.same U,λo ho=>?_⟩;rw[U _ _ dh]at ho;cases ho;refine zR (λi σ H'=>af H H'/\bK H' m kvH N (c5 E (ns.take i))/\∃I J y,σ=[some (.ref a),some (.ref m),I,J,y]) ⟨U,av,_,_,_,Z⟩ (λi σ H' _ z=>z.1 _ _ dh) ?_ ?_
  ·rintro i k V v pt σ H3 H4 L ⟨O,f,I,J,y,rfl⟩ g4;have C:ns[i]? = some k:=by rw[g,Ov,L];rfl
   have il:i<kvA.length:=(Ou.mp L).1;have em:=OA L;have M:bc H k V:=B.dp.key _ em;have nk:N k:=(B.key k).mp (Oq.mpr ⟨_,em,rfl⟩);obtain⟨d,ks,R,D,a3,a4⟩:=B.val _ em;have R:v=.ref d:=R;subst R;have s4:=O.trans g4.sm;have Y:=s4 _ _ D;have lk:=a3.len;refine⟨pt,_,Z,.of g4.at_,Z,?_⟩;refine⟨_,_,Z,_,_,Z,Z,?_⟩;refine⟨d,.dK ks,(λo v z=>by rw[Y]at z;cases z),?_⟩;refine⟨d,ks,Z,Y,λob=>?_⟩;obtain⟨H5,e5⟩:∃H5,H5=upd H4 d (.frz ob (.dK ks)):=⟨_,rfl⟩;have f5:H5 d=some (.frz ob (.dK ks)):=by rw[e5,aP]
   have b5:∀c u,c≠d->H c=some u->H5 c=some u:=λc u n e=>by rw[e5,am n];exact s4 _ _ e
   have aw:bK H5 m kvH N (c5 E (ns.take i)):=(f.same g4.sm).but Y (λ_ z=>nomatch z) (λ_ z=>nomatch z) (λ_ z=>nomatch z) λc n=>by rw[e5,am n]
   rw[<- e5];clear e5;have el:(c5 E (ns.take i)).length<=390*40000:=by
    have:=KY (E:=E) (ks:=ns.take i) λk hk=>lE k (Pj hk);rw[OG]at this;omega
   refine KG (λj σ H'=>(∀c u,c≠d->H c=some u->H' c=some u)/\H' d=some (.frz ob (.dK ks))/\bK H' m kvH N (c5 E (ns.take i)++((E k).take j).map λr=>(k,r.2))/\∃y,σ=[some (.ref a),some (.ref m),some (.ref V),some (.ref d),y]) ⟨b5,f5,by simpa using aw,_,rfl⟩ (λi σ H' _ z=>z.2.1) ?_ ?_
   ·rintro j ky vv σ H6 hj ⟨b6,f6,b,y,rfl⟩;obtain⟨r,hx,r1,r2,qg,r3,r4⟩:=a4.right hj;have r3:vv=.ref qg:=r3;subst r3;have r2:F k r.1=some r.2:=r2;have a6:∀q xs,H q=some (.tup xs)->H6 q=some (.tup xs):=λq xs z=>b6 _ _ (aD z D (by intro z;cases z)) z;have ng:N r.2:=cl k r.1 r.2 nk r2;obtain⟨vl,G⟩:=gO ((b.key r.2).mpr ng);obtain⟨e0,W,bd,a8⟩:=ik G;obtain⟨l,qs,c1,c2,c3⟩:=b.val e0 W;rw[a8]at c1;subst c1;have jl:j<ks.length:=(Ou.mp hj).1;have lq:qs.length<=390*40000+390:=by
     rw[c3.1,On];refine OJ (Rn _ _) ?_;rw[Oz,On,OG];omega
    refine⟨m,qg,kvH,r.2,.ref l,Z,Z,b.dp,bY r4 a6,G,?_⟩;refine⟨.inl ⟨rfl,_,.of c2⟩,_,c2,by rw[On,sizeLine_eq];omega,?_⟩;have nl:=nw e0 W l a8;have aA:d≠l:=λz=>by rw[z,nl]at D;cases D
    refine⟨λc u n e=>by rw[am (λz=>by rw[z,nl]at e;cases e)];exact b6 c u n e,by rw[am aA];exact f6,?_,_,Z⟩;have:=b.put (p:=k) G c2 (bY M a6) rfl;rw[OU,hx,Ot,<- Pr];exact this
   ·rintro σ H6 ⟨b6,f6,b,y,rfl⟩;refine⟨⟨ob,f6⟩,λc u e=>?_,?_,_,_,_,Z⟩
    ·by_cases n:c=d
     ·subst n;rw[D]at e;cases e;rw[aP]
     ·rw[am n];exact b6 c u n e
    ·have et:c5 E (ns.take (i+1))=c5 E (ns.take i)++(E k).map λr=>(k,r.2):=by
      rw[OU,C];exact KW E _ k
     rw[show (E k).take ks.length=E k from Ps (P2 a4.1.symm),<- et]at b;exact b.but f6 (λ_ z=>nomatch z) (λ_ z=>nomatch z) (λ_ z=>nomatch z) λc n=>by rw[am n]
  ·rintro σ H3 ⟨O,f,I,J,y,rfl⟩;rw[<- a5,OK,g]at f;exact kk m kvH H3 O S.nw f nw
def gP(e:ad × Addr × V)(kvs:List (ad × Addr × V))(x:ad):aS (e::kvs) x=if e.1=x then some e.2.2 else aS kvs x:=by
 unfold aS;rw[OR];by_cases c:e.1=x
 ·rw[Sc c,Sf c];rfl
 ·rw[Sb c,Sh c]
def qJ(kvs:List (ad × Addr × V))(k:ad)(b:Addr)(v:V)(x:ad):aS (cX kvs k b v) x=if x=k then some v else aS kvs x:=by
 have snoc:∀kvs:List (ad × Addr × V),aS kvs k=none->aS (kvs++[(k,b,v)]) x=if x=k then some v else aS kvs x:=by
  intro kvs
  induction kvs with
  | nil =>
   intro _;show aS [(k,b,v)] x=_;rw[gP];by_cases c:x=k
   ·rw[Sc c,Sc c.symm]
   ·rw[Sb c,Sb (Ne.symm c)]
  | cons e kvs ih =>
   intro h;rw[gP]at h;have ne:¬e.1=k:=λz=>by rw[Sc z]at h;cases h
   rw[Sb ne]at h;rw[QV,gP,gP,ih h];by_cases c:e.1=x
   ·rw[Sc c,Sc c,Sb (λz=>ne (c.trans z))]
   ·rw[Sb c,Sb c]
 have mp:∀kvs:List (ad × Addr × V),(aS kvs k).isSome=true->aS (kvs.map λy=>if y.1=k then (y.1,y.2.1,v) else y) x=if x=k then some v else aS kvs x:=by
  intro kvs
  induction kvs with
  | nil=>intro h;cases h
  | cons e kvs ih =>
   intro h;rw[OD,gP,gP];rw[gP]at h;by_cases ek:e.1=k
   ·rw[Sc ek];by_cases c:e.1=x
    ·rw[Sc (show (e.1,e.2.1,v).1=x from c),Sc (c.symm.trans ek)]
    ·rw[Sb (show ¬(e.1,e.2.1,v).1=x from c),Sb (λz=>c (ek.trans z.symm)),Sb c];have nx:¬x=k:=λz=>c (ek.trans z.symm);clear ih h
     induction kvs with
     | nil=>rfl
     | cons y kvs ih2 =>
      rw[OD,gP,gP,ih2];by_cases yk:y.1=k
      ·rw[Sc yk,Sb (show ¬(y.1,y.2.1,v).1=x from λz=>nx (z.symm.trans yk)),Sb (λz=>nx (z.symm.trans yk))]
      ·rw[Sb yk]
   ·rw[Sb ek]at h ⊢;rw[ih h];by_cases c:e.1=x
    ·rw[Sc c,Sc c,Sb (λz=>ek (c.trans z))]
    ·rw[Sb c,Sb c]
 unfold cX;by_cases h:(aS kvs k).isSome=true
 ·rw[Sc h];exact mp kvs h
 ·rw[Sb h];exact snoc kvs (Option.not_isSome_iff_eq_none.mp h)
structure c8 (H:Hp) (a:Addr) (kvs:List (ad × Addr × V)) (N:ad->Prop) (c:ad->Nat):Prop where
 dp:DP H a kvs
 val:∀k,N k->aS kvs k=some (.int (c k:Int))
 sub:∀k,(aS kvs k).isSome=true->N k
def c8.same{H H':Hp}{a:Addr}{kvs:List (ad × Addr × V)}{N:ad->Prop}{c:ad->Nat}(h:c8 H a kvs N c)(s:af H H'):c8 H' a kvs N c:=⟨h.dp.same s,h.val,h.sub⟩
def c8.put{H H':Hp}{a b:Addr}{kvs:List (ad × Addr × V)}{N N':ad->Prop}{c d:ad->Nat}{k:ad}{m:Nat}(h:c8 H a kvs N c)(dp:DP H' a (cX kvs k b (.int (m:Int))))(hN:∀x,N' x ↔ N x\/x=k)(f:d k=m)(g:∀x,x≠k->d x=c x):c8 H' a (cX kvs k b (.int (m:Int))) N' d:=by
 refine⟨dp,λx hx=>?_,λx hx=>?_⟩
 ·rw[qJ];by_cases e:x=k
  ·rw[Sc e,e,f]
  ·rw[Sb e,g x e];exact h.val x (((hN x).mp hx).resolve_right e)
 ·rw[qJ]at hx;by_cases e:x=k
  ·exact (hN x).mpr (.inr e)
  ·rw[Sb e]at hx;exact (hN x).mpr (.inl (h.sub x hx))
def bR(E:ad->List (Int × ad))(S:List ad)(p:ad):Nat:=((E p).filter λa=>decide (a.2∉S)).length
def Gg(E:ad->List (Int × ad))(S:List ad)(g p:ad)(f:g∉S):bR E S p=bR E (S++[g]) p+((E p).filter λh=>decide (h.2=g)).length:=by
 unfold bR
 induction E p with
 | nil=>rfl
 | cons y ys ih =>
  rw[Qr,Qr,Qr];by_cases c:y.2=g
  ·rw[Sc (Sf (by rw[c];exact f)),Sb (by rw[decide_eq_true_iff,c];simp),Sc (Sf c),OV,OV,ih];omega
  ·have e:¬decide (y.2=g)=true:=by rw[decide_eq_true_iff];exact c
   by_cases d:y.2∈S
   ·have b:¬decide (y.2∉S)=true:=by rw[decide_eq_true_iff];exact λz=>z d
    have a:¬decide (y.2∉S++[g])=true:=by rw[decide_eq_true_iff];exact λz=>z (OZ _ d)
    rw[Sb b,Sb a,Sb e,ih]
   ·have b:decide (y.2∉S)=true:=Sf d;have a:decide (y.2∉S++[g])=true:=Sf (by
     rw[Os];rintro (z|z)
     ·exact d z
     ·exact c (Op.mp z))
    rw[Sc b,Sc a,Sb e,OV,OV,ih];omega
def yx{E:ad->List (Int × ad)}{S:List ad}{p:ad}:bR E S p=0 ↔ ∀a∈E p,a.2∈S:=by
 unfold bR;rw[List.length_eq_zero_iff,Rf]
 constructor
 ·intro h a hx;have:=h a hx;rw[decide_eq_true_iff]at this;exact Classical.byContradiction this
 ·intro h a hx;rw[decide_eq_true_iff];exact λz=>z (h a hx)
def Lo(E:ad->List (Int × ad))(ks:List ad)(nd:ks.Nodup)(g p:ad):(((c5 E ks).filter λpg=>decide (pg.2=g)).map λpg=>pg.1).count p=if p∈ks then ((E p).filter λa=>decide (a.2=g)).length else 0:=by
 induction ks with
 | nil=>rfl
 | cons k ks ih =>
  obtain⟨b,e⟩:=Ph.mp nd;show (((((E k).map λa=>(k,a.2))++c5 E ks).filter λpg=>decide (pg.2=g)).map λpg=>pg.1).count p=_;rw[Qd,Ot,List.count_append,ih e];have one:∀l:List (Int × ad),(((l.map λa=>(k,a.2)).filter λpg=>decide (pg.2=g)).map λpg=>pg.1)=List.replicate (l.filter λa=>decide (a.2=g)).length k:=by
   intro l
   induction l with
   | nil=>rfl
   | cons y l ih =>
    rw[OD,Qr,Qr];by_cases c:y.2=g
    ·rw[Sc (Sf c),Sc (Sf c),OD,ih,OV,PD]
    ·rw[Sb (by rw[decide_eq_true_iff];exact c),Sb (by rw[decide_eq_true_iff];exact c),ih]
  rw[one,List.count_replicate];by_cases c:p=k
  ·subst c;rw[Sc (by simp),Sb b,Sc (OP ..)];omega
  ·rw[Sb (by simpa using Ne.symm c)];by_cases d:p∈ks
   ·rw[Sc d,Sc (OQ _ d)];omega
   ·rw[Sb d,Sb (λz=>(OT.mp z).elim c d)]
structure cS (H:Hp) (a:Addr) (kvs:List (ad × Addr × V)) (F:ad->Int->Option ad) (N:ad->Prop):Prop where
 dp:DP H a kvs
 sub:∀k,k∈kvs.map (λe=>e.1)->N k
 val:∀k,k∈kvs.map (λe=>e.1)->∃q n bv,ci H kvs k q n bv/\(n<=kvs.length/\AX F k n)/\(n=0\/∃x g q' bv',bv=.int x/\F k x=some g/\ci H kvs g q' (n-1) bv')
def cS.far{H:Hp}{a:Addr}{kvs:List (ad × Addr × V)}{F:ad->Int->Option ad}{N:ad->Prop}(h:cS H a kvs F N)(l:kvs.length<=160000):iQ H a kvs F N :=
 ⟨h.dp,h.sub,λk d=>let ⟨q,n,bv,a,b,c⟩:=h.val k d;⟨q,n,bv,a,⟨OJ b.1 l,b.2⟩,c⟩⟩
def cS.same{H H':Hp}{a:Addr}{kvs:List (ad × Addr × V)}{F:ad->Int->Option ad}{N:ad->Prop}(h:cS H a kvs F N)(s:af H H'):cS H' a kvs F N :=
 ⟨h.dp.same s,h.sub,λk c=>by
  obtain⟨q,n,d,a,l,b⟩:=h.val k c;refine⟨q,n,d,a.same λq xs z=>s _ _ z,l,b.imp id ?_⟩;rintro⟨x,g,q',bv',b1,b2,b3⟩;exact⟨x,g,q',bv',b1,b2,b3.same λq xs z=>s _ _ z⟩⟩
def cS.nil{H:Hp}{a:Addr}{F:ad->Int->Option ad}{N:ad->Prop}(h:DP H a []):cS H a [] F N:=by
 refine⟨h,λk b=>?_,λk b=>?_⟩
 ·cases b
 ·cases b
def cS.put{H H':Hp}{a b q:Addr}{kvs:List (ad × Addr × V)}{F:ad->Int->Option ad}{N:ad->Prop}{k:ad}{n:Nat}{C:V}(h:cS H a kvs F N)(I:k∉kvs.map λe=>e.1)(O:N k)(R:H q=some (.tup [.int (n:Int),C]))
 (G:n=0\/∃x g f d,C=.int x/\F k x=some g/\0<n/\ci H kvs g f (n-1) d) (U:∀x g,F k x=some g->∃f m d,ci H kvs g f m d/\m+1<=n) (dp:DP H' a (cX kvs k b (.ref q))) (L:∀c,c≠a->H' c=H c):cS H' a (kvs++[(k,b,.ref q)]) F N:=by
 obtain⟨xs,ep,S,_⟩:=h.dp.ex;have D:∀q xs,H q=some (.tup xs)->H' q=some (.tup xs):=λq xs z=>by rw[L q (aD z S (by intro z;cases z))];exact z
 have nv:aS kvs k=none:=mC I;have J:∀x,aS (kvs++[(k,b,V.ref q)]) x=if x=k then some (.ref q) else aS kvs x:=λx=>by rw[<- mQ nv];exact qJ ..
 have u:∀ {g f m d},ci H kvs g f m d->ci H' (kvs++[(k,b,V.ref q)]) g f m d:=λ{g f m d} z=>⟨by rw[J,Sb (λe=>by have:=z.key;rw[e]at this;exact I this)];exact z.1,D _ _ z.2⟩;rw[mQ nv]at dp;have ll:(kvs++[(k,b,V.ref q)]).length=kvs.length+1:=by rw[Oz];rfl
 refine⟨dp,λx hx=>?_,λx hx=>?_⟩
 ·rw[Ot]at hx;rcases Os.mp hx with z|z
  ·exact h.sub x z
  ·rw[Op.mp z];exact O
 ·rw[Ot]at hx;rcases Os.mp hx with z|z
  ·obtain⟨v,B,j,p,o,M⟩:=h.val x z;refine⟨v,B,j,u p,⟨by rw[ll];have:=o.1;omega,o.2⟩,M.imp id ?_⟩;rintro⟨y,g,f,d,i,s,b3⟩;exact⟨y,g,f,d,i,s,u b3⟩
  ·rw[Op.mp z];refine⟨q,n,C,⟨by rw[J,Sc rfl],D _ _ R⟩,⟨?_,?_⟩,G.imp id ?_⟩
   ·rw[ll];rcases G with z|⟨y,g,f,d,i,s,b3,b4⟩
    ·omega
    ·obtain⟨v,B,j,p,o,_⟩:=h.val g b4.key;obtain⟨_,e,_⟩:=p.one b4;have:=o.1;omega
   ·intro r g l;cases r with
    | nil=>exact Ox _
    | cons y r =>
     have l:(F k y).bind (λg=>cr F g r)=some g:=l;cases c:F k y with
     | none=>rw[c]at l;cases l
     | some g1 =>
      rw[c]at l;obtain⟨f,m,d,i,s⟩:=U y g1 c;obtain⟨v,B,j,p,o,_⟩:=h.val g1 i.key;obtain⟨_,e,_⟩:=p.one i;have:=o.2 r g l;rw[OV];omega
   ·rintro⟨y,g,f,d,i,s,_,b4⟩;exact⟨y,g,f,d,i,s,u b4⟩
def C3:Sp:=λvs H Q _=>∃(a:Addr) (kvA:List (ad × Addr × V)) (F:ad->Int->Option ad) (N:ad->Prop),vs=[.ref a]/\Gr H a kvA F N/\(∀k x g,N k->F k x=some g->N g)/\kvA.length<=40000 /\
 ∀fa kvF H',af H H'->H fa=none->iQ H' fa kvF F N->(∀k,N k->k∉kvF.map (λe=>e.1)->∃x g,F k x=some g/\g∉kvF.map λe=>e.1)->Q (.ref fa) H'
structure Lp (H0 H:Hp) (a fa fd un kl:Addr) (kvA kvH:List (ad × Addr × V)) (F:ad->Int->Option ad) (N:ad->Prop) (E:ad->List (Int × ad)) (kvF kvU:List (ad × Addr × V)) (qs:List Addr) (kn:List ad):Prop where
 sm:af H0 H
 far:cS H fa kvF F N
 unk:c8 H un kvU N (bR E (kvF.map λe=>e.1))
 ah:bK H fd kvH N (c5 E (kvA.map λe=>e.1))
 ls:H kl=some (.lst (qs.map V.ref))
 kq:aN (λq p=>bc H p q) qs kn
 nd:kn.Nodup
 out:∀p∈kn,p∉kvF.map (λe=>e.1)/\N p
 zero:∀p,N p->(bR E (kvF.map λe=>e.1) p=0 ↔ p∈kn\/p∈kvF.map λe=>e.1)
def cS.butL{H H':Hp}{a d:Addr}{kvs:List (ad × Addr × V)}{F:ad->Int->Option ad}{N:ad->Prop}{e:List V}(h:cS H a kvs F N)(hd:H d=some (.lst e))(s:∀c,c≠d->H' c=H c):cS H' a kvs F N:=by
 have b:∀q xs,H q=some (.tup xs)->H' q=some (.tup xs):=λq xs z=>by rw[s q (aD z hd (by intro z;cases z))];exact z
 refine⟨md h.dp hd s,h.sub,λk l=>?_⟩;obtain⟨q,n,m,i,f,j⟩:=h.val k l;refine⟨q,n,m,i.same b,f,j.imp id ?_⟩;rintro⟨x,g,q',bv',b1,b2,b3⟩;exact⟨x,g,q',bv',b1,b2,b3.same b⟩
def bK.butL{H H':Hp}{a d:Addr}{kvs:List (ad × Addr × V)}{N:ad->Prop}{b:List (ad × ad)}{j:List V}(h:bK H a kvs N b)(hd:H d=some (.lst j))(o:∀e∈kvs,e.2.2 ≠ .ref d)(s:∀c,c≠d->H' c=H c):bK H' a kvs N b:=by
 have i:∀q xs,H q=some (.tup xs)->H' q=some (.tup xs):=λq xs z=>by rw[s q (aD z hd (by intro z;cases z))];exact z
 refine⟨md h.dp hd s,h.key,λe f=>?_,h.inj⟩;obtain⟨l,k,g,m,n⟩:=h.val e f;exact⟨l,k,g,by rw[s l (λz=>o e f (by rw[g,z]))];exact m,n.imp λq p z=>bY z i⟩
def uf{H H':Hp}{a d:Addr}{kvs:List (ad × Addr × V)}{f:Heap->Prop}(h:DP H a kvs)(hd:H d=some (.ext f))(ne:a≠d)(s:∀c,c≠d->H' c=H c):DP H' a kvs:=by
 obtain⟨⟨xs,ep,b,e⟩,k,n,l⟩:=h;have g:∀q xs,H q=some (.tup xs)->H' q=some (.tup xs):=λq xs z=>by rw[s q (aD z hd (by intro z;cases z))];exact z
 exact⟨⟨xs,ep,by rw[s a ne];exact b,e⟩,λx hx=>bY (k x hx) g,n,l⟩
def bK.butD{H H':Hp}{a d:Addr}{kvs:List (ad × Addr × V)}{N:ad->Prop}{b:List (ad × ad)}{f:Heap->Prop}(h:bK H a kvs N b)(hd:H d=some (.ext f))(ne:a≠d)(s:∀c,c≠d->H' c=H c):bK H' a kvs N b:=by
 have i:∀q xs,H q=some (.tup xs)->H' q=some (.tup xs):=λq xs z=>by rw[s q (aD z hd (by intro z;cases z))];exact z
 refine⟨uf h.dp hd ne s,h.key,λe j=>?_,h.inj⟩;obtain⟨l,k,m,g,n⟩:=h.val e j;exact⟨l,k,m,by rw[s l (aD g hd (by intro z;cases z))];exact g,n.imp λq p z=>bY z i⟩
def cS.butD{H H':Hp}{a d:Addr}{kvs:List (ad × Addr × V)}{F:ad->Int->Option ad}{N:ad->Prop}{f:Heap->Prop}(h:cS H a kvs F N)(hd:H d=some (.ext f))(ne:a≠d)(s:∀c,c≠d->H' c=H c):cS H' a kvs F N:=by
 have b:∀q xs,H q=some (.tup xs)->H' q=some (.tup xs):=λq xs z=>by rw[s q (aD z hd (by intro z;cases z))];exact z
 refine⟨uf h.dp hd ne s,h.sub,λk l=>?_⟩;obtain⟨q,n,m,i,e,j⟩:=h.val k l;refine⟨q,n,m,i.same b,e,j.imp id ?_⟩;rintro⟨x,g,q',bv',b1,b2,b3⟩;exact⟨x,g,q',bv',b1,b2,b3.same b⟩
def c8.cE{H:Hp}{a:Addr}{kvs:List (ad × Addr × V)}{N:ad->Prop}{c d:ad->Nat}(h:c8 H a kvs N c)(e:∀k,N k->c k=d k):c8 H a kvs N d:=⟨h.dp,λk b=>by rw[<- e k b];exact h.val k b,h.sub⟩
def c8.len{H:Hp}{a:Addr}{kvs kvA:List (ad × Addr × V)}{N:ad->Prop}{c:ad->Nat}(h:c8 H a kvs N c)(k:∀k,N k->k∈kvA.map λe=>e.1):kvs.length<=kvA.length:=by
 have:=P1 h.dp.nd (l₂:=kvA.map λe=>e.1) λx hx=>k x (h.sub x (by obtain⟨v,b⟩:=gO hx;rw[b];rfl))
 rwa [On,On]at this
def Ja (T:Txt K mg t):bo P w K mg base "farthest" 2 t.vT t.tP ["apart"] C3:=by
 refine⟨T.Kk,T.Bu.kp,T.MG,T.Bu.okQ gR (λvs H Q E h=>by obtain⟨a,kvA,F,N,rfl,_⟩:=h;rfl) λ_ _ _ _ H vs Q E hr h=>?_⟩;obtain⟨a,kvA,F,N,rfl,W,cl,lA,kk⟩:=h;obtain⟨E,ge⟩:=Jx W;have hu:=hr.units;refine⟨_,(ao (aF (i:=1) gR.nd Z (.inr Z) mM)
  (ao (aF (i:=2) gR.nd rfl (.inl rfl) (bb (Jf T) hr (ab (aa 0) ag)))
  (ao (aF (i:=3) gR.nd rfl (.inl rfl) mM)
  (ao (bz PassesOwn.never rfl (ro (aa 0)) (cN (K:=K) rfl rfl (bp (aG (i:=4) gR.nd rfl (.inl rfl)) (bp (aG (i:=5) gR.nd rfl (.inl rfl)) cM))) (ak (mO hu (aa 3) (aa 4) (bq LO T.n_len OM (ab (aa 5) ag)))))
  (ao (oB (i:=6) gR.nd rfl (.inl rfl) rfl (cq.of (fns:=(aj iw).names) (N:=["apart", "far", "ahead", "unknown", "pair", "behind", "known", "earlier"]) (Nc:=["pair", "behind"]) (nv:=2) (caps:=[]) rfl rfl (by decide +kernel)) (ro (aa 0)) (λ_ _ _ _=>(cN (K:=K) rfl (n:=2) rfl (bp (aG (i:=0) (show List.Nodup (["pair", "behind"]:List Str) by decide +kernel) rfl (Or.inl rfl) (Or.inr rfl)) (bp (aG (i:=1) (show List.Nodup (["pair", "behind"]:List Str) by decide +kernel) rfl (Or.inl rfl) (Or.inr rfl)) cM)))) (λ_ _ _ _=>(oz (fz (xV (aa 1))))) (λ_ _ _ _=>(aa 0)))
  (ao (rn PassesOwn.never (gY (K:=K) rfl (aa 6)) (ao (aF (i:=4) gR.nd rfl (.inl rfl) (Ev (K:=K) rfl O1 PySem.F.slot_list_pop PySem.F.type_list_pop GG (aa 6)))
  (ao (mO hu (aa 1) (aa 4) (ED hr (rk (fA rfl (cq.of (fns:=(aj iw).names) (N:=["apart", "far", "ahead", "unknown", "pair", "behind", "known", "earlier"]) (Nc:=["byte", "goal", "far"]) (nv:=2) (caps:=[1]) rfl rfl (by decide +kernel)) (oC (eW hu (aa 0) (aa 4))) (λ_ _ _ _=>(cN (K:=K) rfl (n:=2) rfl (bp (aG (i:=0) (show List.Nodup (["byte", "goal", "far"]:List Str) by decide +kernel) rfl (Or.inl rfl) (Or.inr rfl)) (bp (aG (i:=1) (show List.Nodup (["byte", "goal", "far"]:List Str) by decide +kernel) rfl (Or.inl rfl) (Or.inr rfl)) cM)))) (λ_ _ _ _=>fu) (λ_ _ _ _=>(bE (ab (bG (Oj K) (aA (Og K) (eW hu (aa 2) (aa 1)) aq (λ_ _=>rfl)) aq) (ab (aa 0) ag)))))) (bE (ab aq (ab bL ag))) T.n_max rfl))
  (ak (bz PassesOwn.never rfl (cV (K:=K) rfl (eW hu (aa 2) (aa 4))) (aG (i:=7) gR.nd rfl (.inl rfl)) (ao (EH hu (aa 3) (aa 7) aq zd)
  (ak (be (aT (cK (K:=K) rfl hu) (eW hu (aa 3) (aa 7)) aq (aV _)) (ak (cU (dJ (K:=K) rfl O1 O9 Pa eB (aa 6) (ab (aa 7) ag)))) bi))))))))
  (ak (aE (aa 1))))))))),?_⟩
 refine λfa H1 g1=>?_;refine⟨a,kvA,F,N,E,Z,ge.same g1.sm,cl,lA,λfd kvH H2 s2 n2 ah nw=>?_⟩;refine λun H3 g3=>?_;obtain⟨ns,au⟩:∃ns,ns=kvA.map λe=>e.1:=⟨_,rfl⟩;have nsN:ns.Nodup:=by rw[au];exact W.dp.nd
 have bX:ns.length=kvA.length:=by rw[au,On]
 obtain⟨eL,ez,dh,_⟩:=W.dp.ex;have s3:af H H3:=g1.sm.trans (s2.trans g3.sm);have cT:fd≠fa:=λz=>by rw[z,g1.at_]at n2;cases n2
 obtain⟨ew,eI,dN,_⟩:=ah.dp.ex;have bQ:un≠fa:=λz=>by have:=g3.nw;rw[z,s2 _ _ g1.at_]at this;cases this
 have d2:un≠fd:=λz=>by have:=g3.nw;rw[z,dN]at this;cases this
 have aZ:H un=none:=by
  cases c:H un with
  | none=>rfl
  | some u=>have:=s2 _ _ (g1.sm _ _ c);rw[g3.nw]at this;cases this
 refine⟨a,kvA,Z,W.dp.same s3,λo ho=>?_⟩;rw[s3 _ _ dh]at ho;cases ho;have U0:c8 H3 un [] (λk=>k∈ns.take 0) (bR E []):=⟨DP.new g3,(λk hk=>by cases hk),λk hk=>by cases hk⟩;refine zR (λi σ H'=>(∀c u,c≠un->H3 c=some u->H' c=some u)/\(∃kvU,c8 H' un kvU (λk=>k∈ns.take i) (bR E [])/\kvU.length<=i)/\∃v4 v5 v6 v7,σ=[some (.ref a),some (.ref fa),some (.ref fd),some (.ref un),v4,v5,v6,v7]) ⟨λc u _ e=>e,⟨[],U0,Ox _⟩,_,_,_,_,rfl⟩ (λi σ H' _ z=>z.1 _ _ (λe=>by rw[<- e,dh]at aZ;cases aZ) (s3 _ _ dh)) ?_ ?_
 ·rintro i k qb v pt σ H4 H5 hi ⟨b4,⟨kvU,uk,lU⟩,v4,v5,v6,v7,rfl⟩ g5;have aw:ns[i]? = some k:=by rw[au,Ov,hi];rfl
  have il:i<kvA.length:=(Ou.mp hi).1;have em:=OA hi;have c7:bc H k qb:=W.dp.key _ em;obtain⟨d,ks,a1,a2,a3,a4⟩:=ge.val _ em;have a1:v=.ref d:=a1;subst a1;have b5:∀c u,c≠un->H3 c=some u->H5 c=some u:=λc u n e=>g5.sm _ _ (b4 c u n e);have s5:af H H5:=λc u e=>b5 c u (λz=>by rw[z,aZ]at e;cases e) (s3 _ _ e);refine⟨pt,_,Z,.of g5.at_,Z,?_⟩;refine⟨_,_,Z,_,_,Z,Z,?_⟩;refine⟨d,ks.length,Z,.inl ⟨ks,s5 _ _ a2,Z⟩,?_⟩;refine⟨un,qb,kvU,k,rfl,rfl,uk.dp.same g5.sm,c7.same s5,by rw[sizeLine_eq];omega,λH6 d6 so=>?_⟩;refine⟨λc u n e=>by rw[so c n];exact b5 c u n e,⟨_,(uk.same g5.sm).put (m:=ks.length) d6 (λx=>eE aw) ?_ (λ_ _=>rfl),by have:=ya kvU k qb (.int (ks.length:Int));omega⟩,_,_,_,_,rfl⟩;unfold bR;rw[RY.mpr (λy _=>by simp)];exact a4.1.symm
 ·rintro σ H4 ⟨b4,⟨kvU,uk,lU⟩,v4,v5,v6,v7,rfl⟩;have dO:c8 H4 un kvU N (bR E []):=by
   refine⟨uk.dp,λk hk=>uk.val k ?_,λk hk=>?_⟩
   ·rw[<- bX,OK,au];exact (W.key k).mpr hk
   ·have:=uk.sub k hk;rw[<- bX,OK,au]at this;exact (W.key k).mp this
  have s4:af H H4:=λc u e=>b4 c u (λz=>by rw[z,aZ]at e;cases e) (s3 _ _ e);have dG:∀p,bR E [] p=(E p).length:=λp=>by unfold bR;rw[RY.mpr (λy _=>by simp)]
  clear uk;refine⟨a,kvA,Z,W.dp.same s4,λo ho=>?_⟩;rw[s4 _ _ dh]at ho;cases ho;refine Lv (K:=K) (λi ys H'=>af H4 H'/\∃B G,ys=B.map V.ref/\aN (λq p=>bc H' p q) B G/\G.Nodup/\(∀p∈G,p∈ns.take i)/\(∀p∈ns.take i,bR E [] p=0 ↔ p∈G)/\B.length<=i) ⟨af.refl _,[],[],rfl,aN.nil,.nil,(λp h=>by cases h),(λp h=>by cases h),Ox _⟩ (λi ys H' hi z=>⟨z.1 _ _ (s4 _ _ dh),?_⟩) (cy (by omega)) (λi k qb v ys H5 H6 NN bx z c6 hN=>?_) λys H5 kl H6 z g6=>?_
  ·obtain⟨_,B,G,rfl,_,_,_,_,l⟩:=z;rw[On];exact l
  ·obtain⟨s5,B,G,rfl,al,nd,sub,aW,lq⟩:=z;have aw:ns[i]? = some k:=by rw[au,Ov,bx];rfl
   have em:=OA bx;have c7:bc H k qb:=W.dp.key _ em;obtain⟨d,ks,a1,a2,a3,a4⟩:=ge.val _ em;have a1:v=.ref d:=a1;subst a1;have ay:=s5.trans c6;have s6:af H H6:=s4.trans ay;have le:bR E [] k=ks.length:=by rw[dG];exact a4.1.symm
   have nk:=oP nsN aw;refine⟨d,ks.length,Z,.inl ⟨ks,s6 _ _ a2,Z⟩,?_⟩;refine aH (λz=>?_) (λz=>?_)
   ·have l0:ks.length=0:=by
     have z:(!(ks.length != 0))=true:=z;simpa using z
    refine hN _ _ ⟨ay,B++[qb],G++[k],by rw[Ot];rfl,aN.app (al.imp λq p z=>z.same c6) (aN.cons (c7.same s6) aN.nil),?_,λp r=>?_,λp r=>?_,by rw[Oz];simp;omega⟩
    ·refine Pd.mpr ⟨nd,by simp,λu hu v hv e=>?_⟩;rw[Op.mp hv]at e;exact nk (e ▸ sub u hu)
    ·rw[eE aw];rcases Os.mp r with h|h
     ·exact .inl (sub p h)
     ·exact .inr (Op.mp h)
    ·rw[eE aw]at r;rw[Os];by_cases c:p=k
     ·exact⟨λ_=>.inr (by rw[c];exact Op.mpr rfl),λ_=>by rw[c,le,l0]⟩
     ·rw[aW p (r.resolve_right c)];exact⟨.inl,λh=>h.elim id λh=>Sd (Op.mp h) c⟩
   ·have l0:ks.length≠0:=λc=>z (by show (!(ks.length != 0))=true;rw[c];rfl);refine hN _ _ ⟨ay,B,G,rfl,al.imp λq p z=>z.same c6,nd,λp r=>(eE aw).mpr (.inl (sub p r)),λp r=>?_,by omega⟩;rw[eE aw]at r;by_cases c:p=k
    ·exact⟨λh=>Sd (by rw[<- le,<- c];exact h) l0,λh=>Sd (by rw[<- c];exact sub p h) nk⟩
    ·exact aW p (r.resolve_right c)
  ·obtain⟨s5,cR,cJ,rfl,al,nd,sub,aW,lq⟩:=z;have ay:=s5.trans g6.sm;have s6:af H H6:=s4.trans ay;have cD:∀c u,c≠un->H3 c=some u->H6 c=some u:=λc u n e=>ay _ _ (b4 c u n e);rw[<- bX,OK]at sub aW;have dd:H kl=none:=by
    cases c:H kl with
    | none=>rfl
    | some u=>have:=s5 _ _ (s4 _ _ c);rw[g6.nw]at this;cases this
   have L0:Lp H H6 a fa fd un kl kvA kvH F N E [] kvU cR cJ:=by
    refine⟨s6,cS.nil ((DP.new g1).same λc u e=>?_),dO.same ay,ah.same λc u e=>?_,g6.at_,al.imp λq p z=>z.same g6.sm,nd,λp r=>⟨(λz=>by cases z),(W.key p).mp (by rw[<- au];exact sub p r)⟩,λp r=>?_⟩
    ·exact cD _ _ (λz=>by have:=g3.nw;rw[<- z,s2 _ _ e]at this;cases this) (g3.sm _ _ (s2 _ _ e))
    ·exact cD _ _ (λz=>by have:=g3.nw;rw[<- z,e]at this;cases this) (g3.sm _ _ e)
    ·rw[show ([]:List (ad × Addr × V)).map (λe=>e.1)=[] from rfl,aW p (by rw[au];exact (W.key p).mpr r)];exact⟨.inl,λh=>h.elim id λh=>by cases h⟩
   have c9:∀e∈kvH,e.2.2 ≠ .ref kl:=λe he z=>by
    obtain⟨l,B,c1,c2,_⟩:=ah.val e he;rw[z]at c1;cases c1;have:=s5 _ _ (b4 _ _ (λz=>by have:=g3.nw;rw[<- z,c2]at this;cases this) (g3.sm _ _ c2));rw[g6.nw]at this;cases this
   refine⟨λm σ H'=>∃kvF kvU B G v4 v5 v7,σ=[some (.ref a),some (.ref fa),some (.ref fd),some (.ref un),v4,v5,some (.ref kl),v7]/\Lp H H' a fa fd un kl kvA kvH F N E kvF kvU B G/\kvU.length<=kvA.length/\m=kvA.length-kvF.length,⟨_,[],kvU,cR,cJ,_,_,_,Z,L0,lU,Z⟩,?_⟩;rintro m σ H7 ⟨kvF,kvU,B,G,v4,v5,v7,rfl,L,lU,rfl⟩;have lF:kvF.length<=kvA.length:=by
    have:=P1 L.far.dp.nd (l₂:=kvA.map λe=>e.1) λx hx=>(W.key x).mpr (L.far.sub x hx)
    rwa [On,On]at this
   refine⟨_,.inl (.of L.ls),?_⟩;refine aH (λz=>?_) (λz=>?_)
   ·obtain⟨C,q,rfl⟩:∃C q,B=C++[q]:=by
     rcases RZ B with h|⟨C,q,h⟩
     ·rw[h]at z;cases z
     ·exact⟨C,q,by rw[h,R0]⟩
    obtain⟨Y,k,rfl⟩:∃Y k,G=Y++[k]:=by
     rcases RZ G with h|⟨Y,k,h⟩
     ·have:=L.kq.1;rw[h]at this;simp at this
     ·exact⟨Y,k,by rw[h,R0]⟩
    have ln:C.length=Y.length:=by have:=L.kq.1;simpa using this
    have dL:bc H7 k q:=L.kq.2 C.length q k (by simp) (by rw[ln];simp);have dP:aN (λq p=>bc H7 p q) C Y:=⟨ln,λi x y hx hy=>L.kq.2 i x y (by rw[Pq (Ou.mp hx).1];exact hx) (by rw[Pq (Ou.mp hy).1];exact hy)⟩;have km:k∈Y++[k]:=ON _ (Op.mpr rfl);obtain⟨kS,Nk⟩:=L.out k km;have cz:=yx.mp ((L.zero k Nk).mpr (.inl km));have kA:k∈kvA.map λe=>e.1:=(W.key k).mpr Nk;have ltF:kvF.length+1<=kvA.length:=by
     have:=P1 (Ph.mpr ⟨kS,L.far.dp.nd⟩) (l₂:=kvA.map λe=>e.1) λx hx=>by
      rcases OT.mp hx with h|h
      ·rw[h];exact kA
      ·exact (W.key x).mpr (L.far.sub x h)
     rwa [OV,On,On]at this
    refine⟨_,λσ' H' h=>⟨kvA.length-(kvF.length+1),by omega,h⟩,?_⟩;refine⟨.inl ⟨rfl,_,.of L.ls⟩,kl,_,.ref q,rfl,rfl,L.ls,by simp,?_⟩;obtain⟨H8,e8⟩:∃H8,H8=upd H7 kl (.lst (((C++[q]).map V.ref).dropLast)):=⟨_,rfl⟩;have ba:∀c,c≠kl->H8 c=H7 c:=λc n=>by rw[e8,am n]
    have l8:H8 kl=some (.lst (C.map V.ref)):=by rw[e8,aP,Ot];simp
    rw[<- e8];clear e8;have cI:∀q xs,H7 q=some (.tup xs)->H8 q=some (.tup xs):=λq xs z=>by rw[ba q (aD z L.ls (by intro z;cases z))];exact z
    have b6:=L.far.butL L.ls ba;have ct:c8 H8 un kvU N (bR E (kvF.map λe=>e.1)):=⟨md L.unk.dp L.ls ba,L.unk.val,L.unk.sub⟩;have dS:=L.ah.butL L.ls c9 ba;have s8:af H H8:=λc u e=>by rw[ba c (λz=>by rw[z,dd]at e;cases e)];exact L.sm _ _ e
    have cQ:=ge.same s8;have bA:=bY dL cI;have dt:aN (λq p=>bc H8 p q) C Y:=dP.imp λq p z=>bY z cI;dsimp only [bT];refine fY (λσ' H'=>σ'=[some (.ref a),some (.ref fa),some (.ref fd),some (.ref un),some (.ref q),v5,some (.ref kl),v7]/\af H H'/\(∃a6,a6.map (λe=>e.1)=kvF.map (λe=>e.1)++[k]/\cS H' fa a6 F N)/\c8 H' un kvU N (bR E (kvF.map λe=>e.1))/\bK H' fd kvH N (c5 E (kvA.map λe=>e.1))/\H' kl=some (.lst (C.map V.ref))/\aN (λq p=>bc H' p q) C Y/\bc H' k q) (λnx dC=>?_) λσ' H' z=>?_
    ·obtain⟨v,hv⟩:=gO kA;obtain⟨e0,br,ce,bC⟩:=ik hv;obtain⟨d,ks,a1,a2,a3,a4⟩:=cQ.val e0 br;rw[bC]at a1;subst a1;rw[ce]at a3 a4;refine⟨d,.dK ks,(λo v z=>by rw[a2]at z;cases z),?_⟩;refine⟨a,q,kvA,k,.ref d,Z,Z,cQ.dp,bA,hv,?_⟩;refine⟨d,ks,Z,a2,λob=>?_⟩;obtain⟨H9,e9⟩:∃H9,H9=upd H8 d (.frz ob (.dK ks)):=⟨_,rfl⟩;have f9:H9 d=some (.frz ob (.dK ks)):=by rw[e9,aP]
     have b9:∀c u,c≠d->H8 c=some u->H9 c=some u:=λc u n e=>by rw[e9,am n];exact e
     have dx:DP H9 fa kvF:=Ac b6.dp a2 λc n=>by rw[e9,am n]
     have cZ:∀q xs,H8 q=some (.tup xs)->H9 q=some (.tup xs):=λq xs z=>b9 _ _ (aD z a2 (by intro z;cases z)) z;rw[<- e9];clear e9;refine uC (K:=K) (λi ys H'=>af H9 H'/\∃ts:List (Addr × Int × Int),ys=ts.map (λx=>V.ref x.1)/\ts.length=i/\(∀x∈ts,H' x.1=some (.tup [.int x.2.1,.int x.2.2])/\∃(g:ad) (q':Addr) (n:Nat) (f:V),F k x.2.2=some g/\ci H8 kvF g q' n f/\x.2.1=(n:Int)+1)/\∀(j:Nat) xg,j<i->(E k)[j]? = some xg->∃x∈ts,∃q' n f,ci H8 kvF xg.2 q' n f/\x.2.1=((n:Nat):Int)+1) ⟨af.refl _,[],rfl,rfl,(λx h=>by cases h),λj xg h=>Sd h (Py _)⟩ (λi ys H' hi z=>⟨z.1 _ _ f9,?_⟩) (cy (by have:=a3.len;omega)) (λi ky v ys aY D NN bx z aK hN=>?_) λys aY p D z bn=>?_
     ·obtain⟨_,ts,rfl,lt,_⟩:=z;rw[On];omega
     ·obtain⟨s9,ts,rfl,lt,al,cc⟩:=z;obtain⟨xg,hx,r1,r2,qg,r3,r4⟩:=a4.right bx;have r1:ky=.inl xg.1:=r1;have r3:v=.ref qg:=r3;subst r1 r3;obtain⟨q',n,f,fv,_,_⟩:=b6.val xg.2 (cz xg (OA hx));have J:=s9.trans aK;simp only [ft,if_true];refine⟨fa,qg,kvF,xg.2,.ref q',Z,Z,dx.same J,bY r4 λq xs z=>J _ _ (cZ _ _ z),fv.1,?_⟩;refine⟨_,.int (n:Int),.inr (.of (J _ _ (cZ _ _ fv.2))),Z,?_⟩;refine⟨sz rfl,λp R bU=>hN _ _ ⟨J.trans bU.sm,ts++[(p,(n:Int)+1,xg.1)],by rw[Ot];rfl,by rw[Oz,lt];rfl,λx hx=>?_,λj dB hj bS=>?_⟩⟩
      ·rcases Os.mp hx with h|h
       ·obtain⟨c1,c2⟩:=al x h;exact⟨bU.sm _ _ (aK _ _ c1),c2⟩
       ·rw[Op.mp h];exact⟨bU.at_,xg.2,q',n,f,r2,fv,Z⟩
      ·by_cases c:j<i
       ·obtain⟨x,xm,z⟩:=cc j dB c bS;exact⟨x,OZ _ xm,z⟩
       ·obtain rfl:j=i:=by omega
        rw[hx]at bS;cases bS;exact⟨_,ON _ (Op.mpr Z),q',n,f,fv,Z⟩
     ·obtain⟨s9,ts,rfl,lt,al,cc⟩:=z;have J:=s9.trans bn.sm;refine⟨⟨ob,J _ _ f9⟩,?_⟩;obtain⟨R,S⟩:∃R,R=upd D d (.dK ks):=⟨_,rfl⟩;have da:af H8 R:=λc u e=>by
       by_cases n:c=d
       ·subst n;rw[a2]at e;cases e;rw[S,aP]
       ·rw[S,am n];exact J _ _ (b9 _ _ n e)
      have cb:∀c u,D c=some u->u ≠ .frz ob (.dK ks)->R c=some u:=λc u e ne=>by
       rw[S,am (λz=>by rw[z,J _ _ f9]at e;exact ne (OI e).symm)];exact e
      rw[<- S];clear S;refine⟨sz Z,λpd aJ bd=>?_⟩;have b:=da.trans bd.sm;have a8:=b6.same b;obtain⟨eh,eK,bt,_⟩:=a8.dp.ex;have dc:∀(qv:Addr) (n:Nat) (bv:V),aJ qv=some (.tup [.int (n:Int),bv])->(n=0\/∃x g q' f,bv=.int x/\F k x=some g/\0<n/\ci aJ kvF g q' (n-1) f)->(∀x g,F k x=some g->∃q' m f,ci aJ kvF g q' m f/\m+1<=n)->∀ae,DP ae fa (cX kvF k q (.ref qv))->(∀c,c≠fa->ae c=aJ c)->nx [some (.ref a),some (.ref fa),some (.ref fd),some (.ref un),some (.ref q),v5,some (.ref kl),v7] ae:=λqv n bv h1 h2 hm ae bg so=>by
       have bM:∀q xs,aJ q=some (.tup xs)->ae q=some (.tup xs):=λq xs z=>by rw[so q (aD z bt (by intro z;cases z))];exact z
       refine dC _ _ ⟨rfl,λc u e=>by rw[so c (λz=>by rw[z,g1.nw]at e;cases e)];exact b _ _ (s8 _ _ e),⟨_,by rw[Ot];rfl,a8.put kS Nk h1 h2 hm bg so⟩,?_,(dS.same b).butD bt cT so,?_,dt.imp λq p z=>bY (z.same b) bM,bY (bA.same b) bM⟩
       ·have ca:=ct.same b;exact⟨uf ca.dp bt bQ so,ca.val,ca.sub⟩
       ·rw[so kl (aD (b _ _ l8) bt (by intro z;cases z))];exact b _ _ l8
      have lz:kvF.length<sizeLine:=by rw[sizeLine_eq];omega
      have d4:∀x g,F k x=some g->∃y∈ts,∃q' m f,ci aJ kvF g q' m f/\y.2.1=((m:Nat):Int)+1:=λx g hF=>by
       obtain⟨q1,w1,w2⟩:=a3.yes x g trivial hF;unfold aR at w1;obtain⟨y,hy,_⟩:=OS.mp w1;have ey:y.1=.inl x:=by have z:=PM hy;exact Se z
       obtain⟨j,hj⟩:=OY (Px hy);obtain⟨xg,hx,r1,r2,_⟩:=a4.right hj;rw[ey]at r1;cases r1;rw[hF]at r2;cases r2;obtain⟨u,um,q',m,f,b1,b2⟩:=cc j xg (Ou.mp hj).1 hx;exact⟨u,um,q',m,f,b1.same λq xs z=>b _ _ z,b2⟩
      refine⟨p,ts,rfl,bd.sm _ _ (cb _ _ bn.at_ (by intro z;cases z)),λx hx=>bd.sm _ _ (cb _ _ (bn.sm _ _ (al x hx).1) (by intro z;cases z)),λt0=>?_,λx hx mx=>?_⟩
      ·exact⟨fa,q,kvF,k,rfl,rfl,a8.dp,bA.same b,lz,λae bg so=>dc pd 0 .non bd.at_ (.inl rfl) (λx g hF=>by obtain⟨y,ym,_⟩:=d4 x g hF;rw[t0]at ym;cases ym) ae bg so⟩
      ·obtain⟨c1,g,q',n,f,c2,c3,c4⟩:=al x hx;refine⟨fa,q,kvF,k,rfl,rfl,a8.dp,bA.same b,lz,λae bg so=>dc x.1 (n+1) (.int x.2.2) ?_ (.inr ⟨x.2.2,g,q',f,rfl,c2,by omega,c3.same λq xs z=>b _ _ z⟩) (λx1 g1 hF=>?_) ae bg so⟩
       ·have:=bd.sm _ _ (cb _ _ (bn.sm _ _ c1) (by intro z;cases z));rw[c4]at this;exact this
       ·obtain⟨y,ym,q',m,f,b1,b2⟩:=d4 x1 g1 hF;refine⟨q',m,f,b1,?_⟩;have:=mx y ym;unfold eY at this
        split at this
        ·omega
        ·have:=of_decide_eq_false this;omega
    ·obtain⟨rfl,s9,⟨a6,eF,d1⟩,cA,bF,dR,dM,du⟩:=z;have dE:a6.length=kvF.length+1:=by
      have:=congrArg List.length eF;rw[Oz,On,On]at this;exact this
     obtain⟨v,hv⟩:=gO ((bF.key k).mpr Nk);obtain⟨e0,br,ce,bC⟩:=ik hv;obtain⟨l,qa,c1,c2,c3⟩:=bF.val e0 br;rw[bC]at c1;subst c1;rw[ce]at c3;obtain⟨U,cB⟩:∃U,U=((c5 E (kvA.map λe=>e.1)).filter λpg=>decide (pg.2=k)).map λpg=>pg.1:=⟨_,rfl⟩;rw[<- cB]at c3;have cO:∀p,U.count p=if p∈kvA.map (λe=>e.1) then ((E p).filter λxg=>decide (xg.2=k)).length else 0:=λp=>by rw[cB];exact Lo E _ W.dp.nd k p
     have paN:∀p∈U,N p:=λp r=>by
      have:=List.count_pos_iff.mpr r;rw[cO]at this;by_cases c:p∈kvA.map λe=>e.1
      ·exact (W.key p).mp c
      ·rw[Sb c]at this;omega
     have d5:l≠kl:=λz=>c9 e0 br (by rw[bC,z]);have opS:∀p,N p->bR E (kvF.map λe=>e.1) p=bR E (kvF.map (λe=>e.1)++[k]) p+(U.drop 0).count p:=λp r=>by
      rw[Gg E _ k p kS,Q5,cO,Sc ((W.key p).mpr r)]
     have cL:=Pd.mp L.nd;refine⟨fd,q,kvH,k,.ref l,Z,Z,bF.dp,du,hv,?_⟩;refine⟨l,Z,⟨_,.of c2⟩,eG (K:=K) (a:=l) (xs:=qa.map V.ref) (λj σ H'=>af H H'/\cS H' fa a6 F N/\bK H' fd kvH N (c5 E (kvA.map λe=>e.1))/\(∃kvU,c8 H' un kvU N (λp=>bR E (kvF.map (λe=>e.1)++[k]) p+(U.drop j).count p))/\(∃B G,H' kl=some (.lst (B.map V.ref))/\aN (λq p=>bc H' p q) B G/\G.Nodup/\(∀p∈G,p∉kvF.map (λe=>e.1)++[k]/\N p)/\∀p,N p->(bR E (kvF.map (λe=>e.1)++[k]) p+(U.drop j).count p=0 ↔ p∈G\/p∈kvF.map (λe=>e.1)++[k]))/\H' l=some (.lst (qa.map V.ref))/\aN (λq p=>bc H' p q) qa U/\∃v7,σ=[some (.ref a),some (.ref fa),some (.ref fd),some (.ref un),some (.ref q),v5,some (.ref kl),v7]) ⟨s9,d1,bF,⟨kvU,cA.cE opS⟩,⟨C,Y,dR,dM,cL.1,λp r=>⟨λz=>?_,(L.out p (OZ _ r)).2⟩,λp r=>?_⟩,c2,c3,_,Z⟩ (λi σ H' _ z=>.of z.2.2.2.2.2.1) ?_ ?_⟩
     ·rcases Os.mp z with h|h
      ·exact (L.out p (OZ _ r)).1 h
      ·exact cL.2.2 p r k (Op.mpr Z) (Op.mp h)
     ·rw[<- opS p r,L.zero p r,Os,Os]
      constructor
      ·rintro ((h|h)|h)
       ·exact .inl h
       ·exact .inr (.inr h)
       ·exact .inr (.inl h)
      ·rintro (h|h|h)
       ·exact .inl (.inl h)
       ·exact .inr h
       ·exact .inl (.inr h)
     ·rintro j x σ aY hx ⟨aK,ax,b3,⟨aO,uk⟩,⟨B,G,b8,aC,av,O,s⟩,b7,bf,dD,rfl⟩;rw[Ov]at hx;obtain⟨qj,hq,rfl⟩:=OS.mp hx;obtain⟨I,r,cd⟩:=bf.right hq;have Np:N I:=paN I (OA r);have dr:U.drop j=I::U.drop (j+1):=by
       have jl:=(Ou.mp r).1;rw[Ro jl,(Ou.mp r).2]
      have cj:(U.drop j).count I=(U.drop (j+1)).count I+1:=by rw[dr,List.count_cons_self]
      have co:∀p,p≠I->(U.drop j).count p=(U.drop (j+1)).count p:=λp n=>by rw[dr,List.count_cons_of_ne (Ne.symm n)]
      obtain⟨ej,eM,bu,_⟩:=uk.dp.ex;have er:=uk.len (kvA:=kvA) λk hk=>(W.key k).mpr hk;dsimp only [bT];refine⟨un,qj,aO,I,_,rfl,rfl,uk.dp,cd,by rw[sizeLine_eq];omega,uk.val I Np,?_⟩;refine⟨_,_,Z,Z,Z,λD bV so=>?_⟩;have aI:∀q xs,aY q=some (.tup xs)->D q=some (.tup xs):=λq xs z=>by rw[so q (aD z bu (by intro z;cases z))];exact z
      have aX:∀q xs,aY q=some (.lst xs)->D q=some (.lst xs):=λq xs z=>by rw[so q (aD z bu (by intro z;cases z))];exact z
      have d3:af H D:=λc u e=>by rw[so c (λz=>by rw[z,aZ]at e;cases e)];exact aK _ _ e
      have aU:=ax.butD bu bQ.symm so;have bN:=b3.butD bu d2.symm so;have M:=aX _ _ b8;have bO:aN (λq p=>bc D p q) B G:=aC.imp λq p z=>bY z aI;have bP:aN (λq p=>bc D p q) qa U:=bf.imp λq p z=>bY z aI;have ec:(((bR E (kvF.map (λe=>e.1)++[k]) I+(U.drop j).count I:Nat):Int)-1)=((bR E (kvF.map (λe=>e.1)++[k]) I+(U.drop (j+1)).count I:Nat):Int):=by omega
      dsimp only at bV;rw[ec]at bV;have a7:c8 D un _ N (λp=>bR E (kvF.map (λe=>e.1)++[k]) p+(U.drop (j+1)).count p):=uk.put (N':=N) bV (λx=>⟨.inl,λh=>h.elim id λe=>e ▸ Np⟩) rfl λx n=>by rw[co x n]
      have z1:=s I Np;have bZ:I∉G/\I∉kvF.map (λe=>e.1)++[k]:=by
       have:¬(I∈G\/I∈kvF.map (λe=>e.1)++[k]):=λh=>by have:=z1.mpr h;omega
       exact⟨λh=>this (.inl h),λh=>this (.inr h)⟩
      refine⟨un,qj,_,I,_,Z,Z,a7.dp,bY cd aI,a7.val I Np,?_⟩;refine aH (λz=>?_) (λz=>?_)
      ·have c0:bR E (kvF.map (λe=>e.1)++[k]) I+(U.drop (j+1)).count I=0:=by have:=Se z;omega
       have eH:B.length<=40000:=by
        have:=P1 av (l₂:=kvA.map λe=>e.1) λx hx=>(W.key x).mpr (O x hx).2;rw[On]at this;have:=aC.1;omega
       refine⟨.inl ⟨rfl,_,.of M⟩,_,M,by rw[On,sizeLine_eq];omega,?_⟩;obtain⟨R,S⟩:∃R,R=upd D kl (.lst (B.map V.ref++[.ref qj])):=⟨_,rfl⟩;have a0:∀c,c≠kl->R c=D c:=λc n=>by rw[S,am n]
       have dz:R kl=some (.lst ((B++[qj]).map V.ref)):=by rw[S,aP,Ot];rfl
       have aQ:∀q xs,D q=some (.tup xs)->R q=some (.tup xs):=λq xs z=>by rw[a0 q (aD z M (by intro z;cases z))];exact z
       rw[<- S];clear S;refine⟨λc u e=>by rw[a0 c (λz=>by rw[z,dd]at e;cases e)];exact d3 _ _ e,aU.butL M a0,bN.butL M c9 a0,⟨_,⟨md a7.dp M a0,a7.val,a7.sub⟩⟩,⟨B++[qj],G++[I],dz,aN.app (bO.imp λq p z=>bY z aQ) (aN.cons (bY (bY cd aI) aQ) aN.nil),?_,λp r=>?_,λp r=>?_⟩,by rw[a0 l d5];exact aX _ _ b7,bP.imp λq p z=>bY z aQ,_,Z⟩
       ·refine Pd.mpr ⟨av,by simp,λu hu v hv e=>?_⟩;rw[Op.mp hv]at e;exact bZ.1 (e ▸ hu)
       ·rcases Os.mp r with h|h
        ·exact O p h
        ·rw[Op.mp h];exact⟨bZ.2,Np⟩
       ·rw[Os];by_cases c:p=I
        ·rw[c];exact⟨λ_=>.inl (.inr (Op.mpr Z)),λ_=>c0⟩
        ·rw[<- co p c,s p r];exact⟨λh=>h.imp .inl id,λh=>h.imp (λh=>h.elim id λh=>Sd (Op.mp h) c) id⟩
      ·have c0:¬bR E (kvF.map (λe=>e.1)++[k]) I+(U.drop (j+1)).count I=0:=λc=>z (Sf (by omega));refine⟨d3,aU,bN,⟨_,a7⟩,⟨B,G,M,bO,av,O,λp r=>?_⟩,aX _ _ b7,bP,_,Z⟩;by_cases c:p=I
       ·rw[c];exact⟨λh=>Sd h c0,λh=>Sd h (not_or.mpr bZ)⟩
       ·rw[<- co p c];exact s p r
     ·rintro σ aY ⟨aK,ax,b3,⟨aO,uk⟩,⟨B,G,b8,aC,av,O,s⟩,b7,bf,dD,rfl⟩;have d0:U.drop (qa.map V.ref).length=[]:=R1 (by rw[On,c3.1];exact Oo _);rw[d0]at uk s;refine⟨a6,aO,B,G,_,_,_,rfl,⟨aK,ax,?_,b3,b8,aC,av,?_,?_⟩,uk.len λk hk=>(W.key k).mpr hk,by rw[dE]⟩
      ·rw[eF];exact uk.cE λp _=>by simp
      ·rw[eF];exact O
      ·rw[eF];intro p r;have:=s p r;simpa using this
   ·have q0:B=[]:=by
     cases B with
     | nil=>rfl
     | cons q B=>exact Sd rfl z
    have k0:G=[]:=Qn (by have:=L.kq.1;rw[q0]at this;exact this.symm);refine kk fa kvF H7 L.sm g1.nw (L.far.far (by omega)) λk hk nk=>?_;have no:¬bR E (kvF.map λe=>e.1) k=0:=λc=>by
     rcases (L.zero k hk).mp c with h|h
     ·rw[k0]at h;cases h
     ·exact nk h
    obtain⟨e,he,ek⟩:=Oq.mp ((W.key k).mpr hk);obtain⟨d,ks,a1,a2,a3,a4⟩:=ge.val e he;rw[ek]at a4
    apply Classical.byContradiction
    intro dT;refine no (yx.mpr λxg hx=>Classical.byContradiction λc=>dT ?_);obtain⟨j,hj⟩:=OY hx;obtain⟨y,_,_,r2,_⟩:=a4.left hj;exact⟨xg.1,xg.2,r2,c⟩
abbrev qS:Str:=(("slack" : Str) ++ ".<locals>.") ++ "<lambda>"
abbrev pS:Pos:=⟨257,26,257,51⟩
structure Nf (H H':Hp) (v:V) (k:ad) (r:List Int):Prop where
 ex:∃wt l1 l2 l,v=.ref wt/\H' wt=some (.tup [.ref l1,.ref l2,.ref l])/\H' l1=some (.lst (k.1.map V.int))/\H' l2=some (.lst (k.2.map V.int))/\H' l=some (.lst (r.map V.int))/\H l1=none/\H l2=none/\H l=none/\l1≠l2/\l1≠l/\l2≠l
def Ni(H H':Hp)(rows:List (List Int))(s:Str)(n:Int)(v:V):Prop :=
 ((∀k,¬hE (bf rows) k)/\s = "within"/\n=0/\v=.non) \/
 ∃k r,hE (bf rows) k/\r.length<=160000/\Nf H H' v k r/\((s = "never"/\n=0/\r≠[]/\cr (λk=>c7 rows (bf rows) k.1 k.2) k r=some k)\/(s = "within"/\(r.length:Int)=n/\(∃g,cr (λk=>c7 rows (bf rows) k.1 k.2) k r=some g)/\∀k' r' g',hE (bf rows) k'->cr (λk=>c7 rows (bf rows) k.1 k.2) k' r'=some g'->(r'.length:Int)<=n))
def CJ(t:Adr):Sp:=λvs H Q _=>∃(a:Addr) (f:Ft) (es:List (Int × List Int)) (n:Nat),vs=[.ref a]/\Tt t H a f es n/\n<=1000/\Es es/\(bf (es.map λe=>e.2)).length<=200/\eK H 386 qS pS /\
 ∀p s m v H',fQ 386 H H'->eK H' 386 qS pS->H' p=some (.tup [.str s,.int m,v])->Ni H H' (es.map λe=>e.2) s m v->Q (.ref p) H'
def M7{rows:List (List Int)}(i:∀x∈rows,∀y∈rows,x <+: y->x=y)(ne:∀r∈rows,r≠[]):∀k x g,hE (bf rows) k->c7 rows (bf rows) k.1 k.2 x=some g->hE (bf rows) g:=by
 intro k x g l c;unfold c7 at c
 split at c
 ·rename_i z;cases c;have one:∀b,b++[x]∈bf rows->dX (bf rows) (cC rows (b++[x])):=λb f=>by
   obtain⟨j,r,d,h⟩:=oU.mp f;unfold cC
   split
   ·obtain⟨y,a,e⟩:∃y a,r=y::a:=by
     cases r with
     | nil=>exact Sd rfl (ne _ d)
     | cons y a=>exact⟨y,a,rfl⟩
    exact⟨y,oU.mpr ⟨by simp,r,d,by rw[e];exact⟨a,Z⟩⟩⟩
   ·rename_i nr;obtain⟨s,e⟩:=h;cases s with
    | nil=>rw[Pg]at e;rw[e]at nr;exact Sd d nr
    | cons y a=>exact⟨y,oU.mpr ⟨by simp,r,d,by rw[<- e];exact⟨a,by simp⟩⟩⟩
  exact⟨one _ z.1,one _ z.2.1,λe=>z.2.2 e.symm⟩
 ·cases c
def jL{H H':Hp}{q:Str}{pos:Pos}(h:eK H 386 q pos)(s:af H H'):eK H' 386 q pos:=by
 rcases h with h|⟨c,h,oc,vs,t,h1,h2,h3⟩
 ·exact .inl (s _ _ h)
 ·exact .inr ⟨c,s _ _ h,oc,vs,t,s _ _ h1,h2,h3⟩
def mj(H H':Hp):Prop:=∀c u,H c=some u->(∀ps,u ≠ .tbl ps)->H' c=some u
def rc{H H':Hp}{q:Str}{pos:Pos}(h:eK H 386 q pos)(s:fQ 386 H H'):mj H H':=λc u e n=>by
 obtain⟨ps,a⟩:=eK.tbl h;exact s c u (λz=>by rw[z,a]at e;exact n ps (OI e).symm) e
def ug{H H':Hp}{a:Addr}{kvs:List (ad × Addr × V)}(h:DP H a kvs)(s:mj H H'):DP H' a kvs:=by
 obtain⟨⟨xs,ep,c,b⟩,k,n,l⟩:=h
 exact⟨⟨xs,ep,s _ _ c (by intro ps z;cases z),b⟩,λx hx=>bY (k x hx) λq xs z=>s _ _ z (by intro ps z;cases z),n,l⟩
def Jy{H H':Hp}{a:Addr}{kvs:List (ad × Addr × V)}{F:ad->Int->Option ad}{N:ad->Prop}(h:Gr H a kvs F N)(s:mj H H'):Gr H' a kvs F N :=
 ⟨ug h.dp s,h.key,λe f=>let ⟨d,ks,a,b,c⟩:=h.val e f;⟨d,ks,a,s _ _ b (by intro ps z;cases z),c.mono λq xs z=>s _ _ z (by intro ps z;cases z)⟩⟩
def KM{H H':Hp}{a:Addr}{kvs:List (ad × Addr × V)}{F:ad->Int->Option ad}{N:ad->Prop}(h:iQ H a kvs F N)(s:mj H H'):iQ H' a kvs F N:=by
 have c:∀q xs,H q=some (.tup xs)->H' q=some (.tup xs):=λq xs z=>s _ _ z (by intro ps z;cases z);refine⟨ug h.dp s,h.sub,λk d=>?_⟩;obtain⟨q,n,e,a,l,b⟩:=h.val k d;refine⟨q,n,e,a.same c,l,b.imp id ?_⟩;rintro⟨x,g,q',bv',b1,b2,b3⟩;exact⟨x,g,q',bv',b1,b2,b3.same c⟩
def IP (T:Txt K mg t) (hBI:base.BuiltinsAt mg 386):bo P w K mg base "slack" 6 t.qi t.pC ["tongue"] (CJ t):=by
 refine⟨T.J0,T.Nq.kp,T.Mr,T.AV.okQ jT (λvs H Q E h=>by obtain⟨a,f,es,n,rfl,_⟩:=h;rfl) λA outer s H vs Q E g h=>?_⟩;obtain⟨a,f,es,n,rfl,tt,hn,ok,lp,tab,kk⟩:=h;have hu:=g.units;refine⟨_,(ao (aF (i:=1) jT.nd Z (.inl Z) (bb (Jd T) g (ab (bb (IL T) g (ab (aa 0) ag)) ag)))
  (ao (be (fz (xV (aa 1))) (ak (aE (bE (rp rfl)))) bi)
  (ao (aF (i:=2) jT.nd rfl (.inr rfl) (bb (Ja T) g (ab (aa 1) ag)))
  (ao (oB (i:=3) jT.nd rfl (.inl rfl) rfl (cq.of (fns:=(aj gT).names) (N:=["tongue", "apart", "far", "endless", "trip", "pair"]) (Nc:=["pair", "far"]) (nv:=1) (caps:=[2]) rfl rfl (by decide +kernel)) (xX (aa 1)) (λ_ _ _ _=>(aG (i:=0) (show List.Nodup (["pair", "far"]:List Str) by decide +kernel) rfl (Or.inl rfl) (Or.inr rfl))) (λ_ _ _ _=>(oz (aT (su hu) (aa 0) (aa 1) (by with_unfolding_all rfl)))) (λ_ _ _ _=>(aa 0)))
  (ao (be (gY (K:=K) rfl (aa 3)) (ao (aF (i:=4) jT.nd rfl (.inl rfl) (bb (IK T) g (ab (aa 1) (ab (aa 2) (ab (aA (Og K) (aa 3) aq (λ_ _=>rfl)) ag)))))
  (ak (aE (bE (ab je (ab aq (ab (bb (zu T) g (ab (aA (Og K) (aa 4) aq (λ_ _=>rfl)) (ab (aA (Og K) (aa 4) aq (λ_ _=>rfl)) ag))) ag))))))) bi)
  (ao (aF (i:=5) jT.nd rfl (.inl rfl) (EC (x := "each") (y := "far") (iy:=2) g rfl T.AV.hd hBI rfl rfl (by decide) rfl rfl rfl rfl rfl (λ_ _ _ _ _ _=>rfl) (λ_ _ _ _ _ _ _ g=>have hu:=(g.deeper _).units;(aA (Og K) (eW hu (aa 1) (aa 0)) aq (λ_ _=>rfl))) (aa 1) T.n_max rfl))
  (ak (aE (bE (ab je (ab (aA (Og K) (eW hu (aa 2) (aa 5)) aq (λ_ _=>rfl)) (ab (bb (zu T) g (ab (aa 5) (ab (bb (IQ T) g (ab (aa 1) (ab (aa 2) (ab (aa 5) ag)))) ag))) ag)))))))))))),?_⟩
 obtain⟨rows,er⟩:∃rows,rows=es.map λe=>e.2:=⟨_,rfl⟩;refine⟨a,f,es,n,Z,tt,hn,ok,λp1 kvs H1 s1 n1 st l1=>?_⟩;rw[<- er]at st l1 lp kk;have pf:∀x∈rows,∀y∈rows,x <+: y->x=y:=by
  intro x hx y hy B;rw[er]at hx hy;obtain⟨S,h1,rfl⟩:=Oq.mp hx;obtain⟨e2,h2,rfl⟩:=Oq.mp hy;rcases ok.two h1 h2 with z|z
  ·rw[z]
  ·have:ba S.2 e2.2=true:=Sf (Rl.mp B).symm;unfold d5 at z;rw[this]at z;simp at z
 have bz:∀r∈rows,r≠[]:=λr g z=>by
  rw[er]at g;obtain⟨S,h1,rfl⟩:=Oq.mp g;have:=(ok.sg S h1).2.1;rw[z]at this;simp at this
 refine⟨p1,rows,bf rows,kvs,rfl,st,by omega,by omega,λa2 kvA H2 s2 n2 gr lA=>?_⟩;have b1:kvA.length<=40000:=OJ lA (Rm (show kvs.length<=200 by omega) (show kvs.length<=200 by omega));have a5:=s1.trans s2;have cl:=M7 pf bz;refine⟨a2,kvA.length,Z,.inr (.inr ⟨kvA,gr.dp,Z⟩),?_⟩;refine aH (λz=>?_) (λz=>?_)
 ·have l0:kvA=[]:=by
   have z:(!(kvA.length != 0))=true:=z;have:kvA.length=0:=by simpa using z
   exact Qn this
  refine⟨sz Z,λp H3 g3=>?_⟩;refine kk p _ _ _ H3 (a5.trans g3.sm).one (jL tab (a5.trans g3.sm)) g3.at_ (.inl ⟨λk hk=>?_,Z,Z,Z⟩);have:=(gr.key k).mpr hk;rw[l0]at this;cases this
 ·refine⟨a2,kvA,_,_,Z,gr,cl,b1,λfa kvF H3 s3 n3 far out=>?_⟩;have bC:=a5.trans s3;have L:=gr.same s3;obtain⟨ns,ah⟩:∃ns,ns=kvA.map λe=>e.1:=⟨_,rfl⟩;obtain⟨cc,c5,dh,_⟩:=L.dp.ex;refine⟨a2,kvA,Z,L.dp,λo ho=>?_⟩;rw[dh]at ho;cases ho;refine Lx (λi ys H'=>af H3 H'/\∃F R,ys=F.map V.ref/\aN (λq p=>bc H' p q) F R/\(∀p∈R,hE (bf rows) p/\p∉kvF.map λe=>e.1)/\(∀p∈ns.take i,p∉kvF.map (λe=>e.1)->R≠[])/\F.length<=i) ⟨af.refl _,[],[],rfl,aN.nil,(λp h=>by cases h),(λp h=>by cases h),Ox _⟩ (λi ys H' hi z=>⟨z.1 _ _ dh,?_⟩) (cy (by omega)) (λi k qb v ys H4 NN aB z hN=>?_) λys H4 pe H5 z g5=>?_
  ·obtain⟨_,F,R,rfl,_,_,_,l⟩:=z;rw[On];exact l
  ·obtain⟨s4,F,R,rfl,al,oo,ne,l⟩:=z;have b0:ns[i]? = some k:=by rw[ah,Ov,aB];rfl
   have em:=OA aB;have kb:bc H3 k qb:=L.dp.key _ em;have nk:hE (bf rows) k:=(gr.key k).mp (Oq.mpr ⟨_,em,rfl⟩);refine⟨qb,fa,kvF,k,Z,Z,far.dp.same s4,kb.same s4,?_⟩;refine aH (λz=>?_) (λz=>?_)
   ·have nF:k∉kvF.map λe=>e.1:=λh=>by
     obtain⟨v,hv⟩:=gO h;have z:(!(aS kvF k).isSome)=true:=z;rw[hv]at z;cases z
    refine hN _ _ ⟨s4,F++[qb],R++[k],by rw[Ot];rfl,aN.app al (aN.cons (kb.same s4) aN.nil),λp B=>?_,λ_ _ _=>by simp,by rw[Oz];simp;omega⟩;rcases Os.mp B with h|h
    ·exact oo p h
    ·rw[Op.mp h];exact⟨nk,nF⟩
   ·have iF:k∈kvF.map λe=>e.1:=Classical.byContradiction λh=>z (by show (!(aS kvF k).isSome)=true;rw[mC h];rfl);refine hN _ _ ⟨s4,F,R,rfl,al,oo,λp B np=>?_,by omega⟩;rcases (eE b0).mp B with h|h
    ·exact ne p h np
    ·rw[h]at np;exact Sd iF np
  ·obtain⟨s4,F,R,rfl,al,oo,ne,l⟩:=z;have M:=s4.trans g5.sm;have O:=bC.trans M;have D:=L.same M;have b7:ns.length=kvA.length:=by rw[ah,On]
   rw[<- b7,OK]at ne;refine⟨_,.inl (.of g5.at_),?_⟩;refine aH (λz=>?_) (λz=>?_)
   ·obtain⟨Y,qt,rfl⟩:∃Y qt,F=Y::qt:=by
     cases F with
     | nil=>cases z
     | cons Y qt=>exact⟨Y,qt,rfl⟩
    obtain⟨k0,bk,b6⟩:=al.right (i:=0) (x:=Y) rfl;obtain⟨bD,nF0⟩:=oo k0 (OA bk);refine⟨_,.ref Y,.inl (.of g5.at_),aY (j:=0) Z,?_⟩;refine⟨a2,fa,Y,kvA,kvF,_,_,k0,rfl,D,by omega,far.dp.same M,cl,out,b6.same g5.sm,bD,nF0,λp q' l k' r J s6 B nl ky b4 hl b2 lr aD=>?_⟩;refine⟨_,.ref q',.inr (.of B),Z,?_⟩;refine⟨_,.ref l,.inr (.of B),Z,?_⟩;refine⟨q',l,k',Z,ky,λp7 l1 l2 H7 s7 h7 m1 U a9 bp bA=>?_⟩;refine⟨sz Z,λp8 H8 g8=>?_⟩;have G:=O.trans s6;have nn:∀ {c:Addr},J c=none->H c=none:=λ{c} h=>by
     cases e:H c with
     | none=>rfl
     | some u=>have:=G _ _ e;rw[h]at this;cases this
    have bF:H l=none:=by
     cases e:H l with
     | none=>rfl
     | some u=>have:=O _ _ e;rw[nl]at this;cases this
    have ay:=G.trans (s7.trans g8.sm);exact kk p8 _ _ _ H8 ay.one (jL tab ay) g8.at_ (.inr ⟨k',r,b4,by omega,⟨p7,l1,l2,l,rfl,g8.sm _ _ h7,g8.sm _ _ bp,g8.sm _ _ bA,g8.sm _ _ (s7 _ _ hl),nn m1,nn U,bF,a9,(λe=>by rw[e,hl]at m1;cases m1),λe=>by rw[e,hl]at U;cases U⟩,.inl ⟨rfl,rfl,b2,aD⟩⟩)
   ·have k0:R=[]:=by
     cases F with
     | nil=>exact Qn al.1.symm
     | cons Y qt=>exact Sd rfl z
    have allF:∀p∈ns,p∈kvF.map λe=>e.1:=λp B=>Classical.byContradiction λh=>ne p B h k0;have C:=jL tab O;have d:=far.same M;have bl:kvA≠[]:=λh=>by rename_i z0 _;exact z0 (by show (!(kvA.length != 0))=true;rw[h];rfl)
    have all:∀i:Nat,∃n:Int,∀k b v,kvA[i]? = some (k,b,v)->∃q m bv,ci H5 kvF k q m bv/\n=(m:Int):=λi=>by
     cases c:kvA[i]? with
     | none=>exact⟨0,λk b v h=>by cases h⟩
     | some e =>
      obtain⟨q,m,bv,I,_⟩:=d.val e.1 (allF e.1 (by rw[ah];exact Oq.mpr ⟨e,OA c,Z⟩));exact⟨m,λk b v h=>by cases h;exact⟨q,m,bv,I,Z⟩⟩
    unfold jM;dsimp only;refine⟨a2,kvA,.ref fa,Z,D.dp,bl,Z,C,λi=>Classical.choose (all i),λJ s6 i k b v hi=>?_,λJ s6 W i k b v hi aK=>?_⟩
    ·have sT:=rc C s6;have tu:∀q xs,H5 q=some (.tup xs)->J q=some (.tup xs):=λq xs z=>sT _ _ z (by intro ps z;cases z);obtain⟨q,m,bv,I,em⟩:=Classical.choose_spec (all i) k b v hi;refine⟨fa,b,kvF,k,.ref q,Z,Z,ug d.dp sT,bY (D.dp.key _ (OA hi)) tu,I.1,?_⟩;exact⟨_,.int (m:Int),.inr (.of (tu _ _ I.2)),Z,congrArg V.int em.symm,Z⟩
    ·have sT:=rc C s6;have tu:∀q xs,H5 q=some (.tup xs)->J q=some (.tup xs):=λq xs z=>sT _ _ z (by intro ps z;cases z);obtain⟨q,m,bv,I,em⟩:=Classical.choose_spec (all i) k b v hi;have a3:=bY (D.dp.key _ (OA hi)) tu;have a0:=KM d sT;have nk:hE (bf rows) k:=(gr.key k).mp (Oq.mpr ⟨_,OA hi,rfl⟩);refine⟨fa,b,kvF,k,.ref q,Z,Z,a0.dp,a3,I.1,?_⟩;refine⟨_,.int (m:Int),.inr (.of (tu _ _ I.2)),Z,?_⟩;refine⟨a2,fa,b,kvA,kvF,_,_,k,q,m,bv,Z,Jy D sT,a0,a3,I.same tu,λl r H7 s7 nl hl lr B=>?_⟩;refine⟨b,l,k,Z,a3.same s7,λp8 l1 l2 H8 s8 h8 m1 U a9 aZ bw=>?_⟩;refine⟨sz Z,λp9 H9 g9=>?_⟩;have G:fQ 386 H J:=O.one.trans s6;have bj:fQ 386 H H9:=G.trans (s7.trans (s8.trans g9.sm)).one;have b3:∀ {c:Addr},J c=none->c≠386:=λ{c} h z=>by
      obtain⟨ps,ht⟩:=eK.tbl W;rw[z,ht]at h;cases h
     have a1:∀ {c:Addr},J c=none->H c=none:=λ{c} h=>by
      cases e:H c with
      | none=>rfl
      | some u=>have:=G _ _ (b3 h) e;rw[h]at this;cases this
     have aJ:∀ {c:Addr},H7 c=none->J c=none:=λ{c} h=>by
      cases e:J c with
      | none=>rfl
      | some u=>have:=s7 _ _ e;rw[h]at this;cases this
     have aC:r.length<=160000:=by
      obtain⟨q3,m3,bd,ai,⟨l3,_⟩,_⟩:=d.val k I.key;obtain⟨_,e3,_⟩:=ai.one I;omega
     refine kk p9 _ _ _ H9 bj (jL W (s7.trans (s8.trans g9.sm))) g9.at_ (.inr ⟨k,r,nk,aC,⟨p8,l1,l2,l,rfl,g9.sm _ _ h8,g9.sm _ _ aZ,g9.sm _ _ bw,g9.sm _ _ (s8 _ _ hl),a1 (aJ m1),a1 (aJ U),a1 nl,a9,(λe=>by rw[e,hl]at m1;cases m1),λe=>by rw[e,hl]at U;cases U⟩,.inr ⟨rfl,by rw[lr],B,λk1 r1 g1 br bx=>?_⟩⟩);obtain⟨S,b9,bs⟩:=Oq.mp ((gr.key k1).mpr br);obtain⟨j,hj⟩:=OY b9;obtain⟨q2,U,c1,aO,b5⟩:=Classical.choose_spec (all j) S.1 S.2.1 S.2.2 hj;obtain⟨q3,m3,bd,ai,⟨_,aM⟩,_⟩:=d.val S.1 aO.key;obtain⟨_,e3,_⟩:=ai.one aO;rw[bs]at aM;have l1:=aM r1 g1 bx;have l2:Classical.choose (all i)>=Classical.choose (all j):=(aK j (Ou.mp hj).1).1;rw[em,b5]at l2;omega
def bW{i:Nat}{v:V}{σ:St}{H:Hp}{Q:St->Hp->Prop}(h:Q (σ.set i (some v)) H):bT i v σ H Q:=h
def IE (T:Txt K mg t):bo P w K mg base "_law_plain" 1 t.vi t.sR ["_law_found"] (λvs H Q _=>∃i,vs=[.int i]/\Q (.bl true) H):=by
 refine⟨T.JN,T.A5.kp,T.Md,T.A5.okQ Dn (λvs H Q E h=>by obtain⟨i,rfl,_⟩:=h;rfl) λ_ _ _ _ H vs Q E c h=>?_⟩;obtain⟨i,rfl,k⟩:=h;refine⟨_,(ak (aE (gZ (bq (mf (K:=K) Z) T.n_isinstance Qc (ab (aa 0) (ab (lD Z T.n_int RW) ag))) (gZ (gX iE (aa 0) jf (aV _)) (gW (gX iE (aa 0) jf (aV _))))))),?_⟩;obtain⟨ty,a,b⟩:=(fg.int (K:=K) (H:=H) i).isInt;refine⟨ty,_,a,b,?_⟩;refine lS ?_;refine⟨(λf z=>nomatch z),?_⟩;refine lS ?_;exact⟨(λf z=>nomatch z),k⟩
structure qz (rs:List (List Int)):Prop where
 sg:∀r∈rs,1<=r.length/\r.length<=6/\∀b∈r,0<=b/\b<=255
 pw:rs.Pairwise λa b=>ba a b=false/\ba b a=false
 tot:(rs.map λr=>r.length).sum<=60
abbrev AL:=Addr × List Int
def Cs(ps:List AL):(ps.map λx=>(x.2.length:Int)).sum=(((ps.map λx=>x.2).map λr=>r.length).sum:Nat):=by
 induction ps with
 | nil=>rfl
 | cons p ps ih =>
  simp only [OD,List.sum_cons]at *;rw[ih];omega
def CN(K:PySem.W.Frag):Sp:=λvs H Q _=>∃(a:Addr) (cs:List Int),vs=[.ref a]/\aJ K H a (cs.map V.int)/\cs.length<=12/\∀(p:Addr) (ps:List AL) H',af H H'->H' p=some (.lst (ps.map λx=>V.ref x.1))->(∀x∈ps,H' x.1=some (.lst (x.2.map V.int)))->qz (ps.map λx=>x.2)->ps.length<=12->Q (.ref p) H'
def IB (T:Txt K mg t):bo P w K mg base "_law_rows" 1 t.vf t.sO ["_law_cells"] (CN K):=by
 refine⟨T.JK,T.A2.kp,T.Ma,T.A2.okQ i0 (λvs H Q E h=>by obtain⟨a,cs,rfl,_⟩:=h;rfl) λ_ _ _ _ H vs Q E hr h=>?_⟩;obtain⟨a,cs,rfl,ha,lc,k⟩:=h;have hu:=hr.units;refine⟨_,(ao (aF (i:=1) i0.nd Z (.inl Z) (bh ag))
  (ao (bz PassesOwn.never rfl (cV (K:=K) rfl (aa 0)) (aG (i:=2) i0.nd rfl (.inl rfl)) (ao (aF (i:=3) i0.nd rfl (.inl rfl) (iz (aa 2)))
  (ao (aF (i:=4) i0.nd rfl (.inr rfl) (bh ag))
  (ao (bz PassesOwn.never rfl (gU rfl T.n_range (ab (aA (Og K) (bh (ab aq (ab aq (ab aq (ab aq (ab aq (ab (bG (Oj K) aq (dP (aa 3))) ag))))))) (dP (aa 2)) (λ_ _=>rfl)) ag)) (aG (i:=5) i0.nd rfl (.inl rfl)) (ao (cU (dJ (K:=K) rfl O1 O9 Pa eB (aa 4) (ab (aA (Og K) (bh (rp rfl)) (dP (aa 3)) (λ_ _=>rfl)) ag)))
  (ak (aF (i:=3) i0.nd rfl (.inl rfl) (iz (aa 3))))))
  (ak (be (aT fB (bG (Oj K) (bq (LK (K:=K) rfl rfl) T.n_sum PyProof.Rows.boot_sum (ab (fA rfl (cq.of (fns:=(aj ir).names) (N:=["_law_cells", "_law_found", "_law_cell", "_law_number", "_law_row_here", "_law_k"]) (Nc:=["_law_one"]) (nv:=1) (caps:=[]) rfl rfl (by decide +kernel)) (cV (K:=K) rfl (aa 1)) (λ_ _ _ _=>(aG (i:=0) (show List.Nodup (["_law_one"]:List Str) by decide +kernel) rfl (Or.inl rfl) (Or.inr rfl))) (λ_ _ _ _=>fu) (λ_ _ _ _=>(bq (Of K) T.n_len OM (ab (aa 0) ag)))) ag)) (bq (Of K) T.n_len OM (ab (aa 4) ag))) aq (aV _)) (ak (be (fL (bq (qh (K:=K) rfl rfl) T.n_all QH (ab (fA rfl (cq.of (fns:=(aj ir).names) (N:=["_law_cells", "_law_found", "_law_cell", "_law_number", "_law_row_here", "_law_k"]) (Nc:=["_law_one", "_law_row_here"]) (nv:=1) (caps:=[4]) rfl rfl (by decide +kernel)) (cV (K:=K) rfl (aa 1)) (λ_ _ _ _=>(aG (i:=0) (show List.Nodup (["_law_one", "_law_row_here"]:List Str) by decide +kernel) rfl (Or.inl rfl) (Or.inr rfl))) (λ_ _ _ _=>fu) (λ_ _ _ _=>(gZ (gX (jn (K:=K) rfl hu) (cb (Oi K) (aa 1) cL (bN (bq (Of K) T.n_len OM (ab (aa 0) ag)))) (aa 0) (aV _)) (gW (gX (jn (K:=K) rfl hu) (cb (Oi K) (aa 0) cL (bN (bq (Of K) T.n_len OM (ab (aa 1) ag)))) (aa 1) (aV _)))))) ag))) (ak (cU (dJ (K:=K) rfl O1 O9 Pa eB (aa 1) (ab (aa 4) ag)))) bi)) bi))))))
  (ak (aE (aa 1))))),?_⟩
 refine⟨sz Z,λp H1 R=>?_⟩;refine⟨a,rfl,⟨_,R.sm.seq ha⟩,eG (K:=K) (a:=a) (xs:=cs.map V.int) (λi σ H'=>af H H'/\(∃ps:List AL,H' p=some (.lst (ps.map λx=>V.ref x.1))/\(∀x∈ps,x.1≠p/\H' x.1=some (.lst (x.2.map V.int)))/\qz (ps.map λx=>x.2)/\ps.length<=i)/\∃v2 v3 v4 B,σ=[some (.ref a),some (.ref p),v2,v3,v4,B]) ⟨R.sm,⟨[],R.at_,(λx h=>nomatch h),⟨(λr h=>nomatch h),.nil,Ox _⟩,Ox _⟩,_,_,_,_,rfl⟩ (λi σ H' _ z=>z.1.seq ha) ?_ ?_⟩
 ·rintro i x σ U hx ⟨S,⟨ps,O,f,g,l2⟩,v2,v3,v4,B,rfl⟩;obtain⟨c,hc,rfl⟩:=iC hx;have hi:i<cs.length:=(Ou.mp hc).1;refine⟨sz Z,λr H3 g3=>?_⟩;refine⟨sz Z,λl H4 g4=>?_⟩;obtain⟨m,hm,m1,m6⟩:∃m:Nat,bZ [V.int 1,.int 2,.int 3,.int 2,.int 3,.int (4+c/6%3)] (c%6)=some (.int (m:Int))/\1<=m/\m<=6:=by
   have h0:=QL c (b:=6) (by decide);have h6:=QM c (b:=6) (by decide);obtain⟨j,M⟩:∃j:Nat,c%6=(j:Int):=⟨(c%6).toNat,by omega⟩;have:j<6:=by omega
   rw[M]
   match j,this with
   | 0,_=>exact⟨1,rfl,by decide,by decide⟩
   | 1,_=>exact⟨2,rfl,by decide,by decide⟩
   | 2,_=>exact⟨3,rfl,by decide,by decide⟩
   | 3,_=>exact⟨2,rfl,by decide,by decide⟩
   | 4,_=>exact⟨3,rfl,by decide,by decide⟩
   | 5,_=>exact⟨(4+c/6%3).toNat,by rw[aY (j:=5) rfl];congr 2;omega,by omega,by omega⟩
  refine⟨_,.int (m:Int),.inl g4.lst,hm,?_⟩;refine⟨(m:Int),rfl,by omega,by omega,?_⟩;rw[OX];have r2:U r=none:=g3.nw;have r4:H4 r=some (.lst []):=g4.sm _ _ g3.at_;refine jr (lo:=0) (n:=m) (λj σ H'=>af U H'/\(∃xs:List Int,H' r=some (.lst (xs.map V.int))/\xs.length=j/\∀b∈xs,0<=b/\b<=255)/\∃(n:Int) (B:Option V),σ=[some (.ref a),some (.ref p),some (.int c),some (.int n),some (.ref r),B]) ⟨g3.sm.trans g4.sm,⟨[],r4,rfl,λb h=>nomatch h⟩,_,_,rfl⟩ ?_ ?_
  ·rintro j σ H5 M ⟨C,⟨xs,F,lx,bx⟩,n,B,rfl⟩;refine⟨.inl ⟨rfl,_,.of F⟩,?_⟩;refine⟨sz Z,λl6 H6 d=>?_⟩;obtain⟨b,hb,b0,b1⟩:∃b:Int,bZ [V.int 0,.int 7,.int 255,.int 0,.int 7,.int 255,.int 1] (n%7)=some (.int b)/\0<=b/\b<=255:=by
    have h0:=QL n (b:=7) (by decide);have h6:=QM n (b:=7) (by decide);obtain⟨j,M⟩:∃j:Nat,n%7=(j:Int):=⟨(n%7).toNat,by omega⟩;have:j<7:=by omega
    rw[M]
    match j,this with
    | 0,_=>exact⟨0,rfl,by decide,by decide⟩
    | 1,_=>exact⟨7,rfl,by decide,by decide⟩
    | 2,_=>exact⟨255,rfl,by decide,by decide⟩
    | 3,_=>exact⟨0,rfl,by decide,by decide⟩
    | 4,_=>exact⟨7,rfl,by decide,by decide⟩
    | 5,_=>exact⟨255,rfl,by decide,by decide⟩
    | 6,_=>exact⟨1,rfl,by decide,by decide⟩
   refine⟨_,.int b,.inl d.lst,hb,?_⟩;refine⟨_,d.sm _ _ F,cI (by rw[On];omega),?_⟩;refine⟨(C.trans d.sm).put r2,⟨xs++[b],by rw[aP,Ot];rfl,by rw[Oz,lx];rfl,λx hx=>?_⟩,_,_,rfl⟩;rcases Os.mp hx with h|h
   ·exact bx x h
   ·rw[Op.mp h];exact⟨b0,b1⟩
  rintro σ H5 ⟨C,⟨xs,F,lx,bx⟩,n,B,rfl⟩;have G:=C _ _ O;have s:∀x∈ps,H5 x.1=some (.lst (x.2.map V.int)):=λx hx=>C _ _ (f x hx).2;have stay:∀H',af H5 H'->((af H H'/\(∃ps:List AL,H' p=some (.lst (ps.map λx=>V.ref x.1))/\(∀x∈ps,x.1≠p/\H' x.1=some (.lst (x.2.map V.int)))/\qz (ps.map λx=>x.2)/\ps.length<=i+1))):=λH' Y=>⟨S.trans (C.trans Y),ps,Y _ _ G,λx hx=>⟨(f x hx).1,Y _ _ (s x hx)⟩,g,by omega⟩;have aI:ps.length<=12:=by omega
  have J:∀ {j:Nat} {x:V},(ps.map λx=>V.ref x.1)[j]? = some x->∃q∈ps,ps[j]? = some q/\x=.ref q.1:=λ{j x} h=>by
   rw[Ov]at h;obtain⟨q,D,e⟩:=OS.mp h;exact⟨q,OA D,D,e.symm⟩
  refine⟨p,rfl,⟨_,.of G⟩,pX ((ps.map λx=>(x.2.length:Int)).map V.int) (by simp) (.of G) (cy (by rw[On];omega)) (λj x y H6 N hx hy s6 hN=>?_) λp6 H6 d=>?_⟩
  ·obtain⟨q,D,v,rfl⟩:=J hx;rw[Ov,Ov,v]at hy;cases hy;refine⟨_,.inl (.of (s6 _ _ (s q D))),?_⟩;rw[On];exact hN _ (af.refl _)
  refine⟨_,d.lst,?_⟩;refine⟨_,.inl (.of (d.sm _ _ F)),?_⟩;refine aH (λu=>?_) (λ_=>?_)
  ·have u:=Se u;rw[Cs,On]at u;refine⟨p,rfl,⟨_,.of (d.sm _ _ G)⟩,pX ((ps.map λx=>(!ba x.2 xs && !ba xs x.2)).map V.bl) (by simp) (.of (d.sm _ _ G)) (cy (by rw[On];omega)) (λj x y H7 N hx hy s7 hN=>?_) λW H7 g7=>?_⟩
   ·obtain⟨q,D,v,rfl⟩:=J hx;rw[Ov,Ov,v]at hy;cases hy;have q7:=s7 _ _ (d.sm _ _ (s q D));have r7:=s7 _ _ (d.sm _ _ F);refine⟨_,.inl (.of q7),_,Z,_,.of r7,λp8 H8 I=>?_⟩;rw[On,eI]at I;have q8:=I.sm _ _ q7;have r8:=I.sm _ _ r7;refine gv (by rfl) (ma I.lst (.of q8) ?_);have hN:∀H'',af H7 H''->N (.bl (!ba q.2 xs && !ba xs q.2)) H'':=hN;refine aH (λe=>?_) (λe=>?_)
    ·refine⟨_,.inl (.of r8),_,Z,_,.of q8,λp9 H9 L=>?_⟩;rw[On,eI]at L;refine gv (by rfl) (ma L.lst (.of (L.sm _ _ r8)) ?_);have:=hN H9 (I.sm.trans L.sm);have e:(!ba q.2 xs)=true:=e;rw[e,Bool.true_and]at this;exact this
    ·have:=hN H8 I.sm;have e:(!ba q.2 xs)=false:=Qs.mpr e;rw[e,Bool.false_and]at this;exact this
   ·refine⟨_,g7.lst,?_⟩;refine aH (λe=>?_) (λ_=>?_)
    ·have e:(ps.map λx=>(!ba x.2 xs && !ba xs x.2)).all id=true:=e;have o:=d.sm.trans g7.sm;have W:=o _ _ G;have np:r≠p:=λz=>by rw[z,O]at r2;cases r2
     refine⟨.inl ⟨rfl,_,.of W⟩,?_⟩;refine⟨_,W,cI (by rw[On];omega),?_⟩;refine⟨((S.trans C).trans o).put R.nw,⟨ps++[(r,xs)],by rw[aP,Ot];rfl,λx hx=>?_,⟨λy hy=>?_,?_,?_⟩,by rw[Oz];exact QN l2⟩,_,_,_,_,Z⟩
     ·rcases Os.mp hx with h|h
      ·exact⟨(f x h).1,by rw[am (f x h).1];exact o _ _ (s x h)⟩
      ·rw[Op.mp h];exact⟨np,by rw[am np];exact o _ _ F⟩
     ·rw[Ot]at hy;rcases Os.mp hy with h|h
      ·exact g.sg y h
      ·rw[Op.mp h];exact⟨by show 1<=xs.length;omega,by show xs.length<=6;omega,bx⟩
     ·rw[Ot];refine R3.mpr ⟨g.pw,Ri ..,λy hy z hz=>?_⟩;rw[Op.mp hz];obtain⟨x,hx,rfl⟩:=Oq.mp hy;have:=P6.mp e _ (Oq.mpr ⟨x,hx,rfl⟩);simpa using this
     ·rw[Ot,Ot,List.sum_append];simp only [OD,Qu,List.sum_cons,List.sum_nil];omega
    ·have st:=stay _ (d.sm.trans g7.sm);exact⟨st.1,st.2,_,_,_,_,Z⟩
  ·exact⟨(stay _ d.sm).1,(stay _ d.sm).2,_,_,_,_,Z⟩
 ·rintro σ U ⟨S,⟨ps,O,f,g,l2⟩,v2,v3,v4,B,rfl⟩;exact k p ps U S O (λx hx=>(f x hx).2) g (by rw[On]at l2;omega)
inductive Kt where
 | sh (f:Fp) (ns ms:List Int)
 | tb (f:Ft) (es:List (Int × List Int))
 | br
abbrev Rw:=List Int × Int
def du(P O:List Int)(g:Int):List Rw:=((List.range P.length).map λb:Nat=>([(b:Int)],g))++((di O P).map λb:Nat=>([254+(1-g),(b:Int)],1-g))
def bC:Kt->Int->List Rw
 | .sh _ ns ms,g=>du (ar g ns ms) (ar g ms ns) g
 | .tb _ es,_=>es.map λe=>(e.2,0)
 | .br,_=>[]
def cR:Kt->Int->Prop
 | .sh _ _ _,g=>bB g
 | .tb _ _,g=>g=0
 | .br,g=>g=0
def lK:Kt->Nat
 | .sh _ _ _=>2
 | .tb _ _=>1
 | .br=>1
def TN(t:Adr)(H:Hp)(o:Addr):Kt->Prop
 | .sh f ns ms=>Tg t H o f ns ms/\ns.length<=8/\ms.length<=8
 | .tb f es=>Tt t H o f es 1000/\Es es/\es.length<=12
 | .br=>∃dx,H o=some (.ins t.cP dx [])
def TN.mono{H H':Hp}{o:Addr}{D:Kt}(h:TN t H o D)(s:af H H'):TN t H' o D:=by
 cases D with
 | sh f ns ms=>exact⟨h.1.mono s,h.2⟩
 | tb f es=>exact⟨h.1.mono s,h.2⟩
 | br=>obtain⟨dx,h⟩:=h;exact⟨dx,s _ _ h⟩
structure iK (R:List Rw):Prop where
 sg:∀x∈R,1<=x.1.length/\x.1.length<=6/\∀b∈x.1,0<=b/\b<=255
 pw:R.Pairwise λa b=>ba a.1 b.1=false/\ba b.1 a.1=false
 l:R.length<=16
def eX{P O:List Int}{g:Int}{x:Rw}:x∈du P O g ↔ (∃b:Nat,b<P.length/\x=([(b:Int)],g))\/∃b:Nat,b∈di O P/\x=([254+(1-g),(b:Int)],1-g):=by
 unfold du;rw[Os,Oq,Oq]
 constructor
 ·rintro (⟨b,a,rfl⟩|⟨b,a,rfl⟩)
  ·exact .inl ⟨b,O2.mp a,Z⟩
  ·exact .inr ⟨b,a,Z⟩
 ·rintro (⟨b,a,rfl⟩|⟨b,a,rfl⟩)
  ·exact .inl ⟨b,O2.mpr a,Z⟩
  ·exact .inr ⟨b,a,Z⟩
def gw{P O:List Int}{g:Int}{x:List Int}:x∈(du P O g).map (λy=>y.1) ↔ (∃b:Nat,b<P.length/\x=[(b:Int)])\/∃b:Nat,b∈di O P/\x=[254+(1-g),(b:Int)]:=by
 rw[Oq]
 constructor
 ·rintro⟨y,hy,rfl⟩;rcases eX.mp hy with ⟨b,a,rfl⟩|⟨b,a,rfl⟩
  ·exact .inl ⟨b,a,Z⟩
  ·exact .inr ⟨b,a,Z⟩
 ·rintro (⟨b,a,rfl⟩|⟨b,a,rfl⟩)
  ·exact⟨_,eX.mpr (.inl ⟨b,a,Z⟩),Z⟩
  ·exact⟨_,eX.mpr (.inr ⟨b,a,Z⟩),Z⟩
def AH{O P:List Int}{b:Nat}(h:b∈di O P):b<O.length:=by
 obtain⟨n,a,_⟩:=rP.mp h;exact (Ou.mp a).1
def DV{P O:List Int}{g:Int}(two:bB g)(lP:P.length<=8)(lO:O.length<=8):iK (du P O g):=by
 have j:254<=254+(1-g)/\254+(1-g)<=255:=by unfold bB at two;omega
 refine⟨λx hx=>?_,?_,?_⟩
 ·rcases eX.mp hx with ⟨b,e,rfl⟩|⟨b,e,rfl⟩
  ·exact⟨by show 1<=1;decide,by show 1<=6;decide,λc d=>by rw[Op.mp d];omega⟩
  ·have:=AH e;refine⟨by show 1<=2;decide,by show 2<=6;decide,λc d=>?_⟩;have d:c=254+(1-g)\/c=(b:Int):=by simpa using d
   omega
 ·unfold du;refine R3.mpr ⟨Po.mpr (List.Pairwise.imp (λ{a b} h=>?_) (Rp (n:=P.length))),Po.mpr (List.Pairwise.imp (λ{a b} h=>?_) ((Rp (n:=O.length)).filter _)),λx hx y hy=>?_⟩
  ·have f:¬(a:Int)=(b:Int):=λz=>h (by omega);have i:¬(b:Int)=(a:Int):=λz=>h (by omega);unfold ba
   constructor
   ·refine Sh λz=>?_;have z:[(b:Int)]=[(a:Int)]:=z
    injection z with z
    exact i z
   ·refine Sh λz=>?_;have z:[(a:Int)]=[(b:Int)]:=z
    injection z with z
    exact f z
  ·have f:¬(a:Int)=(b:Int):=λz=>h (by omega);unfold ba
   constructor
   ·refine Sh λz=>?_;have z:[254+(1-g),(b:Int)]=[254+(1-g),(a:Int)]:=z
    injection z with _ z
    injection z with z
    exact f z.symm
   ·refine Sh λz=>?_;have z:[254+(1-g),(a:Int)]=[254+(1-g),(b:Int)]:=z
    injection z with _ z
    injection z with z
    exact f z
  ·obtain⟨b,e,rfl⟩:=Oq.mp hx;obtain⟨c,d,rfl⟩:=Oq.mp hy;have e:=O2.mp e;unfold ba
   constructor
   ·refine Sh λz=>?_;have z:[254+(1-g)]=[(b:Int)]:=z
    injection z with z
    omega
   ·refine Sh λz=>?_;have z:[(b:Int)]=[254+(1-g),(c:Int)]:=z
    injection z with _ z
    cases z
 ·unfold du;rw[Oz,On,On,O0];have:(di O P).length<=O.length:=by
   unfold di;exact OJ (Rn ..) (by rw[O0];exact Oo _)
  omega
def xJ{H:Hp}{o:Addr}{D:Kt}{g:Int}(d:TN t H o D)(pg:cR D g):iK (bC D g):=by
 cases D with
 | sh f ns ms =>
  obtain⟨_,l1,j⟩:=d;refine DV pg ?_ ?_
  ·unfold ar;split<;>assumption
  ·unfold ar;split<;>assumption
 | tb f es =>
  obtain⟨_,ok,k⟩:=d;refine⟨λx hx=>?_,?_,by show (es.map _).length<=16;rw[On];omega⟩
  ·obtain⟨e,i,rfl⟩:=Oq.mp hx;obtain⟨_,a,b,c⟩:=ok.sg e i;exact⟨a,b,c⟩
  ·refine Po.mpr (ok.pw.imp λ{a b} h=>?_);unfold d5 at h;simp only [Bool.or_eq_false_iff]at h;exact⟨h.1.2,h.2⟩
 | br=>exact⟨(λx h=>nomatch h),.nil,Ox _⟩
def xp(t:Adr):Sp:=λvs H Q _=>∃(a:Addr) (f:Fp) (ns ms:List Int) (q:Addr) (row:List Int) (g:Int),vs=[.ref a,.ref q,.int g]/\bB g/\Tg t H a f ns ms/\H q=some (.lst (row.map V.int))/\(∀b∈row,0<=b) /\
 (row∉(du (ar g ns ms) (ar g ms ns) g).map (λy=>y.1)->Q .non H)/\(∀g',(row,g')∈du (ar g ns ms) (ar g ms ns) g->∀p n H',aZ H p (.tup [.int n,.int g']) H'->Q (.ref p) H')
def Gx (T:Txt K mg t):bD P w K mg base bQ 2 t.qr t.m9 ["self", "row", "page"] (xp t):=by
 refine T.NE.okQ qY (λvs H Q E h=>by obtain⟨o,f,ns,ms,q,row,g,rfl,_⟩:=h;rfl) λ_ _ _ _ H vs Q E J h=>?_;obtain⟨a,f,ns,ms,q,row,g,rfl,two,s,d,B,l,ks⟩:=h;have D:=J.units;refine⟨_,(ao (be (aT (cK (K:=K) Z D) (bq (Of K) T.n_len OM (ab (aa 1) ag)) aq (aV _)) (ao (aF (i:=3) qY.nd Z (.inl Z) (lj (zA T) J (aa 0) (ab (aA (Og K) (aa 1) aq (λ_ _=>rfl)) (ab (aa 2) ag))))
  (ak (aE (ix (aT jo (aa 3) bL (aV _)) bL (bE (ab (aa 3) (ab (aa 2) ag))))))) bi)
  (ao (be (dQ (gj (aT (cK (K:=K) rfl D) (bq (Of K) T.n_len OM (ab (aa 1) ag)) aq (aV _)) (gh (aT (cK (K:=K) rfl D) (aA (Og K) (aa 1) aq (λ_ _=>rfl)) (aA (Og K) (xY (v:=.ref t.nA) rfl T.Ax rfl) (bG hZ aq (aa 2)) (λ_ _=>rfl)) (aV _))))) (ao (aF (i:=3) qY.nd rfl (.inl rfl) (lj (zA T) J (aa 0) (ab (aA (Og K) (aa 1) aq (λ_ _=>rfl)) (ab (bG hZ aq (aa 2)) ag))))
  (ak (aE (ix (dQ (mK (aT jo (aa 3) bL (aV _)) (mJ (aT (sv D) (aa 3) (aA (Og K) (cW (K:=K) rfl (aa 0)) (aa 2) (λ_ _=>rfl)) (by with_unfolding_all rfl))))) bL (bE (ab (aa 3) (ab (bG hZ aq (aa 2)) ag))))))) bi)
  (ak (aE bL)))),?_⟩
 refine⟨_,.inl (.of d),?_⟩;have S:254<=254+(1-g)/\254+(1-g)<=255:=by unfold bB at two;omega
 match row,d,B,l,ks with
 | [],d,B,l,ks =>
  refine⟨_,.inl (.of d),?_⟩;refine l λz=>?_;rcases gw.mp z with ⟨b,_,z⟩|⟨b,_,z⟩<;>cases z
 | [b],d,B,l,ks =>
  refine⟨a,f.dx,_,Z,s.o,Z,?_⟩;refine⟨_,_,.inl (.of d),aY (j:=0) Z,?_⟩;have M:0<=b:=B b (by simp);refine⟨a,f,ns,ms,b,g,Z,two,s,M,?_⟩;cases e:(ar g ns ms)[b.toNat]? with
  | none =>
   refine l λz=>?_;rcases gw.mp z with ⟨c,hc,z⟩|⟨c,_,z⟩
   ·injection z with z
    rw[R4]at e;omega
   ·injection z with _ z
    cases z
  | some n =>
   have u:=(Ou.mp e).1;exact⟨sz rfl,λp H' g'=>ks g (eX.mpr (.inl ⟨b.toNat,u,by rw[R5 M]⟩)) p _ H' g'⟩
 | [x,c],d,B,l,ks =>
  have L:0<=c:=B c (by simp);have sh:bZ (([254,255]:List Int).map V.int) (1-g)=some (.int (254+(1-g))):=by
   rcases two with rfl|rfl<;>rfl
  refine⟨_,.inl (.of d),?_⟩;refine⟨_,_,.inl (.of d),aY (j:=0) Z,?_⟩;refine⟨_,_,.inr (T.x9 _),sh,?_⟩;refine aH (λex=>?_) (λex=>?_)
  ·obtain rfl:x=254+(1-g):=Se ex;refine⟨a,f.dx,_,Z,s.o,Z,?_⟩;refine⟨_,_,.inl (.of d),aY (j:=1) Z,?_⟩;refine⟨a,f,ns,ms,c,1-g,Z,two.flip,s,L,?_⟩;rw[xA two];cases e:(ar g ms ns)[c.toNat]? with
   | none =>
    refine l λz=>?_;rcases gw.mp z with ⟨b,_,z⟩|⟨b,u,z⟩
    ·injection z with _ z
     cases z
    ·injection z with _ z
     injection z with z
     rw[R4]at e;have:=AH u;omega
   | some n =>
    obtain⟨F,G,C⟩:=s.dk two;refine⟨a,_,f.dx,_,_,Z,s.o,T.cv,T.rN,Z,?_⟩;refine⟨_,.ref (ar g f.d0 f.d1),.inl (.of s.p),by rw[gF two];exact congrArg some (fZ V.ref _ _ _),?_⟩;refine⟨_,_,Z,cw.k (k:=.inl n) G,?_⟩;by_cases hn:n∈ar g ns ms
    ·obtain⟨i,R,_⟩:=Ik hn;have I:aR F (.inl n)=some (.int (i:Int)):=by rw[C,R];rfl
     refine aH (λ_=>?_) (λz=>Sd (show (aR F (.inl n)).isSome=true by rw[I];rfl) z);refine l λz=>?_;rcases gw.mp z with ⟨b,_,z⟩|⟨b,u,z⟩
     ·injection z with _ z
      cases z
     ·injection z with _ z
      injection z with z
      obtain⟨m,O,N⟩:=rP.mp u;have:c.toNat=b:=by omega
      rw[this,O]at e;cases e;exact N hn
    ·have I:aR F (.inl n)=none:=by rw[C,lT.mpr hn];rfl
     refine aH (λz=>Sd (show (aR F (.inl n)).isSome=true from z) (by rw[I];decide)) (λ_=>?_);exact⟨sz rfl,λp H' g'=>ks (1-g) (eX.mpr (.inr ⟨c.toNat,rP.mpr ⟨n,e,hn⟩,by rw[R5 L]⟩)) p _ H' g'⟩
  ·refine l λz=>?_;rcases gw.mp z with ⟨b,_,z⟩|⟨b,u,z⟩
   ·injection z with _ z
    cases z
   ·injection z with z _
    exact ex (Sf z)
 | x::y::z::r,d,B,l,ks =>
  refine⟨_,.inl (.of d),?_⟩;refine l λz=>?_;rcases gw.mp z with ⟨b,_,z⟩|⟨b,u,z⟩
  ·injection z with _ z
   cases z
  ·injection z with _ z
   injection z with _ z
   cases z
def zz (T:Txt K mg t):gN P w K mg base t.bt "whole" 2 t.qr t.m9 ["self", "row", "page"] [] (xp t) :=
 ⟨T.cv,T.GV,⟨_,T.MW,.nil⟩,Gx T⟩
def uV{O P:List Int}{g:Int}(h:bI O P g≠[]):∃b:Nat,b∈di O P/\bI O P g=[254+(1-g),(b:Int)]:=by
 rcases AA O P g with e|⟨b,hb,e⟩
 ·exact Sd e h
 ·exact⟨b,List.mem_of_mem_head? hb,e⟩
def fE{a b:List Int}:ba a b=true ↔ b.take a.length=a:=by unfold ba;exact decide_eq_true_iff
def yF{P O:List Int}{g:Int}{row:List Int}(hw:row∉(du P O g).map (λy=>y.1))(c:row=[]->P=[])(a:bI O P g=[]\/ba row (bI O P g)=false):∀x∈du P O g,ba row x.1=false:=by
 intro x hx;refine Qs.mpr λz=>?_;have z:=fE.mp z;rcases eX.mp hx with ⟨b,hb,rfl⟩|⟨b,hb,rfl⟩
 ·match row,hw,c,z with
  | [],_,c,_=>rw[c rfl]at hb;exact Sd hb (Py _)
  | y::r,hw,_,z =>
   have z:[(b:Int)]=y::r:=by simpa using z
   exact hw (gw.mpr (.inl ⟨b,hb,z.symm⟩))
 ·have ne:bI O P g≠[]:=λe=>by rw[(Az O P g).mp e]at hb;cases hb
  obtain⟨d,_,f⟩:=uV ne;have a:=a.resolve_left ne;rw[f]at a
  match row,hw,z with
  | [],_,_=>rw[show ba [] [254+(1-g),(d:Int)]=true from rfl]at a;cases a
  | [y],_,z =>
   have z:[254+(1-g)]=[y]:=z
   injection z with z
   rw[<- z]at a;have:ba [254+(1-g)] [254+(1-g),(d:Int)]=true:=fE.mpr rfl;rw[this]at a;cases a
  | y::y'::r,hw,z =>
   have z:[254+(1-g),(b:Int)]=y::y'::r:=by simpa using z
   exact hw (gw.mpr (.inr ⟨b,hb,z.symm⟩))
def xv(t:Adr):Sp:=λvs H Q _=>∃(a:Addr) (f:Fp) (ns ms:List Int) (q:Addr) (row:List Int) (g:Int),vs=[.ref a,.ref q,.int g]/\bB g/\Tg t H a f ns ms/\H q=some (.lst (row.map V.int))/\(∀b∈row,0<=b) /\
 ((∀x∈du (ar g ns ms) (ar g ms ns) g,ba row x.1=false)->∀H',af H H'->Q .non H')/\(∀p (c:List Int) H',af H H'->H p=none->H' p=some (.lst (c.map V.int))->row++c∈(du (ar g ns ms) (ar g ms ns) g).map (λy=>y.1)->Q (.ref p) H')
def GB (T:Txt K mg t):bD P w K mg base bQ 3 t.qw t.na ["self", "row", "page"] (xv t):=by
 refine T.NK.okQ DK (λvs H Q E h=>by obtain⟨o,f,ns,ms,q,row,g,rfl,_⟩:=h;rfl) λ_ _ _ _ H vs Q E r h=>?_;obtain⟨a,f,ns,ms,q,row,g,rfl,two,c,k,L,B,ks⟩:=h;have R:=r.units;refine⟨_,(ao (be (aT iE (gk (zz T) r (aa 0) (ab (aa 1) (ab (aa 2) ag))) bL (aV _)) (ak (aE (bh ag))) bi)
  (ao (be (dQ (gj (fz (gY (K:=K) rfl (aa 1))) (gh (gY (K:=K) rfl (aA (Og K) (cW (K:=K) rfl (aa 0)) (aa 2) (λ_ _=>rfl)))))) (ak (aE (bh (ab aq ag)))) bi)
  (ao (be (dQ (gj (gY (K:=K) rfl (aA (Og K) (cW (K:=K) rfl (aa 0)) (aa 2) (λ_ _=>rfl))) (gh (fL (bb (sr T) r (ab (aa 1) (ab (aA (Og K) (cW (K:=K) rfl (aa 0)) (aa 2) (λ_ _=>rfl)) ag))))))) (ak (aE (cb (Oi K) (aA (Og K) (cW (K:=K) rfl (aa 0)) (aa 2) (λ_ _=>rfl)) (bN (bq (Of K) T.n_len OM (ab (aa 1) ag))) cL))) bi)
  (ak (aE bL))))),?_⟩
 refine⟨a,f.dx,_,Z,c.o,Z,?_⟩;have es:bZ [V.ref f.s0,V.ref f.s1] g=some (.ref (ar g f.s0 f.s1)):=by rw[gF two];exact congrArg some (fZ V.ref _ _ _)
 have N:bZ [V.ref f.l0,V.ref f.l1] g=some (.ref (ar g f.l0 f.l1)):=by rw[gF two];exact congrArg some (fZ V.ref _ _ _)
 have u:=c.ss two;have J:=c.ll two;refine⟨a,f,ns,ms,q,row,g,Z,two,c,k,L,λhw=>?_,λO m p xs D x=>?_⟩
 ·dsimp only [tC,sH];rw[Sb (by decide)];unfold jM;dsimp only;refine fY (λv H'=>H'=H/\v=[some (.ref a),some (.ref q),some (.int g)]/\(row=[]->ar g ns ms=[])) (λnx C=>?_) ?_
  ·refine⟨_,.inl (.of k),?_⟩;refine aH (λz=>?_) (λz=>?_)
   ·have z:row=[]:=by
     cases row with
     | nil=>rfl
     | cons _ _=>cases z
    subst z;refine⟨a,_,f.dx,_,_,Z,c.o,T.cv,T.lJ,Z,?_⟩;refine⟨_,_,.inl (.of c.l),N,?_⟩;refine⟨_,.inl (.of J),?_⟩;refine aH (λy=>?_) (λy=>?_)
    ·refine⟨sz Z,λd j b=>?_⟩;have pos:0<(ar g ns ms).length:=by
      cases e:ar g ns ms with
      | nil=>rw[e]at y;cases y
      | cons _ _=>exact Nat.succ_pos _
     exact ks d [0] j b.sm b.nw b.at_ (gw.mpr (.inl ⟨0,pos,Z⟩))
    ·refine C _ _ ⟨rfl,rfl,λ_=>?_⟩;cases e:ar g ns ms with
     | nil=>rfl
     | cons _ _=>rw[e]at y;exact Sd Z y
   ·refine C _ _ ⟨rfl,rfl,λe=>?_⟩;rw[e]at z;exact Sd Z z
  rintro v H' ⟨rfl,rfl,F⟩;refine⟨a,_,f.dx,_,_,Z,c.o,T.cv,T.lI,Z,?_⟩;refine⟨_,_,.inl (.of c.s),es,?_⟩;refine⟨_,.inl (.of u),?_⟩;refine aH (λz=>?_) (λz=>?_)
  ·have ne:bI (ar g ms ns) (ar g ns ms) g≠[]:=λe=>by rw[e]at z;cases z
   refine⟨a,_,f.dx,_,_,Z,c.o,T.cv,T.lI,Z,?_⟩;refine⟨_,_,.inl (.of c.s),es,?_⟩;refine⟨q,ar g f.s0 f.s1,row,_,Z,.of k,.of u,λD s1=>?_⟩;refine aH (λy=>?_) (λy=>?_)
   ·have y:=fE.mp y;have i:=c.mono s1;refine⟨a,_,f.dx,_,_,Z,i.o,T.cv,T.lI,Z,?_⟩;refine⟨_,_,.inl (.of i.s),es,?_⟩;refine⟨_,.inl (.of (s1 _ _ k)),_,Z,_,.of (s1 _ _ u),λd j b=>?_⟩;obtain⟨M,n,G⟩:=uV ne;rw[On,gE]at b;have I:=pN (bI (ar g ms ns) (ar g ns ms) g) row.length;refine ks d ((bI (ar g ms ns) (ar g ns ms) g).drop row.length) j (s1.trans b.sm) (s1.free b.nw) (by rw[<- I];exact b.at_) ?_;have:row++(bI (ar g ms ns) (ar g ns ms) g).drop row.length=bI (ar g ms ns) (ar g ns ms) g:=by
     conv=>lhs;arg 1;rw[<- y]
     exact P0 _ _
    rw[this,G];exact gw.mpr (.inr ⟨M,n,Z⟩)
   ·exact B (yF hw F (.inr (Qs.mpr y))) D s1
  ·have e:bI (ar g ms ns) (ar g ns ms) g=[]:=by
    cases e:bI (ar g ms ns) (ar g ns ms) g with
    | nil=>rfl
    | cons _ _=>rw[e]at z;exact Sd Z z
   exact B (yF hw F (.inl e)) _ (af.refl _)
 ·have hw:row∈(du (ar g ns ms) (ar g ms ns) g).map (λy=>y.1):=Oq.mpr ⟨_,m,rfl⟩;refine⟨sz Z,λd j b=>?_⟩;exact ks d [] j (x.sm.trans b.sm) (x.sm.free b.nw) b.at_ (by rw[Pg];exact hw)
def Jw (T:Txt K mg t):gN P w K mg base t.bt "fill" 3 t.qw t.na ["self", "row", "page"] [] (xv t) :=
 ⟨T.cv,T.G1,⟨_,T.M4,.nil⟩,GB T⟩
def xu(t:Adr):Sp:=λvs H Q _=>∃(a:Addr) (f:Ft) (es:List (Int × List Int)) (q:Addr) (row:List Int) (g:Int),vs=[.ref a,.ref q,.int g]/\Tt t H a f es 1000/\H q=some (.lst (row.map V.int)) /\
 ((∀x∈es,ba row x.2=false)->∀H',af H H'->Q .non H')/\(∀p (b:List Int) H',af H H'->H p=none->H' p=some (.lst (b.map V.int))->(∃e∈es,e.2=row++b)->Q (.ref p) H')
def GA (T:Txt K mg t):bD P w K mg base bQ 3 t.qq t.m8 ["self", "row", "page"] (xu t):=by
 refine T.NC.okQ xF (λvs H Q E h=>by obtain⟨o,f,es,q,row,g,rfl,_⟩:=h;rfl) λ_ _ _ _ H vs Q E G h=>?_;obtain⟨a,f,es,q,row,g,rfl,D,J,C,ks⟩:=h;have I:=G.units;refine⟨_,(ao (aF (i:=3) xF.nd Z (.inl Z) (x8 I (cW (K:=K) Z (aa 0)) (cO (jx (K:=K) Z) T.n_tuple Pu (ab (aa 1) ag))))
  (ak (aE (ix (aT jo (aa 3) bL (aV _)) bL (cO (Oh K) T.n_list O8 (ab (aa 3) ag)))))),?_⟩
 obtain⟨o,⟨k1,k2,k3,R,O,l,_,_,_,k⟩,ne⟩:=id D;refine⟨a,_,f.dx,_,_,Z,o,T.dy,T.oR,Z,?_⟩;refine⟨f.d3,Z,.inr ⟨_,.inl l⟩,?_⟩;refine⟨_,.of J,λS F b=>?_⟩;have p:=b.at_;rw[mX]at p;refine⟨_,cw.t (b.sm _ _ l) p,?_⟩;by_cases c:bM row∈k3.map (λx=>x.1)
 ·obtain⟨N,r,M,m,x,y,z⟩:=k.e _ c;obtain rfl:=lQ r;rw[x];refine⟨_,.inr (.of (b.sm _ _ y)),λu L d=>?_⟩;obtain⟨B,j,z⟩:=z;exact ks u m L (b.sm.trans d.sm) (b.sm.free d.nw) d.at_ ⟨B,j,z⟩
 ·rw[qH c];refine C (λx hx=>Qs.mpr λz=>c ?_) F b.sm;have z:=fE.mp z;have s:row.length<=x.2.length:=by
   have:=congrArg List.length z;rw[OG]at this;omega
  obtain⟨M,m,v,_⟩:=k.c x hx row.length s;rw[z]at v;refine Classical.byContradiction λn=>?_;rw[qH n]at v;cases v
def Jq (T:Txt K mg t):gN P w K mg base t.bA "fill" 3 t.qq t.m8 ["self", "row", "page"] [] (xu t) :=
 ⟨T.dy,T.GT,⟨_,T.MU,.nil⟩,GA T⟩
def gx(P O:List Int)(g:Int):List Int:=if bI O P g=[] then (if P=[] then [] else [0]) else bI O P g
def CZ(t:Adr):Sp:=λvs H Q _=>∃(a:Addr) (f:Fp) (ns ms:List Int) (g:Int),vs=[.ref a,.int g]/\bB g/\Tg t H a f ns ms/\∀p H',af H H'->H p=none->H' p=some (.lst ((gx (ar g ns ms) (ar g ms ns) g).map V.int))->Q (.ref p) H'
def Jv (T:Txt K mg t):fi P w K mg base t.bt "longest" 1 t.wn t.ub ["self", "page"] (CZ t):=by
 refine⟨T.cv,T.GZ,T.M0,T.NI.okQ DI (λvs H Q E h=>by obtain⟨o,f,ns,ms,g,rfl,_⟩:=h;rfl) λ_ _ _ _ H vs Q E p h=>?_⟩;obtain⟨a,f,ns,ms,g,rfl,two,c,k⟩:=h;have q:=p.units;refine⟨_,(ao (be (gY (K:=K) Z (aA (Og K) (cW (K:=K) Z (aa 0)) (aa 1) (λ_ _=>rfl))) (ak (aE (cO (Oh K) T.n_list O8 (ab (aA (Og K) (cW (K:=K) Z (aa 0)) (aa 1) (λ_ _=>rfl)) ag)))) bi)
  (ak (aE (ix (gY (K:=K) rfl (aA (Og K) (cW (K:=K) rfl (aa 0)) (aa 1) (λ_ _=>rfl))) (bh (ab aq ag)) (bh ag))))),?_⟩
 have es:bZ [V.ref f.s0,V.ref f.s1] g=some (.ref (ar g f.s0 f.s1)):=by rw[gF two];exact congrArg some (fZ V.ref _ _ _)
 have n:bZ [V.ref f.l0,V.ref f.l1] g=some (.ref (ar g f.l0 f.l1)):=by rw[gF two];exact congrArg some (fZ V.ref _ _ _)
 have j:=c.ss two;have m:=c.ll two;unfold gx at k;refine⟨a,_,f.dx,_,_,Z,c.o,T.cv,T.lI,Z,?_⟩;refine⟨_,_,.inl (.of c.s),es,?_⟩;refine⟨_,.inl (.of j),?_⟩;refine aH (λz=>?_) (λz=>?_)
 ·have z:bI (ar g ms ns) (ar g ns ms) g≠[]:=λy=>by rw[y]at z;exact Sd z (by decide)
  rw[Sb z]at k;refine⟨a,_,f.dx,_,_,Z,c.o,T.cv,T.lI,Z,?_⟩;refine⟨_,_,.inl (.of c.s),es,?_⟩;exact⟨_,.inl (.of j),λd i b=>k d i b.sm b.nw b.at_⟩
 ·have z:bI (ar g ms ns) (ar g ns ms) g=[]:=by
   cases e:bI (ar g ms ns) (ar g ns ms) g with
   | nil=>rfl
   | cons _ _=>rw[e]at z;exact Sd Z z
  rw[Sc z]at k;refine⟨a,_,f.dx,_,_,Z,c.o,T.cv,T.lJ,Z,?_⟩;refine⟨_,_,.inl (.of c.l),n,?_⟩;refine⟨_,.inl (.of m),?_⟩;refine aH (λy=>?_) (λy=>?_)
  ·have y:ar g ns ms≠[]:=λe=>by rw[e]at y;cases y
   rw[Sb y]at k;exact⟨sz Z,λd i b=>k d i b.sm b.nw b.at_⟩
  ·have y:ar g ns ms=[]:=by
    cases e:ar g ns ms with
    | nil=>rfl
    | cons _ _=>rw[e]at y;exact Sd Z y
   rw[Sc y]at k;exact⟨sz Z,λd i b=>k d i b.sm b.nw b.at_⟩
abbrev bP:=Addr × Addr × Int × List Int
def qy(H H':Hp)(p:Addr)(s:bP):Prop:=H' s.1=some (.tup [.int s.2.2.1,.ref s.2.1])/\H' s.2.1=some (.lst (s.2.2.2.map V.int))/\H s.2.1=none/\s.2.1≠p
def wu(H H':Hp)(p:Addr)(ss:List bP):Prop:=af H H'/\H p=none/\H' p=some (.lst (ss.map λs=>V.ref s.1))/\∀s∈ss,qy H H' p s
def AN(D:Kt)(l:List (Int × List Int)):Prop:=l.Nodup/\∀g b,(g,b)∈l ↔ cR D g/\∃x∈bC D g,∃m,m<x.1.length/\b=x.1.take m
def jQ(t:Adr)(a:Hp->Addr->Kt->Prop):Sp:=λvs H Q _=>∃(o:Addr) (D:Kt),vs=[.ref o]/\a H o D/\∀p ss H',wu H H' p ss->AN D (ss.map λs=>s.2.2)->ss.length<=1000->Q (.ref p) H'
def yX{P O:List Int}{g:Int}{b:List Int}:(∃k,k<(gx P O g).length/\b=(gx P O g).take k) ↔ ∃x∈du P O g,∃m,m<x.1.length/\b=x.1.take m:=by
 unfold gx;by_cases e:bI O P g=[]
 ·rw[Sc e];have no:∀b,b∉di O P:=λb a=>by rw[(Az O P g).mp e]at a;cases a
  by_cases e2:P=[]
  ·rw[Sc e2]
   constructor
   ·rintro⟨k,d,_⟩;exact Sd d (Py _)
   ·rintro⟨x,hx,m,c,_⟩;rcases eX.mp hx with ⟨b,a,_⟩|⟨b,a,_⟩
    ·rw[e2]at a;exact Sd a (Py _)
    ·exact Sd a (no b)
  ·rw[Sb e2];have pos:0<P.length:=PY.mpr e2
   constructor
   ·rintro⟨k,d,rfl⟩;have d:k<1:=d;obtain rfl:k=0:=by omega
    exact⟨_,eX.mpr (.inl ⟨0,pos,rfl⟩),0,by show 0<1;decide,rfl⟩
   ·rintro⟨x,hx,m,c,rfl⟩;rcases eX.mp hx with ⟨b,a,rfl⟩|⟨b,a,_⟩
    ·have c:m<1:=c;obtain rfl:m=0:=by omega
     exact⟨0,by show 0<1;decide,rfl⟩
    ·exact Sd a (no b)
 ·rw[Sb e];obtain⟨i,f,h⟩:=uV e;rw[h]
  constructor
  ·rintro⟨k,d,rfl⟩;exact⟨_,eX.mpr (.inr ⟨i,f,Z⟩),k,d,Z⟩
  ·rintro⟨x,hx,m,c,rfl⟩;rcases eX.mp hx with ⟨b,a,rfl⟩|⟨b,a,rfl⟩
   ·have c:m<1:=c;obtain rfl:m=0:=by omega
    exact⟨0,by show 0<2;decide,rfl⟩
   ·have c:m<2:=c;refine⟨m,c,?_⟩
    match m,c with
    | 0,_=>rfl
    | 1,_=>rfl
def HE(P O:List Int)(g:Int):(gx P O g).length<=2:=by
 unfold gx
 split
 ·split
  ·exact Ox _
  ·show 1<=2;decide
 ·rcases AA O P g with e|⟨b,_,e⟩
  ·rw[e];exact Ox _
  ·rw[e];exact Oo _
def Ca{l:List Int}{i j:Nat}(a:i<l.length)(b:j<l.length)(h:l.take i=l.take j):i=j:=by
 have:=congrArg List.length h;rw[OG,OG]at this;omega
def Jt (T:Txt K mg t):fi P w K mg base t.bt "spots" 2 t.wg t.t3 ["self"] (jQ t λH o D=>∃f ns ms,D=.sh f ns ms/\Tg t H o f ns ms):=by
 refine⟨T.cv,T.GW,T.MX,T.NF.okQ ow (λvs H Q E h=>by obtain⟨o,D,rfl,_⟩:=h;rfl) λ_ _ _ _ H vs Q E hr h=>?_⟩;obtain⟨o,_,rfl,⟨f,ns,ms,rfl,tg⟩,k⟩:=h;have hu:=hr.units;refine⟨_,(ao (aF (i:=1) ow.nd Z (.inl Z) (bh ag))
  (ao (bz PassesOwn.never rfl (gU rfl T.n_range (ab aq ag)) (aG (i:=2) ow.nd rfl (.inr rfl)) (ao (aF (i:=3) ow.nd rfl (.inr rfl) (lj (Jv T) hr (aa 0) (ab (aa 2) ag)))
  (ak (cU (dJ (K:=K) rfl O1 R6 R7 (yI (K:=K) rfl) (aa 1) (ab (fA rfl (cq.of (fns:=(aj jc).names) (N:=["self", "spots", "page", "longest"]) (Nc:=["size", "page", "longest"]) (nv:=1) (caps:=[2,3]) rfl rfl (by decide +kernel)) (gU rfl T.n_range (ab (bq (Of K) T.n_len OM (ab (aa 3) ag)) ag)) (λ_ _ _ _=>(aG (i:=0) (show List.Nodup (["size", "page", "longest"]:List Str) by decide +kernel) rfl (Or.inl rfl) (Or.inr rfl))) (λ_ _ _ _=>fu) (λ_ _ _ _=>(bE (ab (aa 1) (ab (cb (Oi K) (aa 2) cL (bN (aa 0))) ag))))) ag))))))
  (ak (aE (aa 1))))),?_⟩
 refine⟨sz Z,λp H1 g1=>?_⟩;refine⟨2,rfl,by decide,by decide,jr (lo:=0) (n:=2) (λi σ H'=>(∃ss:List bP,wu H H' p ss/\(ss.map λs=>s.2.2).Nodup/\ss.length<=2*i/\∀g b,(g,b)∈(ss.map λs=>s.2.2) ↔ ∃j:Nat,j<i/\g=(j:Int)/\∃k,k<(gx (ar g ns ms) (ar g ms ns) g).length/\b=(gx (ar g ns ms) (ar g ms ns) g).take k)/\∃v2 v3,σ=[some (.ref o),some (.ref p),v2,v3]) ⟨⟨[],⟨g1.sm,g1.nw,g1.at_,(λs h=>nomatch h)⟩,.nil,Oo _,λg b=>⟨(λh=>nomatch h),λ⟨j,O,_⟩=>Sd O (Py _)⟩⟩,_,_,rfl⟩ ?_ ?_⟩
 ·rintro i σ H2 hi ⟨⟨ss,⟨Y,np,p2,a6⟩,M,l2,d⟩,v2,v3,rfl⟩;have two:bB (0+(i:Int)):=by unfold bB;omega
  refine⟨o,f.dx,_,Z,(tg.mono Y).o,Z,?_⟩;refine⟨o,f,ns,ms,0+(i:Int),Z,two,tg.mono Y,λq H3 s3 nq hq=>?_⟩;obtain⟨L,eL⟩:∃L,L=gx (ar (0+(i:Int)) ns ms) (ar (0+(i:Int)) ms ns) (0+(i:Int)):=⟨_,rfl⟩;have lL:L.length<=2:=by rw[eL];exact HE _ _ _
  rw[<- eL]at hq;have p3:=s3 _ _ p2;refine⟨.inl ⟨rfl,_,.of p3⟩,?_⟩;refine⟨_,.inl (.of hq),?_⟩;rw[On];refine⟨(L.length:Int),rfl,by omega,by omega,?_⟩;rw[OX];refine Ap (lo:=0) (n:=L.length) (λj W H'=>af H3 H'/\∃us:List bP,W=us.map (λs=>V.ref s.1)/\(us.map λs=>s.2.2)=(List.range j).map (λm=>(0+(i:Int),L.take m))/\∀s∈us,qy H H' p s) ⟨af.refl _,[],rfl,rfl,λs h=>nomatch h⟩ (λj W H' _ z=>?_) (cy (by omega)) (λj W H4 N O z hN=>?_) λW H4 pc R z l=>?_
  ·obtain⟨_,us,rfl,e,_⟩:=z;have:=congrArg List.length e;rw[On,On,O0]at this;rw[On];omega
  ·obtain⟨F,us,rfl,e,it⟩:=z;simp only [ft,if_true];refine⟨_,Z,_,.of (F _ _ hq),λp5 R l=>?_⟩;rw[Pe,eI]at l;refine⟨sz rfl,λp6 H6 U=>hN _ _ ⟨F.trans (l.sm.trans U.sm),us++[(p6,p5,0+(i:Int),L.take j)],by rw[Ot];rfl,?_,λs v=>?_⟩⟩
   ·rw[Ot,e,PZ,Ot];rfl
   ·have sH4:af H H4:=Y.trans (s3.trans F);rcases Os.mp v with v|v
    ·obtain⟨B,G,I,C⟩:=it s v;exact⟨U.sm _ _ (l.sm _ _ B),U.sm _ _ (l.sm _ _ G),I,C⟩
    ·rw[Op.mp v];exact⟨U.at_,U.sm _ _ l.at_,sH4.free l.nw,(aO (F _ _ p3) l.nw).symm⟩
  ·obtain⟨F,us,rfl,e,it⟩:=z;have p5:=l.sm _ _ (F _ _ p3);refine⟨_,_,p5,l.at_,cy (by have:=congrArg List.length e;rw[On,On,O0]at this;rw[On,On];omega),?_⟩;have lu:us.length=L.length:=by have:=congrArg List.length e;rw[On,On,O0]at this;exact this
   have st:∀c u,c≠p->R c=some u->(upd R p (.lst (ss.map (λs=>V.ref s.1)++us.map λs=>V.ref s.1))) c=some u:=λc u nc e=>by rw[am nc];exact e
   have J:af H2 R:=s3.trans (F.trans l.sm);refine⟨⟨ss++us,⟨(Y.trans J).put np,np,by rw[aP,Ot],λs v=>?_⟩,?_,by rw[Oz];omega,λg b=>?_⟩,_,_,rfl⟩
   ·have kp:qy H R p s->qy H (upd R p (.lst (ss.map (λs=>V.ref s.1)++us.map λs=>V.ref s.1))) p s:=λ⟨B,G,I,C⟩=>⟨st _ _ (aD B p5 (by intro z;cases z)) B,st _ _ C G,I,C⟩;rcases Os.mp v with v|v
    ·obtain⟨B,G,I,C⟩:=a6 s v;exact kp ⟨J _ _ B,J _ _ G,I,C⟩
    ·obtain⟨B,G,I,C⟩:=it s v;exact kp ⟨l.sm _ _ B,l.sm _ _ G,I,C⟩
   ·rw[Ot,e];refine Pd.mpr ⟨M,?_,λx hx y hy z=>?_⟩
    ·refine Po.mpr (List.Pairwise.imp_of_mem (λ{a b} ha hb h z=>?_) (Rp (n:=L.length)));have z:=congrArg Prod.snd z;exact h (Ca (O2.mp ha) (O2.mp hb) z)
    ·obtain⟨m,_,rfl⟩:=Oq.mp hy;obtain⟨j,O,S,_⟩:=(d x.1 x.2).mp hx;rw[z]at S;have S:0+(i:Int)=(j:Int):=S;omega
   ·rw[Ot,Os,d,e,Oq]
    constructor
    ·rintro (⟨j,O,r⟩|⟨m,hm,z⟩)
     ·exact⟨j,by omega,r⟩
     ·injection z with z1 z2
      have e1:g=0+(i:Int):=z1.symm;subst e1;refine⟨i,by omega,by omega,m,?_,?_⟩
      ·rw[<- eL];exact O2.mp hm
      ·rw[<- eL];exact z2.symm
    ·rintro⟨j,O,S,r⟩;by_cases c:j<i
     ·exact .inl ⟨j,c,S,r⟩
     ·have c:j=i:=by omega
      have e1:g=0+(i:Int):=by omega
      subst e1;rw[<- eL]at r;obtain⟨m,hm,z⟩:=r;exact .inr ⟨m,O2.mpr hm,by rw[z]⟩
 ·rintro σ H2 ⟨⟨ss,sp,M,l2,d⟩,v2,v3,rfl⟩;refine k p ss H2 sp ⟨M,λg b=>?_⟩ (by omega);rw[d]
  constructor
  ·rintro⟨j,O,rfl,r⟩;exact⟨by show bB _;unfold bB;omega,yX.mp r⟩
  ·rintro⟨pg,r⟩;have two:bB g:=pg;exact⟨g.toNat,by unfold bB at two;omega,by unfold bB at two;omega,yX.mpr r⟩
theorem wI:∀ {kvs:List (List aw × V)} {i:Nat} {k:List aw} {v:V},(kvs.map λx=>x.1).Nodup->kvs[i]? = some (k,v)->aR kvs k=some v
 | [],_,_,_,_,h=>by simp at h
 | q::r,0,k,v,_,h=>by
  simp at h;subst h;exact eU Z
 | q::r,i+1,k,v,nd,h=>by
  obtain⟨a,b⟩:=Ph.mp nd;have h:r[i]? = some (k,v):=by simpa using h
  have ne:¬q.1=k:=λz=>a (Oq.mpr ⟨(k,v),OA h,z.symm⟩);rw[eV ne];exact wI b h
def Jn (T:Txt K mg t):fi P w K mg base t.bA "spots" 2 t.wd t.tX ["self"] (jQ t λH o D=>∃f es,D=.tb f es/\Tt t H o f es 1000/\Es es):=by
 refine⟨T.dy,T.GR,T.MR,T.Nz.okQ DF (λvs H Q E h=>by obtain⟨o,D,rfl,_⟩:=h;rfl) λ_ _ _ _ H vs Q E hr h=>?_⟩;obtain⟨a,_,rfl,⟨f,es,rfl,tt,ok⟩,k⟩:=h;have hu:=hr.units;obtain⟨o,⟨k1,k2,k3,a1,a2,a3,l1,l2,l3,kv⟩,ne⟩:=id tt;refine⟨_,(ak (aE (rk (fA rfl (cq.of (fns:=(aj ja).names) (N:=["self"]) (Nc:=["row", "rest"]) (nv:=2) (caps:=[]) rfl rfl (by decide +kernel)) (Er (cW (K:=K) rfl (aa 0))) (λ_ _ _ _=>(cN (K:=K) rfl (n:=2) rfl (bp (aG (i:=0) (show List.Nodup (["row", "rest"]:List Str) by decide +kernel) rfl (Or.inl rfl) (Or.inr rfl)) (bp (aG (i:=1) (show List.Nodup (["row", "rest"]:List Str) by decide +kernel) rfl (Or.inl rfl) (Or.inr rfl)) cM)))) (λ_ _ _ _=>(oz (gY (K:=K) rfl (aa 1)))) (λ_ _ _ _=>(bE (ab aq (ab (cO (Oh K) T.n_list O8 (ab (aa 0) ag)) ag)))))))),?_⟩;refine⟨f.d3,.dT k3,(λob v z=>by rw[a3]at z;cases z),?_⟩;refine⟨a,_,f.dx,_,_,Z,o,T.dy,T.oR,Z,?_⟩;refine⟨f.d3,k3,Z,a3,λob=>?_⟩;obtain⟨L,W⟩:∃L,L=upd H f.d3 (.frz ob (.dT k3)):=⟨_,rfl⟩;have d1:L f.d3=some (.frz ob (.dT k3)):=by rw[W,aP]
 have b1:∀c u,c≠f.d3->H c=some u->L c=some u:=λc u n e=>by rw[W,am n];exact e
 have f1:∀c,L c=none->H c=none:=λc e=>by
  by_cases n:c=f.d3
  ·rw[n,d1]at e;cases e
  ·rw[W,am n]at e;exact e
 rw[<- W];clear W;have av:∀ {i:Nat} {ky:List aw} {v:V},k3[i]? = some (ky,v)->∃B q I,ky=bM B/\v=.ref q/\H q=some (.tup (I.map V.int))/\∃Y∈es,Y.2=B++I:=λ{i ky v} h=>by
  obtain⟨B,U,q,I,x,y,z⟩:=kv.e ky (Oq.mpr ⟨_,OA h,rfl⟩);have:=wI kv.nd h;rw[U,x]at this;exact⟨B,q,I,U,(OI this).symm,y,z⟩
 refine Lu (K:=K) (λi ys H'=>af L H'/\i<=k3.length/\∃us:List bP,ys=us.map (λs=>V.ref s.1)/\us.length<=i/\(∀s∈us,s.2.2.1=0/\H' s.1=some (.tup [.int s.2.2.1,.ref s.2.1])/\H' s.2.1=some (.lst (s.2.2.2.map V.int))/\L s.2.1=none)/\(us.map λs=>bM s.2.2.2).Sublist ((k3.take i).map λx=>x.1)/\(∀s∈us,∃e∈es,∃m,m<e.2.length/\s.2.2.2=e.2.take m)/\∀(j:Nat) B,j<i->(∃v,k3[j]? = some (bM B,v))->(∃e∈es,∃m,m<e.2.length/\B=e.2.take m)->∃s∈us,s.2.2.2=B) ⟨af.refl _,Ox _,[],rfl,Oo _,(λs h=>nomatch h),.slnil,(λs h=>nomatch h),λj B h=>Sd h (Py _)⟩ (λi ys H' hi z=>⟨z.1 _ _ d1,?_⟩) (cy (by omega)) (λi ky b v ys H2 H3 N C hb z r hN=>?_) λys H2 p H3 z g=>?_
 ·obtain⟨_,_,us,rfl,lu,_⟩:=z;rw[On];exact lu
 ·obtain⟨F,_,us,rfl,lu,it,sub,al,J⟩:=z;have hi:i<k3.length:=(Ou.mp C).1;obtain⟨B,q,I,rfl,rfl,hq,Y,a0,ee⟩:=av C;have q3:=r _ _ (F _ _ (b1 _ _ (aD hq a3 (by intro z;cases z)) hq));refine⟨_,.inr (.of q3),?_⟩;have tk:(k3.take (i+1)).map (λx=>x.1)=(k3.take i).map (λx=>x.1)++[bM B]:=by rw[nU C,Ot];rfl
  refine aH (λz=>?_) (λz=>?_)
  ·have r0:I≠[]:=λe=>by rw[e]at z;cases z
   have b3:H3 b=some (.tup (B.map V.int)):=by rw[mX];exact r _ _ hb
   refine⟨_,.inr (.of b3),λl4 H4 g4=>?_⟩;refine⟨sz rfl,λp5 H5 g5=>hN _ _ ⟨F.trans (r.trans (g4.sm.trans g5.sm)),hi,us++[(p5,l4,0,B)],by rw[Ot];rfl,by rw[Oz];exact QN lu,λs d=>?_,?_,λs d=>?_,λj M R l hp=>?_⟩⟩
   ·rcases Os.mp d with d|d
    ·obtain⟨c0,S,G,c3⟩:=it s d;have sm:=r.trans (g4.sm.trans g5.sm);exact⟨c0,sm _ _ S,sm _ _ G,c3⟩
    ·rw[Op.mp d];exact⟨rfl,g5.at_,g5.sm _ _ g4.at_,(F.trans r).free g4.nw⟩
   ·rw[tk,Ot];exact sub.append (List.Sublist.refl _)
   ·rcases Os.mp d with d|d
    ·exact al s d
    ·rw[Op.mp d];refine⟨Y,a0,B.length,?_,?_⟩
     ·rw[ee,Oz];have:=PY.mpr r0;omega
     ·rw[ee];simp
   ·by_cases c:j<i
    ·obtain⟨s,d,z⟩:=J j M c l hp;exact⟨s,OZ _ d,z⟩
    ·obtain rfl:j=i:=by omega
     obtain⟨v,l⟩:=l;rw[C]at l
     injection l with l
     injection l with l _
     exact⟨_,ON _ (Op.mpr Z),lQ l⟩
  ·have r0:I=[]:=by
    cases I with
    | nil=>rfl
    | cons _ _=>exact Sd rfl z
   refine hN _ _ ⟨F.trans r,hi,us,rfl,by omega,λs d=>?_,by rw[tk];exact sub.trans (List.sublist_append_left _ _),al,λj M R l hp=>?_⟩
   ·obtain⟨c0,S,G,c3⟩:=it s d;exact⟨c0,r _ _ S,r _ _ G,c3⟩
   ·by_cases c:j<i
    ·exact J j M c l hp
    ·obtain rfl:j=i:=by omega
     obtain⟨v,l⟩:=l;rw[C]at l
     injection l with l
     injection l with l _
     obtain rfl:=lQ l;obtain⟨e2,ay,m,O,U⟩:=hp;rw[r0,Pg]at ee;have lr:B.length=m:=by rw[U,OG];omega
     have bg:ba Y.2 e2.2=true:=fE.mpr (by rw[ee,lr];exact U.symm);by_cases G:Y=e2
     ·rw[<- G,ee]at O;omega
     ·have:=(ok.two a0 ay).resolve_left G;unfold d5 at this;rw[bg]at this;simp at this
 ·obtain⟨F,_,us,rfl,lu,it,sub,al,J⟩:=z;rw[OK]at sub;have np:p≠f.d3:=(aO (F _ _ d1) g.nw).symm;refine⟨⟨ob,g.sm _ _ (F _ _ d1)⟩,k p us _ ⟨λc u e=>?_,f1 p (F.free g.nw),by rw[am np];exact g.at_,λs d=>?_⟩ ⟨?_,λgg b=>?_⟩ (by omega)⟩
  ·by_cases n:c=f.d3
   ·subst n;rw[aP,<- a3,e]
   ·rw[am n];exact g.sm _ _ (F _ _ (b1 c u n e))
  ·obtain⟨c0,S,G,c3⟩:=it s d;refine⟨?_,?_,f1 _ c3,aO G g.nw⟩
   ·rw[am (aD (g.sm _ _ S) (g.sm _ _ (F _ _ d1)) (by intro z;cases z))];exact g.sm _ _ S
   ·rw[am (aD (g.sm _ _ G) (g.sm _ _ (F _ _ d1)) (by intro z;cases z))];exact g.sm _ _ G
  ·have nd:=sub.nodup kv.nd;have nd:=Po.mp nd;exact Po.mpr (nd.imp λh z=>h (by rw[z]))
  ·rw[Oq]
   constructor
   ·rintro⟨s,d,z⟩;obtain⟨e,he,m,O,au⟩:=al s d;have z1:=congrArg Prod.fst z;have z2:=congrArg Prod.snd z;dsimp only at z1 z2;exact⟨by show gg=0;rw[<- z1];exact (it s d).1,(e.2,0),Oq.mpr ⟨e,he,rfl⟩,m,O,by rw[<- z2];exact au⟩
   ·rintro⟨pg,x,hx,m,O,rfl⟩;have pg:gg=0:=pg;obtain⟨e,he,rfl⟩:=Oq.mp hx;dsimp only at O ⊢;obtain⟨q,I,v,_⟩:=kv.c e he m (Qf O);obtain⟨j,R⟩:∃j:Nat,k3[j]? = some (bM (e.2.take m),V.ref q):=by
     unfold aR at v;obtain⟨y,hy,ey⟩:=OS.mp v;obtain⟨j,R⟩:=OY (Px hy);have:y.1=bM (e.2.take m):=by simpa using PM hy
     exact⟨j,by rw[R,<- this,<- ey]⟩
    obtain⟨s,d,z⟩:=J j (e.2.take m) (Ou.mp R).1 ⟨_,R⟩ ⟨e,he,m,O,rfl⟩;exact⟨s,d,by rw[pg,<- (it s d).1,<- z]⟩
def xo(t:Adr):Sp:=λvs H Q _=>∃(a:Addr) (f:Ft) (es:List (Int × List Int)) (q:Addr) (row:List Int) (g:Int),vs=[.ref a,.ref q,.int g]/\Tt t H a f es 1000/\Es es/\H q=some (.lst (row.map V.int)) /\
 ((∀e∈es,e.2≠row)->∀H',af H H'->Q .non H')/\(∀e∈es,e.2=row->∀p H',af H H'->H' p=some (.tup [.int e.1,.int g])->Q (.ref p) H')
def Gw (T:Txt K mg t):bD P w K mg base bQ 2 t.qk t.m7 ["self", "row", "page"] (xo t):=by
 refine T.Ny.okQ xD (λvs H Q E h=>by obtain⟨o,f,es,q,row,g,rfl,_⟩:=h;rfl) λ_ _ _ _ H vs Q E y h=>?_;obtain⟨a,f,es,q,row,g,rfl,v,ok,B,u,ks⟩:=h;have z:=y.units;refine⟨_,(ao (aF (i:=3) xD.nd Z (.inl Z) (x8 z (cW (K:=K) Z (aa 0)) (cO (jx (K:=K) Z) T.n_tuple Pu (ab (aa 1) ag))))
  (ak (aE (ix (aT jo (aa 3) bL (aV _)) bL (bE (ab (aa 3) (ab (aa 2) ag))))))),?_⟩
 obtain⟨o,⟨k1,k2,k3,F,l,G,_,_,_,m⟩,ne⟩:=id v;refine⟨a,_,f.dx,_,_,Z,o,T.dy,T.rL,Z,?_⟩;refine⟨f.d2,Z,.inr ⟨_,.inl l⟩,?_⟩;refine⟨_,.of B,λI x j=>?_⟩;have p:=j.at_;rw[mX]at p;refine⟨_,cw.t (j.sm _ _ l) p,?_⟩;by_cases c:∀e∈es,e.2≠row
 ·rw[m.b' row c];exact u c x j.sm
 ·obtain⟨e,D⟩:=Classical.not_forall.mp c;obtain⟨r,d⟩:=Classical.not_imp.mp D;have d:e.2=row:=Classical.not_not.mp d;have k:=m.b e r;rw[d]at k;rw[k];exact⟨sz Z,λs C n=>ks e r d s C (j.sm.trans n.sm) n.at_⟩
def Jl (T:Txt K mg t):gN P w K mg base t.bA "whole" 2 t.qk t.m7 ["self", "row", "page"] [] (xo t) :=
 ⟨T.dy,T.GQ,⟨_,T.MQ,.nil⟩,Gw T⟩
def xq:Sp:=λvs H Q _=>∃a b c:V,vs=[a,b,c]/\Q .non H
def Jg (T:Txt K mg t):gN P w K mg base t.cP "whole" 1 t.wa t.pE ["self", "row", "page"] [] xq :=
 ⟨T.nz,T.GL,⟨_,T.MN,.nil⟩,T.Nr.okQ DB (λvs H Q E h=>by obtain⟨a,b,c,rfl,_⟩:=h;rfl) λd A outer s H vs Q E e h=>by
  obtain⟨a,b,c,rfl,k⟩:=h;exact⟨_,(ak (aE bL)),k⟩⟩
def Jk (T:Txt K mg t):gN P w K mg base t.cP "fill" 1 t.wc t.pF ["self", "row", "page"] [] xq :=
 ⟨T.nz,T.GP,⟨_,T.MP,.nil⟩,T.Nw.okQ DE (λvs H Q E h=>by obtain⟨a,b,c,rfl,_⟩:=h;rfl) λd A outer s H vs Q E e h=>by
  obtain⟨a,b,c,rfl,k⟩:=h;exact⟨_,(ak (aE bL)),k⟩⟩
def iY(n:Int):Sp:=λvs H Q _=>∃o,vs=[o]/\Q (.int n) H
def rH (T:Txt K mg t):bD P w K mg base bQ 1 t.iH t.lZ ["self"] (iY 1) :=
 T.Nt.okQ DC (λvs H Q E h=>by obtain⟨o,rfl,_⟩:=h;rfl) λa A outer s H vs Q E b h=>by
  obtain⟨o,rfl,k⟩:=h;exact⟨_,(ak (aE aq)),k⟩
def Jh (T:Txt K mg t):fi P w K mg base t.cP "unit" 1 t.iH t.lZ ["self"] (iY 1):=⟨T.nz,T.GM,T.uX,rH T⟩
def Js (T:Txt K mg t):fi P w K mg base t.bt "unit" 1 t.iH t.lZ ["self"] (iY 1):=⟨T.cv,T.mt_ShiftTongue_unit,T.uX,rH T⟩
def Jm (T:Txt K mg t):fi P w K mg base t.bA "unit" 1 t.iH t.lZ ["self"] (iY 1):=⟨T.dy,T.mt_TableTongue_unit,T.uX,rH T⟩
def Ji (T:Txt K mg t):fi P w K mg base t.cP "spots" 1 t.wb t.tW ["self"] (jQ t λH o D=>D=.br):=by
 refine⟨T.nz,T.GN,T.MO,T.Nu.okQ DD (λvs H Q E h=>by obtain⟨o,D,rfl,_⟩:=h;rfl) λ_ _ _ _ H vs Q E d h=>?_⟩;obtain⟨o,D,rfl,rfl,k⟩:=h;refine⟨_,(ak (aE (bh ag))),?_⟩;exact⟨sz rfl,λp c a=>k p [] c ⟨a.sm,a.nw,a.at_,λs h=>nomatch h⟩ ⟨.nil,λg b=>⟨(λh=>nomatch h),λ⟨_,x,h,_⟩=>nomatch h⟩⟩ (Ox _)⟩
def ip(t:Adr):Sp:=λvs H Q _=>∃(o q:Addr) (D:Kt) (r:List Int) (g:Int),vs=[.ref o,.ref q,.int g]/\TN t H o D/\cR D g/\H q=some (.lst (r.map V.int))/\(∀b∈r,0<=b) /\
 (∀g',(r,g')∈bC D g->∀p n H',af H H'->H' p=some (.tup [.str "sign",.int n,.int g'])->Q (.ref p) H')/\((∀x∈bC D g,ba r x.1=false)->∀p H',af H H'->H' p=some (.tup [.str "none",.non,.int g])->Q (.ref p) H') /\
 (r∉(bC D g).map (λy=>y.1)->(∃x∈bC D g,ba r x.1=true)->∀p H',af H H'->H' p=some (.tup [.str "more",.non,.int g])->Q (.ref p) H')
def rJ (T:Txt K mg t):bD P w K mg base bQ 5 t.iI t.js ["self", "begun", "page"] (ip t):=by
 refine T.Nv.okQ xC (λvs H Q E h=>by obtain⟨o,q,D,r,g,rfl,_⟩:=h;rfl) λ_ _ _ _ H vs Q E k h=>?_;obtain⟨o,q,D,r,g,rfl,J,pg,v,N,ks,G,S⟩:=h;have hu:=k.units;refine⟨_,(ao (aF (i:=3) xC.nd Z (.inl Z) (gf (gk (Jg T) k (aa 0) (ab (aa 1) (ab (aa 2) ag))) (gf (gk (zz T) k (aa 0) (ab (aa 1) (ab (aa 2) ag))) (gk (Jl T) k (aa 0) (ab (aa 1) (ab (aa 2) ag))))))
  (ao (be (aT iE (aa 3) bL (aV _)) (ak (aE (bE (ab je (ab (aA (Og K) (aa 3) aq (λ_ _=>rfl)) (ab (aA (Og K) (aa 3) aq (λ_ _=>rfl)) ag)))))) bi)
  (ao (be (aT jo (gf (gk (Jk T) k (aa 0) (ab (aa 1) (ab (aa 2) ag))) (gf (gk (Jw T) k (aa 0) (ab (aa 1) (ab (aa 2) ag))) (gk (Jq T) k (aa 0) (ab (aa 1) (ab (aa 2) ag))))) bL (aV _)) (ak (aE (bE (ab je (ab bL (ab (aa 2) ag)))))) bi)
  (ak (aE (bE (ab je (ab bL (ab (aa 2) ag))))))))),?_⟩
 cases D with
 | br =>
  obtain⟨dx,R⟩:=id J;refine .inl ⟨o,dx,_,Z,R,Z,_,_,_,Z,?_⟩;refine .inl ⟨o,dx,_,Z,R,Z,_,_,_,Z,?_⟩;exact⟨sz rfl,λB l O=>G (λx h=>nomatch h) B l O.sm O.at_⟩
 | sh f ns ms =>
  obtain⟨y,l1,l2⟩:=id J;refine .inr (.inl ⟨o,f.dx,_,Z,y.o,Z,?_⟩);refine⟨o,f,ns,ms,q,r,g,Z,pg,y,v,N,λhw=>?_,λg' hw p n M F=>?_⟩
  ·refine .inr (.inl ⟨o,f.dx,_,Z,y.o,Z,?_⟩);refine⟨o,f,ns,ms,q,r,g,Z,pg,y,v,N,λno l d=>?_,λB Y l d U C hm=>?_⟩
   ·exact⟨sz Z,λc b a=>G no c b (d.trans a.sm) a.at_⟩
   ·obtain⟨x,hx,ex⟩:=Oq.mp hm;exact⟨sz rfl,λc b a=>S hw ⟨x,hx,fE.mpr (by rw[ex];simp)⟩ c b (d.trans a.sm) a.at_⟩
  ·refine⟨_,.int n,.inr F.tup,aY (j:=0) Z,?_⟩;refine⟨_,.int g',.inr F.tup,aY (j:=1) Z,?_⟩;exact⟨sz Z,λc b a=>ks g' hw c n b (F.sm.trans a.sm) a.at_⟩
 | tb f es =>
  obtain⟨u,ok,l8⟩:=id J;obtain rfl:g=0:=pg;refine .inr (.inr ⟨o,f.dx,_,Z,u.o,Z,?_⟩);refine⟨o,f,es,q,r,0,Z,u,ok,v,λW M s1=>?_,λe s m p M s1 L=>?_⟩
  ·refine .inr (.inr ⟨o,f.dx,_,Z,(u.mono s1).o,Z,?_⟩);refine⟨o,f,es,q,r,0,Z,u.mono s1,s1 _ _ v,λno l d=>?_,λB Y l d U C ⟨e,s,ee⟩=>?_⟩
   ·refine⟨sz Z,λc b a=>G (λx hx=>?_) c b (s1.trans (d.trans a.sm)) a.at_⟩;obtain⟨e,s,rfl⟩:=Oq.mp hx;exact no e s
   ·refine⟨sz rfl,λc b a=>S (λz=>?_) ⟨(e.2,0),Oq.mpr ⟨e,s,rfl⟩,fE.mpr (by show e.2.take r.length=r;rw[ee];simp)⟩ c b (s1.trans (d.trans a.sm)) a.at_⟩;obtain⟨x,hx,ex⟩:=Oq.mp z;obtain⟨V,I,rfl⟩:=Oq.mp hx;exact W V I ex
  ·refine⟨_,_,.inr (.of L),aY (j:=0) Z,?_⟩;refine⟨_,_,.inr (.of L),aY (j:=1) Z,?_⟩;exact⟨sz rfl,λc b a=>ks 0 (Oq.mpr ⟨e,s,by rw[m]⟩) c e.1 b (s1.trans a.sm) a.at_⟩
def Jj (T:Txt K mg t):gN P w K mg base t.cP "look" 5 t.iI t.js ["self", "begun", "page"] [] (ip t):=⟨T.nz,T.GO,⟨_,T.uY,.nil⟩,rJ T⟩
def Ju (T:Txt K mg t):gN P w K mg base t.bt "look" 5 t.iI t.js ["self", "begun", "page"] [] (ip t):=⟨T.cv,T.mt_ShiftTongue_look,⟨_,T.uY,.nil⟩,rJ T⟩
def Jp (T:Txt K mg t):gN P w K mg base t.bA "look" 5 t.iI t.js ["self", "begun", "page"] [] (ip t):=⟨T.dy,T.mt_TableTongue_look,⟨_,T.uY,.nil⟩,rJ T⟩
end
end My
namespace My
open PySem L2
def AO(H:Hp)(k:ai)(v:V):Prop:=∃a l,v=.ref a/\H a=some (.tup [.int k.1,.ref l])/\H l=some (.lst (k.2.map V.int))
def iK.uniq{R:List Rw}(ok:iK R){x y:Rw}(hx:x∈R)(hy:y∈R)(h:ba x.1 y.1=true):x=y:=by
 obtain⟨i,a,rfl⟩:=Qp.mp hx;obtain⟨j,b,rfl⟩:=Qp.mp hy;rcases Rg i j with c|c|c
 ·have:=(PL.mp ok.pw i j a b c).1;rw[h]at this;cases this
 ·subst c;rfl
 ·have:=(PL.mp ok.pw j i b a c).2;rw[h]at this;cases this
class Tb where
 D:Kt
 ok:∀g:Int,g=0\/g=1->iK (bC D g)
def iA{D:Kt}{g:Int}(h:cR D g):g=0\/g=1:=by
 cases D with
 | sh f ns ms=>exact h
 | tb f es=>exact .inl h
 | br=>exact .inl h
def yi{D:Kt}{g:Int}(h:cR D g){x:Rw}(hx:x∈bC D g):cR D x.2:=by
 cases D with
 | sh f ns ms =>
  rcases eX.mp hx with ⟨b,_,rfl⟩|⟨b,_,rfl⟩
  ·exact h
  ·exact bB.flip h
 | tb f es=>obtain⟨e,_,rfl⟩:=Oq.mp hx;exact Z
 | br=>cases hx
structure S0 [B:Tb] (sq:List ai):Prop where
 nd:sq.Nodup
 mem:∀k,k∈sq ↔ cR B.D k.1/\∃x∈bC B.D k.1,∃m,m<x.1.length/\k.2=x.1.take m
def S0.len[B:Tb]{f:List ai}(h:S0 f):f.length<=384:=by
 have all:∀(g:Int) (a:List Rw),(∀r∈a,r.1.length<=6)->(a.flatMap λr=>(List.range r.1.length).map λk=>((g,r.1.take k):ai)).length<=6*a.length:=by
  intro g a
  induction a with
  | nil=>intro _;exact Oo _
  | cons r a ih =>
   intro h;rw[List.flatMap_cons,Oz,On,O0,OV];have:=h r (OP ..);have:=ih λx hx=>h x (OQ _ hx);omega
 have one:∀g:Int,g=0\/g=1->((bC B.D g).flatMap λr=>(List.range r.1.length).map λk=>((g,r.1.take k):ai)).length<=96:=λg c=>by
  have l1:=all g (bC B.D g) λr b=>((B.ok g c).sg r b).2.1;have o:=(B.ok g c).l;omega
 have l1:=P1 h.nd (l₂:=((bC B.D 0).flatMap λr=>(List.range r.1.length).map λk=>(((0:Int),r.1.take k):ai))++((bC B.D 1).flatMap λr=>(List.range r.1.length).map λk=>(((1:Int),r.1.take k):ai))) λk n=>by
  obtain⟨kp,d⟩:=k;obtain⟨j,r,b,m,i,e⟩:=(h.mem (kp,d)).mp n;have e:d=r.1.take m:=e;subst e;rcases iA j with z|z
  ·have z:kp=0:=z;subst z;exact OZ _ (List.mem_flatMap.mpr ⟨r,b,Oq.mpr ⟨m,O2.mpr i,Z⟩⟩)
  ·have z:kp=1:=z;subst z;exact ON _ (List.mem_flatMap.mpr ⟨r,b,Oq.mpr ⟨m,O2.mpr i,Z⟩⟩)
 rw[Oz]at l1;have:=one 0 (.inl rfl);have:=one 1 (.inr rfl);omega
section
variable {P:Program}{w:World}{K:PySem.W.Frag}{mg:Str->Option Value}{base:Heap}{t:Adr}
def TO[B:Tb](t:Adr)(H:Hp)(o:Addr):Prop:=TN t H o B.D
def TO.same[B:Tb]{H H':Hp}{o:Addr}(s:af H H')(h:TO t H o):TO t H' o:=TN.mono h s
open Classical in
noncomputable def nx[B:Tb](k:ai)(u:List Int):Option ai:=match (bC B.D k.1).find? λx=>decide (x.1=k.2++u) with
 | some x=>some (x.2,[])
 | none=>if ∃x∈bC B.D k.1,ba (k.2++u) x.1=true then some (k.1,k.2++u) else none
def Gd[B:Tb](k:ai):Prop:=cR B.D k.1/\k.2.length<=10/\∀b∈k.2,0<=b
def yD[B:Tb]{k f:ai}{u:List Int}(d:cR B.D k.1)(h:nx k u=some f):Gd f:=by
 unfold nx at h
 split at h
 ·rename_i x e;cases h;exact⟨yi d (Px e),Ox _,λb a=>nomatch a⟩
 ·split at h
  ·rename_i c;cases h;obtain⟨x,hx,i⟩:=c;have z:=fE.mp i;obtain⟨_,j,bs⟩:=(B.ok _ (iA d)).sg x hx;have g:=congrArg List.length z;rw[OG]at g;refine⟨d,by show (k.2++u).length<=10;omega,λb a=>(bs b ?_).1⟩;have a:b∈k.2++u:=a;rw[<- z]at a;exact Pj a
  ·cases h
def Hy{H:Hp}{o:Addr}{D:Kt}{σ:St}{to:TE}{a:TA}{N:VK}(b:TN t H o D)(d:∀R:VK,R (V.ref o) H->to σ H R)(c:a σ H λxs g=>ip t (V.ref o::xs++[]) g N E0) :
 eh t.cP "look" (ip t) [] E0 to a σ H N\/eh t.bt "look" (ip t) [] E0 to a σ H N\/eh t.bA "look" (ip t) [] E0 to a σ H N:=by
 cases D with
 | br=>obtain⟨dx,e⟩:=b;exact .inl (d _ ⟨o,dx,_,Z,e,Z,c⟩)
 | sh f ns ms=>exact .inr (.inl (d _ ⟨o,f.dx,_,rfl,b.1.o,rfl,c⟩))
 | tb f es=>exact .inr (.inr (d _ ⟨o,f.dx,_,rfl,b.1.o,rfl,c⟩))
def BE{H:Hp}{o:Addr}{D:Kt}{σ:St}{to:TE}{N:VK}(a:TN t H o D)(b:∀R:VK,R (V.ref o) H->to σ H R)(h:N (.int 1) H) :
 eh t.cP "unit" (iY 1) [] E0 to fX σ H N\/eh t.bt "unit" (iY 1) [] E0 to fX σ H N\/eh t.bA "unit" (iY 1) [] E0 to fX σ H N:=by
 cases D with
 | br=>obtain⟨dx,c⟩:=a;exact .inl (b _ ⟨o,dx,_,Z,c,Z,_,Z,h⟩)
 | sh f ns ms=>exact .inr (.inl (b _ ⟨o,f.dx,_,rfl,a.1.o,rfl,_,rfl,h⟩))
 | tb f es=>exact .inr (.inr (b _ ⟨o,f.dx,_,rfl,a.1.o,rfl,_,rfl,h⟩))
def Cy{H:Hp}{o:Addr}{D:Kt}{σ:St}{to:TE}{N:VK}(a:TN t H o D)(b:∀R:VK,R (V.ref o) H->to σ H R)(h:∀p ss H',wu H H' p ss->AN D (ss.map λs=>s.2.2)->ss.length<=1000->N (.ref p) H') :
 eh t.cP "spots" (jQ t λH o D=>D=.br) [] E0 to fX σ H N\/eh t.bt "spots" (jQ t λH o D=>∃f ns ms,D=.sh f ns ms/\Tg t H o f ns ms) [] E0 to fX σ H N\/eh t.bA "spots" (jQ t λH o D=>∃f es,D=.tb f es/\Tt t H o f es 1000/\Es es) [] E0 to fX σ H N:=by
 cases D with
 | br=>obtain⟨dx,c⟩:=a;exact .inl (b _ ⟨o,dx,_,Z,c,Z,o,_,Z,Z,h⟩)
 | sh f us ms=>exact .inr (.inl (b _ ⟨o,f.dx,_,rfl,a.1.o,rfl,o,_,rfl,⟨f,us,ms,rfl,a.1⟩,h⟩))
 | tb f es=>exact .inr (.inr (b _ ⟨o,f.dx,_,rfl,a.1.o,rfl,o,_,rfl,⟨f,es,rfl,a.1,a.2.1⟩,h⟩))
def CK(K:PySem.W.Frag)(t:Adr):Sp:=λvs H Q _=>∃(B:Tb) (o p u:Addr) (k:ai) (us:List Int),vs=[.ref o,.ref p,.ref u]/\TO t H o/\cG H k p/\H u=some (.tup (us.map V.int))/\Gd k/\(us.length<=100/\∀b∈us,0<=b) /\
 (nx k us=none->∀H',af H H'->Q .non H')/\∀k' q H',nx k us=some k'->af H H'->cG H' k' q->Q (.ref q) H'
def IO (T:Txt K mg t):bo P w K mg base "spot_behind" 6 t.vD t.tw ["tongue", "spot", "unit"] (CK K t):=by
 refine⟨T.JZ,T.Bh.kp,T.Mq,T.Bh.okQ qX (λvs H Q E h=>by obtain⟨B,o,p,u,k,us,rfl,_⟩:=h;rfl) λ_ _ _ _ H vs Q E v h=>?_⟩;obtain⟨B,o,p,u,⟨kp,d⟩,us,rfl,ho,⟨b,U,N⟩,G,⟨r,q,C⟩,hl,kn,ks⟩:=h;have hu:=v.units;refine⟨_,(ao (aF (i:=3) qX.nd Z (.inl Z) (bG (Ko (K:=K) Z) (aA (Og K) (aa 1) aq (λ_ _=>rfl)) (aa 2)))
  (ao (aF (i:=4) qX.nd rfl (.inl rfl) (gf (gk (Jj T) v (aa 0) (ab (cO (Oh K) T.n_list O8 (ab (aa 3) ag)) (ab (aA (Og K) (aa 1) aq (λ_ _=>rfl)) ag))) (gf (gk (Ju T) v (aa 0) (ab (cO (Oh K) T.n_list O8 (ab (aa 3) ag)) (ab (aA (Og K) (aa 1) aq (λ_ _=>rfl)) ag))) (gk (Jp T) v (aa 0) (ab (cO (Oh K) T.n_list O8 (ab (aa 3) ag)) (ab (aA (Og K) (aa 1) aq (λ_ _=>rfl)) ag))))))
  (ao (be (aT (cK (K:=K) rfl hu) (aA (Og K) (aa 4) aq (λ_ _=>rfl)) je (aV _)) (ak (aE bL)) bi)
  (ak (aE (bE (ab (aA (Og K) (aa 4) aq (λ_ _=>rfl)) (ab (ix (aT (cK (K:=K) rfl hu) (aA (Og K) (aa 4) aq (λ_ _=>rfl)) je (aV _)) (bE ag) (aa 3)) ag)))))))),?_⟩
 refine⟨_,.ref b,.inr (.of U),aY (j:=1) Z,?_⟩;have a7:=hl.1;have q:d.length<=10:=q;refine⟨b,u,_,_,rfl,rfl,N,G,cy (by simp;omega),λL Y s1 f=>?_⟩;rw[<- Ot]at f;have f:Y L=some (.tup ((d++us).map V.int)):=f;refine bW ?_;dsimp only;refine fY (λS H'=>∃(g:Addr) (x:Str) (n:V) (g':Int),S=[some (.ref o),some (.ref p),some (.ref u),some (.ref L),some (.ref g)]/\af Y H'/\H' g=some (.tup [.str x,n,.int g'])/\((x = "sign"/\nx (kp,d) us=some (g',[]))\/(x = "none"/\nx (kp,d) us=none)\/(x = "more"/\g'=kp/\nx (kp,d) us=some (kp,d++us)))) (λa4 J=>?_) ?_
 ·refine Hy (ho.same s1) (λ_ z=>z) ?_;refine⟨_,.inr (.of f),λlb H2 m=>?_⟩;refine⟨_,.int kp,.inr (.of (m.sm _ _ (s1 _ _ U))),aY (j:=0) Z,?_⟩;have uq:∀x∈bC B.D kp,x.1=d++us->(bC B.D kp).find? (λx=>decide (x.1=d++us))=some x:=λx hx ex=>by
   cases c:(bC B.D kp).find? λx=>decide (x.1=d++us) with
   | none=>exact Sd (Pf.mp c x hx) (by simp[ex])
   | some y =>
    have ym:=Px c;have ey:y.1=d++us:=by simpa using PM c
    rw[(B.ok kp (iA r)).uniq ym hx (fE.mpr (by rw[ex,ey,OK]))]
  refine⟨o,lb,B.D,d++us,kp,rfl,(ho.same s1).same m.sm,r,m.at_,λb N=>(Os.mp N).elim (C b) (hl.2 b),λg' hm g n W sC a=>J _ _ ⟨g, "sign",_,g',rfl,m.sm.trans sC,a,.inl ⟨rfl,?_⟩⟩,λno g W sC a=>J _ _ ⟨g, "none",_,kp,rfl,m.sm.trans sC,a,.inr (.inl ⟨rfl,?_⟩)⟩,λn1 n2 g W sC a=>J _ _ ⟨g, "more",_,kp,rfl,m.sm.trans sC,a,.inr (.inr ⟨rfl,rfl,?_⟩)⟩⟩
  ·unfold nx;dsimp only;rw[uq _ hm rfl]
  ·unfold nx;dsimp only;have F:(bC B.D kp).find? (λx=>decide (x.1=d++us))=none:=Pf.mpr λx hx z=>by
    have ex:x.1=d++us:=Se z;have:=no x hx;rw[ex,fE.mpr OK]at this;cases this
   rw[F];dsimp only;rw[Sb λ⟨x,hx,z⟩=>by have:=no x hx;rw[z]at this;cases this]
  ·unfold nx;dsimp only;have F:(bC B.D kp).find? (λx=>decide (x.1=d++us))=none:=Pf.mpr λx hx z=>n1 (Oq.mpr ⟨x,hx,Se z⟩);rw[F];dsimp only;rw[Sc n2]
 rintro S H2 ⟨g,x,n,g',rfl,s,a,hx⟩;have hok:PyData.strOk x=true:=by
  rcases hx with ⟨z,_⟩|⟨z,_⟩|⟨z,_⟩<;>rw[z]<;>decide +kernel
 refine⟨_,.str x,.inr (.of a),aY (j:=0) Z,?_⟩;refine⟨_,_,aU.str x,aU.str _,by simp[SeqAt.shaped,PyData.canLay0,PyData.depth,hok],by decide +kernel,?_⟩;refine aH (λe=>?_) (λe=>?_)
 ·have ex:x = "none":=by simpa [PyData.eqv] using e
  refine kn ?_ _ (s1.trans s);rcases hx with ⟨z,_⟩|⟨_,y⟩|⟨z,_⟩
  ·exact Sd (z.symm.trans ex) (by decide)
  ·exact y
  ·exact Sd (z.symm.trans ex) (by decide)
 ·refine⟨_,.int g',.inr (.of a),aY (j:=2) Z,?_⟩;refine⟨_,.str x,.inr (.of a),aY (j:=0) Z,?_⟩;refine⟨_,_,aU.str x,aU.str _,by simp[SeqAt.shaped,PyData.canLay0,PyData.depth,hok],by decide +kernel,?_⟩;refine aH (λR=>?_) (λR=>?_)
  ·have ex:x = "sign":=by simpa [PyData.eqv] using R
   have y:nx (kp,d) us=some (g',[]):=by
    rcases hx with ⟨_,y⟩|⟨z,_⟩|⟨z,_⟩
    ·exact y
    ·exact Sd (z.symm.trans ex) (by decide)
    ·exact Sd (z.symm.trans ex) (by decide)
   refine⟨sz Z,λq0 H3 g3=>?_⟩;refine⟨sz Z,λM I l=>ks (g',[]) M I y (s1.trans (s.trans (g3.sm.trans l.sm))) ⟨q0,l.at_,l.sm _ _ g3.at_⟩⟩
  ·have ex:x ≠ "sign":=λz=>R (by rw[z];decide +kernel);have O:x ≠ "none":=λz=>e (by rw[z];decide +kernel);obtain⟨rfl,y⟩:g'=kp/\nx (kp,d) us=some (kp,d++us):=by
    rcases hx with ⟨z,_⟩|⟨z,_⟩|⟨_,y⟩
    ·exact Sd z ex
    ·exact Sd z O
    ·exact y
   refine⟨sz Z,λM I l=>ks (g',d++us) M I y (s1.trans (s.trans l.sm)) ⟨L,l.at_,l.sm _ _ (s _ _ f)⟩⟩
end
end My
namespace My
open PySem L2
def ff(H:Hp)(k:ai)(v:V):Prop:=∃p,v=.ref p/\cG H k p
def dN(H:Hp)(v:V)(ks:List ai):Prop:=∃l vs,v=.ref l/\H l=some (.lst vs)/\Paired (ff H) ks vs
def gL(H:Hp)(d:Addr)(a:List (ai × List ai)):Prop:=∃kvs,DN H d kvs/\Paired (λ(x:ai × Addr × V) (y:ai × List ai)=>x.1=y.1/\dN H x.2.2 y.2) kvs a
def ff.same{H H':Hp}(s:af H H')(k:ai)(v:V)(h:ff H k v):ff H' k v:=by
 obtain⟨p,rfl,h⟩:=h;exact⟨p,Z,h.same s⟩
def dN.same{H H':Hp}(s:af H H'){v:V}{ks:List ai}(h:dN H v ks):dN H' v ks:=by
 obtain⟨l,vs,rfl,b,a⟩:=h;exact⟨l,vs,Z,s _ _ b,Paired.mapP a λk v=>ff.same s k v⟩
def gL.same{H H':Hp}(s:af H H'){d:Addr}{a:List (ai × List ai)}(h:gL H d a):gL H' d a:=by
 obtain⟨kvs,c,b⟩:=h;exact⟨kvs,c.same s,Paired.mapP b λx y z=>⟨z.1,z.2.same s⟩⟩
def uj{H:Hp}{d:Addr}{kvs:List (ai × Addr × V)}(h:DN H d kvs):∃φ,H d=some (.ext φ):=by
 obtain⟨⟨xs,ep,h,_⟩,_⟩:=h;exact⟨_,h⟩
def HM{H H':Hp}{d:Addr}(e:∃φ,H d=some (.ext φ))(s:∀c,c≠d->H' c=H c){k:ai}{p:Addr}(h:cG H k p):cG H' k p:=by
 obtain⟨φ,e⟩:=e;obtain⟨b,f,a⟩:=h;refine⟨b,by rw[s _ (mS f e (by intro z;cases z))];exact f,by rw[s _ (mS a e (by intro z;cases z))];exact a⟩
def rR{H H':Hp}{d:Addr}(e:∃φ,H d=some (.ext φ))(s:∀c,c≠d->H' c=H c){v:V}{ks:List ai}(h:dN H v ks):dN H' v ks:=by
 obtain⟨l,vs,rfl,a,b⟩:=h;obtain⟨φ,f⟩:=id e;refine⟨l,vs,rfl,by rw[s _ (mS a f (by intro z;cases z))];exact a,Paired.mapP b λk v z=>?_⟩;obtain⟨p,rfl,z⟩:=z;exact⟨p,Z,HM e s z⟩
def q9{H a H':Hp}{d:Addr}(s0:af H a)(hd:H d=none)(s:∀c,c≠d->H' c=a c):af H H':=λb o h=>by
 rw[s b (aO h hd)];exact s0 _ _ h
def bH(a:List (ai × List ai))(k:ai):Option (List ai):=(a.find? λx=>decide (x.1=k)).map (·.2)
def gq(a:List (ai × List ai))(k:ai)(l:List ai):List (ai × List ai):=if (bH a k).isSome then a.map (λx=>if x.1=k then (x.1,l) else x) else a++[(k,l)]
noncomputable def io[B:Tb](u:List Int)(ly:List (ai × List ai))(k:ai):List (ai × List ai):=match nx k u with
 | none=>ly
 | some g=>gq ly g ((bH ly g).getD []++[k])
noncomputable def beh[B:Tb](ks:List ai)(u:List Int):List (ai × List ai):=ks.foldl (io u) []
def rS{H:Hp}{kvs:List (ai × Addr × V)}{d:List (ai × List ai)}(r:Paired (λ(x:ai × Addr × V) (y:ai × List ai)=>x.1=y.1/\dN H x.2.2 y.2) kvs d)(k:ai):(cH kvs k=none/\bH d k=none)\/∃v l,cH kvs k=some v/\bH d k=some l/\dN H v l:=by
 induction r with
 | nil=>exact .inl ⟨rfl,rfl⟩
 | @cons p q ps qs h t ih =>
  by_cases e:p.1=k
  ·have c:q.1=k:=h.1.symm.trans e;exact .inr ⟨p.2.2,q.2,by simp[cH,OR,e],by simp[bH,OR,c],h.2⟩
  ·have c:¬q.1=k:=λz=>e (h.1.trans z);have a:cH (p::ps) k=cH ps k:=by simp[cH,OR,e]
   have b:bH (q::qs) k=bH qs k:=by simp[bH,OR,c]
   rw[a,b];exact ih
def yU{H H':Hp}{kvs:List (ai × Addr × V)}{d:List (ai × List ai)}(r:Paired (λ(x:ai × Addr × V) (y:ai × List ai)=>x.1=y.1/\dN H x.2.2 y.2) kvs d)(k:ai)(b:Addr){v:V}{l:List ai}(up:∀ {v ks},dN H v ks->dN H' v ks)(f:dN H' v l) :
 Paired (λ(x:ai × Addr × V) (y:ai × List ai)=>x.1=y.1/\dN H' x.2.2 y.2) (gp kvs k b v) (gq d k l):=by
 have e:(cH kvs k).isSome=(bH d k).isSome:=by
  rcases rS r k with ⟨a,b⟩|⟨v,l,a,b,_⟩<;>rw[a,b]<;>rfl
 unfold gp gq;rw[e]
 split
 ·rename_i c;clear e c
  induction r with
  | nil=>exact .nil
  | @cons p q ps qs h t ih =>
   rw[OD,OD];refine .cons ?_ ih;by_cases e:p.1=k
   ·rw[Sc e,Sc (h.1.symm.trans e)];exact⟨h.1,f⟩
   ·rw[Sb e,Sb (λz=>e (h.1.trans z))];exact⟨h.1,up h.2⟩
 ·exact Paired.snoc (Paired.mapP r λx y z=>⟨z.1,up z.2⟩) ⟨rfl,f⟩
structure fV [B:Tb] (u:List Int) (ks:List ai) (ly:List (ai × List ai)):Prop where
 nd:(ly.map (·.1)).Nodup
 mem:∀g l,(g,l)∈ly->l≠[]/\l.Nodup/\l.length<=ks.length/\∀k,k∈l ↔ k∈ks/\nx k u=some g
 all:∀k g,k∈ks->nx k u=some g->∃l,(g,l)∈ly
 len:ly.length<=ks.length
def lW{b:List (ai × List ai)}{k:ai}{l:List ai}(h:bH b k=some l):(k,l)∈b:=by
 unfold bH at h;obtain⟨x,a,c⟩:=OS.mp h;have e:x.1=k:=by simpa using PM a
 rw[<- e,<- c];exact Px a
def zC{a:List (ai × List ai)}{k:ai}(h:bH a k=none):∀l,(k,l)∉a:=by
 unfold bH at h;rw[Qe,Pf]at h;intro l b;simpa using h _ b
def fV.step[B:Tb]{u:List Int}{ks:List ai}{i:List (ai × List ai)}(c:fV u ks i){k:ai}(F:k∉ks):fV u (ks++[k]) (io u i k):=by
 unfold io;cases hn:nx k u with
 | none =>
  refine⟨c.nd,λg l h=>?_,λf g o d=>?_,by have:=c.len;simp;omega⟩
  ·obtain⟨n,m,v,p⟩:=c.mem g l h;refine⟨n,m,by simp;omega,λf=>?_⟩;rw[p,Os,Op]
   constructor
   ·rintro⟨x,y⟩;exact⟨.inl x,y⟩
   ·rintro⟨x|x,y⟩
    ·exact⟨x,y⟩
    ·rw[x,hn]at y;cases y
  ·rcases Os.mp o with z|z
   ·exact c.all f g z d
   ·rw[Op.mp z,hn]at d;cases d
 | some g0 =>
  show fV u (ks++[k]) (gq i g0 ((bH i g0).getD []++[k]));cases hg:bH i g0 with
  | none =>
   have no:=zC hg;have e:gq i g0 ((none:Option (List ai)).getD []++[k])=i++[(g0,[k])]:=by unfold gq;rw[hg];rfl
   rw[e];refine⟨?_,λg l h=>?_,λf g o d=>?_,by have:=c.len;simp;omega⟩
   ·rw[Ot];refine Pd.mpr ⟨c.nd,by simp,λa q b r=>?_⟩;rintro rfl;obtain⟨x,hx,rfl⟩:=Oq.mp q;have:x.1=g0:=by simpa using r
    exact no x.2 (by rw[<- this];exact hx)
   ·rcases Os.mp h with z|z
    ·obtain⟨n,m,v,p⟩:=c.mem g l z;refine⟨n,m,by simp;omega,λf=>?_⟩;rw[p,Os,Op]
     constructor
     ·rintro⟨x,y⟩;exact⟨.inl x,y⟩
     ·rintro⟨x|x,y⟩
      ·exact⟨x,y⟩
      ·rw[x,hn]at y;cases y;exact Sd z (no l)
    ·have C:=Op.mp z
     injection C with z1 z2
     subst z1 z2;refine⟨by simp,by simp,by simp,λf=>?_⟩;rw[Os,Op]
     constructor
     ·rintro rfl;exact⟨.inr Z,hn⟩
     ·rintro⟨x|x,y⟩
      ·obtain⟨l,j⟩:=c.all f _ x y;exact Sd j (no l)
      ·exact x
   ·rcases Os.mp o with z|z
    ·obtain⟨l,j⟩:=c.all f g z d;exact⟨l,OZ _ j⟩
    ·rw[Op.mp z,hn]at d;cases d;exact⟨[k],ON _ (Op.mpr Z)⟩
  | some l0 =>
   have yes:=lW hg;have e:gq i g0 ((some l0).getD []++[k])=i.map λx=>if x.1=g0 then (x.1,l0++[k]) else x:=by unfold gq;rw[hg];rfl
   rw[e];obtain⟨G,D,I,s⟩:=c.mem g0 l0 yes;refine⟨?_,λg l h=>?_,λf g o d=>?_,by have:=c.len;simp;omega⟩
   ·rw[Pw];have:((λx:ai × List ai=>x.1) ∘ λx:ai × List ai=>if x.1=g0 then (x.1,l0++[k]) else x)=λx=>x.1:=by
     funext x
     simp only [Function.comp]
     split<;>rfl
    rw[this];exact c.nd
   ·obtain⟨x,hx,ex⟩:=Oq.mp h;by_cases e1:x.1=g0
    ·rw[Sc e1]at ex
     injection ex with z1 z2
     subst z1 z2;rw[e1]at *;refine⟨by simp,?_,by simp;omega,λf=>?_⟩
     ·refine Pd.mpr ⟨D,by simp,λa q b r=>?_⟩;rintro rfl;exact F ((Op.mp r) ▸ ((s a).mp q).1)
     ·rw[Os,Op,Os,Op,s]
      constructor
      ·rintro (⟨x,y⟩|rfl)
       ·exact⟨.inl x,y⟩
       ·exact⟨.inr Z,hn⟩
      ·rintro⟨x|x,y⟩
       ·exact .inl ⟨x,y⟩
       ·exact .inr x
    ·rw[Sb e1]at ex;subst ex;obtain⟨n,m,v,p⟩:=c.mem g l hx;refine⟨n,m,by simp;omega,λf=>?_⟩;rw[p,Os,Op]
     constructor
     ·rintro⟨x,y⟩;exact⟨.inl x,y⟩
     ·rintro⟨x|x,y⟩
      ·exact⟨x,y⟩
      ·rw[x,hn]at y;cases y;exact Sd Z e1
   ·rcases Os.mp o with z|z
    ·obtain⟨l,j⟩:=c.all f g z d;by_cases e1:g=g0
     ·exact⟨_,Oq.mpr ⟨_,j,by rw[Sc e1]⟩⟩
     ·exact⟨l,Oq.mpr ⟨_,j,by rw[Sb e1]⟩⟩
    ·rw[Op.mp z,hn]at d;cases d;exact⟨_,Oq.mpr ⟨_,yes,by rw[Sc rfl]⟩⟩
def fV.nil[B:Tb](u:List Int):fV u [] []:=⟨PR,λ_ _ h=>(nomatch h),λ_ _ h=>(nomatch h),Oo _⟩
theorem Av[B:Tb]{u:List Int}:∀(ks a:List ai) (b:List (ai × List ai)),fV u a b->(a++ks).Nodup->fV u (a++ks) (ks.foldl (io u) b)
 | [],a,b,c,_=>by rw[Pg];exact c
 | k::ks,a,b,c,nd=>by
  have d:k∉a:=λz=>(Pd.mp nd).2.2 k z k (OP ..) rfl;have:=Av ks (a++[k]) (io u b k) (c.step d) (by rw[Pr];exact nd);rw[Pr]at this;exact this
def mh[B:Tb]{u:List Int}{ks:List ai}(nd:ks.Nodup):fV u ks (beh ks u):=Av ks [] [] (fV.nil u) nd
end My
namespace My
open PySem L2
section
variable {P:Program}{w:World}{K:PySem.W.Frag}{mg:Str->Option Value}{base:Heap}{t:Adr}
def yV{H:Hp}{kvs:List (ai × Addr × V)}{a:List (ai × List ai)}(r:Paired (λ(x:ai × Addr × V) (y:ai × List ai)=>x.1=y.1/\dN H x.2.2 y.2) kvs a):kvs.map (·.1)=a.map (·.1):=by
 induction r with
 | nil=>rfl
 | cons h t ih=>rw[OD,OD,ih,h.1]
def L6[B:Tb]{ks:List ai}{u:List Int}(nd:ks.Nodup):(beh ks u).length<=ks.length:=(mh nd).len
def L7[B:Tb]{ks:List ai}{u:List Int}(nd:ks.Nodup)(g:ai):((bH (beh ks u) g).getD []).length<=ks.length:=by
 cases h:bH (beh ks u) g with
 | none=>exact Ox _
 | some l=>exact ((mh nd).mem g l (lW h)).2.2.1
def de(H H':Hp):Hp:=λb=>match H b with
 | some (.lst _)=>none
 | _=>H' b
def pv(H H':Hp):af (de H H') H':=λb o h=>by
 unfold de at h
 split at h
 ·cases h
 ·exact h
def mY{H H':Hp}{b:Addr}{o:HO}(h:H' b=some o)(n:∀xs,H b≠some (.lst xs)):de H H' b=some o:=by
 unfold de
 split
 ·rename_i xs e;exact Sd e (n xs)
 ·exact h
def sk{H a c:Hp}(s:af a c):af (de H a) (de H c):=λb o h=>by
 refine mY (s _ _ (pv _ _ _ _ h)) λxs e=>?_;unfold de at h;rw[e]at h;cases h
def zq{H b a:Hp}{d:Addr}(s:∀c,c≠d->a c=b c):∀c,c≠d->de H a c=de H b c:=λc e=>by
 unfold de;rw[s c e]
def rW{H H':Hp}(s:af H H'){k:ai}{p:Addr}(h:cG H' k p):cG (de H H') k p:=by
 obtain⟨b,c,a⟩:=h;refine⟨b,mY c λxs e=>?_,mY a λxs e=>?_⟩
 ·rw[s _ _ e]at c;cases c
 ·rw[s _ _ e]at a;cases a
def ui{H H':Hp}(s:af H H'){d:Addr}(hd:H d=none){kvs:List (ai × Addr × V)}(h:DN H' d kvs):DN (de H H') d kvs:=by
 obtain⟨⟨xs,ep,b,a⟩,c,nd,le⟩:=h
 exact⟨⟨xs,ep,mY b (λxs e=>by rw[hd]at e;cases e),a⟩,λx hx=>rW s (c x hx),nd,le⟩
def CG(K:PySem.W.Frag)(t:Adr):Sp:=λvs H Q _=>∃(B:Tb) (o d0 c:Addr) (a:List (ai × List ai)) (us:List Int),vs=[.ref o,.ref d0,.ref c]/\TO t H o/\gL H d0 a/\(∀x∈a,Gd x.1)/\H c=some (.tup (us.map V.int))/\(us.length<=100/\∀b∈us,0<=b)/\a.length<=1000 /\
 ∀d H',af H H'->gL (de H H') d (beh (a.map (·.1)) us)->Q (.ref d) H'
def IM (T:Txt K mg t):bo P w K mg base "spots_behind" 7 t.vB t.tm ["tongue", "spots", "unit"] (CG K t):=by
 refine⟨T.JX,T.Bf.kp,T.Mo,T.Bf.okQ oj (λvs H Q E h=>by obtain⟨B,o,d0,ua,a4,us,rfl,_⟩:=h;rfl) λ_ _ _ _ H vs Q E hr h=>?_⟩;obtain⟨B,o,d0,ua,a4,us,rfl,ho,⟨C,F,O⟩,a8,a1,a6,aL,kq⟩:=h;have hu:=hr.units;have ek:=yV O;have aO:=Paired.length O;rw[<- ek]at kq;obtain⟨f,s⟩:∃f,f=C.map (·.1):=⟨_,rfl⟩;rw[<- s]at kq ek;have a7:f.Nodup:=by rw[s];exact F.nd
 have az:f.length=C.length:=by rw[s,On]
 have a3:∀k∈f,Gd k:=λk hk=>by
  rw[ek]at hk;obtain⟨x,hx,rfl⟩:=Oq.mp hk;exact a8 x hx
 refine⟨_,(ao (aF (i:=3) oj.nd Z (.inl Z) x4)
  (ao (bz PassesOwn.never rfl (Et (aa 1)) (aG (i:=4) oj.nd rfl (.inl rfl)) (ao (aF (i:=5) oj.nd rfl (.inl rfl) (bb (IO T) hr (ab (aa 0) (ab (aa 4) (ab (aa 2) ag)))))
  (ak (be (aT iE (aa 5) bL (aV _)) (ak (x6 hu (aa 3) (aa 5) (bG (Oj K) (EG hu (aa 3) (aa 5) (bh ag)) (bh (ab (aa 4) ag))))) bi))))
  (ak (aE (aa 3))))),?_⟩
 intro d H1 J;have hd:=J.nw;refine bW ?_;refine⟨d0,C,Z,F.same J.sm,λo0 R=>?_⟩;have Y:H d0=some o0:=by
  obtain⟨φ,e⟩:=uj F;rw[J.sm _ _ e]at R;rw[e,<- R]
 refine KK (λi σ H'=>af H H'/\gL (de H H') d (beh (f.take i) us)/\∃v4 v5,σ=[some (.ref o),some (.ref d0),some (.ref ua),some (.ref d),v4,v5]) ?_ (λi σ H' _ z=>z.1 _ _ Y) ?_ ?_
 ·exact⟨J.sm,⟨[],ui J.sm hd (DN.new J),.nil⟩,_,_,Z⟩
 ·rintro i k b v σ H2 hi ⟨G,j,v4,v5,rfl⟩;have aI:i<C.length:=(Ou.mp hi).1;have W:f[i]? = some k:=by rw[s,Ov,hi];rfl
  have et:f.take (i+1)=f.take i++[k]:=by rw[OU,W];rfl
  have eb:beh (f.take (i+1)) us=io us (beh (f.take i) us) k:=by
   unfold beh;rw[et,List.foldl_append]
   rfl
  have U:(f.take i).Nodup:=a7.sublist (List.take_sublist _ _);have ky:=F.key _ (OA hi);refine bW ?_;refine⟨B,o,b,ua,k,us,Z,ho.same G,ky.same G,G _ _ a1,a3 k (OA W),a6,λen H3 L=>?_,λg q H3 en L kg=>?_⟩
  ·refine bW ?_;refine⟨G.trans L,?_,_,_,Z⟩;rw[eb];unfold io;rw[en];exact j.same (sk L)
  ·refine bW ?_;obtain⟨D,N,I⟩:=j.same (sk L);have r:=N.same (pv _ _);have l3:=Paired.length I;have lb:=L6 (u:=us) U;rw[OG]at lb;refine⟨d,D,Z,r,?_⟩;refine⟨sz Z,λl0 H4 M=>?_⟩;refine⟨q,D,g,Z,r.same M.sm,kg.same M.sm,?_⟩;obtain⟨l,vs,el,hl,pl⟩:dN H4 ((cH D g).getD (.ref l0)) ((bH (beh (f.take i) us) g).getD []):=by
    rcases rS I g with ⟨a,b⟩|⟨v,l,a,b,c⟩
    ·rw[a,b];exact⟨l0,[],Z,M.at_,.nil⟩
    ·rw[a,b];exact (c.same (pv _ _)).same M.sm
   rw[el];refine⟨sz Z,λl1 H5 V=>?_⟩;have lv:=Paired.length pl;have lg:=L7 (u:=us) U g;rw[OG]at lg;refine⟨vs,_,.of (V.sm _ _ hl),V.lst,cy (by simp;omega),λl2 H6 g6=>?_⟩;have n:af H3 H6:=M.sm.trans (V.sm.trans g6.sm);refine⟨d,q,D,g,rfl,rfl,r.same n,kg.same n,cI (by omega),λH7 a5 k7=>?_⟩;have m:=G.trans (L.trans n);have s7:=q9 m hd k7;have S:∃φ,de H H6 d=some (.ext φ):=uj (ui m hd (r.same n));refine⟨s7,?_,_,_,Z⟩;rw[eb];unfold io;rw[en];refine⟨_,ui s7 hd a5,?_⟩;refine yU (H:=de H H6) (Paired.mapP I λx y z=>⟨z.1,z.2.same (sk n)⟩) g q (λz=>rR S (zq k7) z) (rR S (zq k7) ?_);have nl:∀xs,H l2≠some (.lst xs):=λxs e=>by
    have:=(G.trans (L.trans (M.sm.trans V.sm))) _ _ e;rw[g6.nw]at this;cases this
   refine⟨l2,_,Z,mY g6.at_ nl,Paired.snoc (Paired.mapP pl λk v z=>?_) ⟨b,Z,rW m (ky.same m)⟩⟩;obtain⟨p,rfl,z'⟩:=ff.same (V.sm.trans g6.sm) k v z;exact⟨p,Z,rW m z'⟩
 ·rintro σ H2 ⟨G,j,v4,v5,rfl⟩;rw[Ps (by omega)]at j;exact kq d H2 G j
end
end My
namespace My
open PySem L2
structure nL [B:Tb] (ly:List (ai × List ai)):Prop where
 nd:(ly.map (·.1)).Nodup
 gd:∀x∈ly,Gd x.1
 len:ly.length<=500
def nL.beh[B:Tb]{a:List (ai × List ai)}(h:nL a)(u:List Int):nL (beh (a.map (·.1)) u):=by
 have c:=mh (u:=u) h.nd;refine⟨c.nd,λx hx=>?_,?_⟩
 ·obtain⟨d,_,_,f⟩:=c.mem x.1 x.2 hx;obtain⟨k,r,e⟩:=R8 d;have w:=(f k).mp (by rw[e];exact OP ..);obtain⟨y,hy,b⟩:=Oq.mp w.1;exact yD (by rw[<- b];exact (h.gd y hy).1) w.2
 ·have:=c.len;have:=h.len;rw[On]at *;omega
def jj(a:List ai):List (ai × List ai):=a.map λk=>(k,[])
noncomputable def bw[B:Tb](sq:List ai)(units:List (List Int))(i:Nat):List (ai × List ai):=(units.take i).foldl (λly u=>beh (ly.map (·.1)) u) (jj sq)
def mU[B:Tb]{a:List ai}{units:List (List Int)}{i:Nat}{u:List Int}(h:units[i]? = some u):bw a units (i+1)=beh ((bw a units i).map (·.1)) u:=by
 unfold bw;rw[OU,h];show List.foldl _ _ (_++[u])=_;rw[List.foldl_append]
 rfl
def HI[B:Tb]{a:List ai}(c:S0 a):nL (jj a):=by
 have e:(jj a).map (·.1)=a:=by
  unfold jj;rw[Pw];exact List.map_id _
 refine⟨by rw[e];exact c.nd,λx hx=>?_,?_⟩
 ·have f:x.1∈a:=by rw[<- e];exact Oq.mpr ⟨x,hx,Z⟩
  obtain⟨d,r,i,m,f,g⟩:=(c.mem x.1).mp f;obtain⟨_,j,bs⟩:=(B.ok _ (iA d)).sg r i;exact⟨d,by rw[g,OG];omega,λb h=>(bs b (Pj (by rw[<- g];exact h))).1⟩
 ·have:=c.len;unfold jj;rw[On];omega
theorem ji[B:Tb]{a:List ai}(b:S0 a)(units:List (List Int)):∀i,nL (bw a units i)
 | 0=>by unfold bw;rw[QP];exact HI b
 | i+1=>by
  cases h:units[i]? with
  | some u=>rw[mU h];exact (ji b units i).beh u
  | none =>
   have e:bw a units (i+1)=bw a units i:=by
    unfold bw;rw[OU,h];simp
   rw[e];exact ji b units i
def dL(H:Hp)(a:Addr):Hp:=λb=>if b=a then none else H b
def lV{H:Hp}{a b:Addr}{o:HO}(h:H b=some o)(n:b≠a):dL H a b=some o:=by unfold dL;rw[Sb n];exact h
def jm(H:Hp)(a:Addr):af (dL H a) H:=λb o h=>by
 unfold dL at h
 split at h
 ·cases h
 ·exact h
def Iw{H H':Hp}{a:Addr}(s:af H H')(n:H a=none):af H (dL H' a):=λb o h=>lV (s _ _ h) (aO h n)
def zn{H H':Hp}{a:Addr}(s:af H H'):af (dL H a) (dL H' a):=λb o h=>by
 refine lV (s _ _ (jm _ _ _ _ h)) λe=>?_;unfold dL at h;rw[Sc e]at h;cases h
def ph{H:Hp}{a:Addr}{o:HO}:dL (upd H a o) a=dL H a:=by
 funext b
 unfold dL
 split
 ·rfl
 ·rename_i n;exact am n
def Ix{H H':Hp}{a:Addr}{xs:List V}(h:H a=some (.lst xs)):af (de H H') (dL H' a):=λb o z=>by
 refine lV (pv _ _ _ _ z) λe=>?_;subst e;unfold de at z;rw[h]at z;cases z
def AK(H:Hp)(u:List Int)(v:V):Prop:=∃p,v=.ref p/\H p=some (.tup (u.map V.int))/\(u.length<=100/\∀b∈u,0<=b)
def iN(H:Hp)(a:List (ai × List ai))(v:V):Prop:=∃d,v=.ref d/\gL H d a
def iN.same{H H':Hp}(s:af H H')(a:List (ai × List ai))(v:V)(h:iN H a v):iN H' a v:=by
 obtain⟨d,rfl,h⟩:=h;exact⟨d,Z,h.same s⟩
theorem Paired.at'{α β:Type}{F:α->β->Prop}:∀ {c:List α} {l₂:List β},Paired F c l₂->∀ {i:Nat} {b:β},l₂[i]? = some b->∃a,c[i]? = some a/\F a b
 | _,_,.nil,_,_,h=>by simp at h
 | _,_,.cons r t,0,_,h=>by simp at h;subst h;exact⟨_,Z,r⟩
 | _,_,.cons r t,i+1,_,h=>by simpa using Paired.at' t (i:=i) (by simpa using h)
section
variable {P:Program}{w:World}{K:PySem.W.Frag}{mg:Str->Option Value}{base:Heap}{t:Adr}
def C0(K:PySem.W.Frag)(t:Adr):Sp:=λvs H Q _=>∃(B:Tb) (o a:Addr) (units:List (List Int)) (us:List V),vs=[.ref o,.ref a]/\TO t H o/\H a=some (.lst us)/\Paired (AK H) units us/\units.length<=2000 /\
 ∀sq p ds H',S0 sq->af H H'->H' p=some (.lst ds)->Paired (iN H') ((List.range (units.length+1)).map (bw sq units)) ds->Q (.ref p) H'
def IR (T:Txt K mg t):bo P w K mg base "layers_along" 8 t.vG t.tF ["tongue", "units"] (C0 K t):=by
 refine⟨T.J9,T.Bk.kp,T.Mu,T.Bk.okQ i3 (λvs H Q E h=>by obtain⟨B,o,ul,units,us,rfl,_⟩:=h;rfl) λ_ _ _ _ H vs Q E hr h=>?_⟩;obtain⟨B,o,ul,units,us,rfl,ho,a4,R,b0,kq⟩:=h;have hu:=hr.units;have a1:=Paired.length R;refine⟨_,(ao (aF (i:=2) i3.nd Z (.inl Z) x4)
  (ao (bz PassesOwn.never rfl (cV (K:=K) rfl (gf (jg (Ji T) hr (aa 0)) (gf (jg (Jt T) hr (aa 0)) (jg (Jn T) hr (aa 0))))) (cN (K:=K) rfl rfl (bp (aG (i:=3) i3.nd rfl (.inl rfl)) (bp (aG (i:=4) i3.nd rfl (.inl rfl)) cM))) (ak (x6 hu (aa 2) (bE (ab (aa 3) (ab (cO (jx (K:=K) rfl) T.n_tuple Pu (ab (aa 4) ag)) ag))) (bh ag))))
  (ao (aF (i:=5) i3.nd rfl (.inl rfl) (bh (ab (aa 2) ag)))
  (ao (bz PassesOwn.never rfl (cV (K:=K) rfl (aa 1)) (aG (i:=6) i3.nd rfl (.inl rfl)) (ao (aF (i:=2) i3.nd rfl (.inl rfl) (bb (IM T) hr (ab (aa 0) (ab (aa 2) (ab (aa 6) ag)))))
  (ak (cU (dJ (K:=K) rfl O1 O9 Pa eB (aa 5) (ab (aa 2) ag))))))
  (ak (aE (aa 5))))))),?_⟩
 intro d H1 g1;have hd:=g1.nw;refine bW ?_;refine Cy (ho.same g1.sm) (λ_ z=>z) λsp st H2 ar L lst=>?_;obtain⟨s2,_,r,M⟩:=ar;obtain⟨c,eq⟩:∃c:List ai,c=st.map λs=>s.2.2:=⟨_,rfl⟩;obtain⟨ss,I⟩:∃ss,ss=st.map λs=>V.ref s.1:=⟨_,rfl⟩;rw[<- I]at r;have W:S0 c:=⟨by rw[eq];exact L.1,λk=>by rw[eq];exact L.2 k.1 k.2⟩;have a5:Paired (AO H2) c ss:=by
  rw[eq,I];clear eq I W r L lst
  induction st with
  | nil=>exact .nil
  | cons x l ih=>exact .cons ⟨x.1,x.2.1,rfl,(M x (OP ..)).1,(M x (OP ..)).2.1⟩ (ih λy hy=>M y (OQ _ hy))
 refine⟨sp,Z,⟨_,.of r⟩,?_⟩;have ay:=Paired.length a5;have ax:c.Nodup:=W.nd;have b1:=W.len;refine eG (K:=K) (a:=sp) (xs:=ss) (λi σ H'=>af H H'/\H' sp=some (.lst ss)/\Paired (AO H') c ss/\gL H' d ((c.take i).map λk=>(k,[]))/\∃G N v5 J,σ=[some (.ref o),some (.ref ul),some (.ref d),G,N,v5,J]) ?_ (λi σ H' _ z=>.of z.2.1) ?_ ?_
 ·exact⟨g1.sm.trans s2,r,a5,⟨[],(DN.new g1).same s2,.nil⟩,_,_,_,_,Z⟩
 ·rintro i x σ H3 hx ⟨s3,D,f,g,G,N,v5,J,rfl⟩;obtain⟨k,hk,a,l,rfl,ha,hl⟩:=Paired.at' f hx;refine⟨a,_,Z,.of ha,Z,?_⟩;refine⟨_,_,Z,?_⟩;refine bW ?_;refine⟨_,_,Z,?_⟩;refine bW ?_;refine⟨rfl,?_⟩;refine⟨sz Z,λl0 H4 C=>?_⟩;refine⟨_,.of (C.sm _ _ hl),λtb H5 g5=>?_⟩;refine⟨sz Z,λkt H6 g6=>?_⟩;have e:=C.sm.trans (g5.sm.trans g6.sm);obtain⟨aq,Y,a2⟩:=g.same e;have ky:cG H6 k kt:=⟨tb,g6.at_,g6.sm _ _ g5.at_⟩;have lk:=Paired.length a2;rw[On,OG]at lk;have hi:i<c.length:=(Ou.mp hk).1;refine⟨d,kt,aq,k,rfl,rfl,Y,ky,cI (by omega),λH7 ap k7=>?_⟩;have U:=uj Y;obtain⟨φ,a3⟩:=id U;have st:∀ {b:Addr} {ob:HO},H6 b=some ob->(∀φ,ob ≠ .ext φ)->H7 b=some ob:=λ{b ob} h z=>by
   rw[k7 b (mS h a3 (z φ))];exact h
  refine⟨q9 (s3.trans e) hd k7,st (e _ _ D) (by intro φ z;cases z),Paired.mapP f λk v z=>?_,?_,_,_,_,_,rfl⟩
  ·obtain⟨a,l,rfl,z1,z2⟩:=z;exact⟨a,l,rfl,st (e _ _ z1) (by intro φ z;cases z),st (e _ _ z2) (by intro φ z;cases z)⟩
  ·have e1:(c.take (i+1)).map (λk=>((k,[]):ai × List ai))=gq ((c.take i).map λk=>(k,[])) k []:=by
    have no:bH ((c.take i).map λk=>((k,[]):ai × List ai)) k=none:=by
     cases h:bH ((c.take i).map λk=>((k,[]):ai × List ai)) k with
     | none=>rfl
     | some l =>
      obtain⟨k',h1,h2⟩:=Oq.mp (lW h)
      injection h2 with h2 _
      subst h2;obtain⟨j,hj⟩:=OY h1;have aH:=(Ou.mp hj).1;rw[OG]at aH;rw[P3 (by omega)]at hj;have:=(Qq (by omega) ax).mp (hj.trans hk.symm);omega
    unfold gq;rw[no,OU,hk];simp
   rw[e1];exact⟨_,ap,yU (H:=H6) a2 k kt (λz=>rR U k7 z) ⟨l0,[],rfl,st (g6.sm _ _ (g5.sm _ _ C.at_)) (by intro φ z;cases z),.nil⟩⟩
 ·rintro σ H3 ⟨s3,D,f,g,G,N,v5,J,rfl⟩;rw[<- ay,OK]at g;refine⟨sz Z,λls H4 C=>?_⟩;refine bW ?_;refine⟨ul,Z,⟨_,.of (C.sm _ _ (s3 _ _ a4))⟩,?_⟩;have am:=C.nw;refine eG (K:=K) (a:=ul) (xs:=us) (λi σ H'=>af H (dL H' ls)/\(∃ds,H' ls=some (.lst ds)/\Paired (iN (dL H' ls)) ((List.range (i+1)).map (bw c units)) ds)/\∃dc G N J,σ=[some (.ref o),some (.ref ul),some (.ref dc),G,N,some (.ref ls),J]/\gL (dL H' ls) dc (bw c units i)) ?_ (λi σ H' _ z=>.of (jm _ _ _ _ (z.1 _ _ a4))) ?_ ?_
  ·have e0:bw c units 0=jj c:=by unfold bw;rw[QP];rfl
   have F:=Iw C.sm am;exact⟨s3.trans F,⟨_,C.at_,.cons ⟨d,rfl,by rw[e0];exact g.same F⟩ .nil⟩,d,_,_,_,rfl,by rw[e0];exact g.same F⟩
  ·rintro i x σ H5 hx ⟨s5,⟨ds,n,q⟩,dc,G,N,J,rfl,O⟩;obtain⟨u,az,p,rfl,hp,av⟩:=Paired.at' R hx;have ok:=ji W units i;refine bW ?_;have S:=s5.trans (jm _ _);refine⟨B,o,dc,p,bw c units i,u,rfl,ho.same S,O.same (jm _ _),ok.gd,S _ _ hp,av,OJ ok.len (by decide),λd' H6 s6 m=>?_⟩;rw[<- mU az]at m;have m:=m.same (Ix n);refine bW ?_;refine⟨.inl ⟨rfl,_,.of (s6 _ _ n)⟩,?_⟩;have aD:=Paired.length q;rw[On,O0]at aD;have aO:i<us.length:=(Ou.mp hx).1;refine⟨_,s6 _ _ n,cI (by omega),?_⟩;have a0:=zn (a:=ls) s6;refine⟨by rw[ph];exact s5.trans a0,⟨_,aP,?_⟩,d',_,_,_,rfl,by rw[ph];exact m⟩;rw[ph,PZ,Ot];exact Paired.snoc (Paired.mapP q λly v=>iN.same a0 ly v) ⟨d',Z,m⟩
  ·rintro σ H5 ⟨s5,⟨ds,n,q⟩,dc,G,N,J,rfl,O⟩;rw[<- a1]at q;exact kq c ls ds H5 W (s5.trans (jm _ _)) n (Paired.mapP q λly v=>iN.same (jm _ _) ly v)
end
end My
namespace My
open PySem L2
theorem yr{α β:Type}{F:α->β->Prop}:∀ {b c:List α} {l₂ a:List β},Paired F b l₂->Paired F c a->Paired F (b++c) (l₂++a)
 | _,_,_,_,.nil,h=>h
 | _,_,_,_,.cons r t,h=>.cons r (yr t h)
def Cr{n:Nat}(h:n<=1000000):n<=sizeLine:=OJ h (by decide)
theorem rK:∀(l m:List ai),l.Nodup->(∀x∈l,x∈m)->l.length<=m.length
 | [],_,_,_=>Ox _
 | x::l,m,nd,h=>by
  obtain⟨a,b⟩:=Ph.mp nd;have hx:=h x (OP ..);have:=rK l (m.erase x) b λy hy=>(List.mem_erase_of_ne (show y≠x from λe=>a (e ▸ hy))).mpr (h y (OQ _ hy));rw[List.length_erase_of_mem hx]at this;have:=R9 hx;simp only [OV];omega
noncomputable def run[B:Tb]:ai->List (List Int)->Option ai
 | k,[]=>some k
 | k,u::us=>(nx k u).bind λg=>run g us
def iO[B:Tb](a:List ai)(units:List (List Int))(i:Nat)(k:ai):Prop:=k∈(bw a units i).map (·.1)/\(run k (units.drop i)).isSome=true
def nC[B:Tb](a:List ai)(units:List (List Int))(i:Nat)(p:Int):Prop:=∀k,iO a units i k ↔ k=(p,[])
def ic(a:List (ai × List ai))(ks:List ai):List ai:=ks.flatMap λk=>(bH a k).getD []
def yK{a:List (ai × List ai)}{k:ai}(h:k∈a.map (·.1)):∃l,bH a k=some l:=by
 obtain⟨x,hx,rfl⟩:=Oq.mp h;cases e:bH a x.1 with
 | some l=>exact⟨l,rfl⟩
 | none=>exact Sd hx (zC e x.2)
def Na[B:Tb]{d:List ai}(D:S0 d){units:List (List Int)}{i:Nat}{u:List Int}(p:units[i]? = some u){ks:List ai}(nd:ks.Nodup)(h:∀k,k∈ks ↔ iO d units (i+1) k):(ic (bw d units (i+1)) ks).Nodup/\∀k,k∈ic (bw d units (i+1)) ks ↔ iO d units i k:=by
 have ok:=ji D units i;have c:fV u ((bw d units i).map (·.1)) (bw d units (i+1)):=by rw[mU p];exact mh ok.nd
 have f:∀g l,bH (bw d units (i+1)) g=some l->l.Nodup/\∀k,k∈l ↔ k∈(bw d units i).map (·.1)/\nx k u=some g:=λg l e=>by
  obtain⟨_,y,_,I⟩:=c.mem g l (lW e);exact⟨y,I⟩
 have v:units.drop i=u::units.drop (i+1):=by
  have o:=(Ou.mp p).1;rw[Ro o]
  congr 1
  exact (Ou.mp p).2
 have mem:∀g k,k∈(bH (bw d units (i+1)) g).getD []->k∈(bw d units i).map (·.1)/\nx k u=some g:=λg k j=>by
  cases e:bH (bw d units (i+1)) g with
  | none=>rw[e]at j;cases j
  | some l=>rw[e]at j;exact ((f g l e).2 k).mp j
 have s:∀ks:List ai,ks.Nodup->(ks.flatMap λk=>(bH (bw d units (i+1)) k).getD []).Nodup:=by
  intro ks nd
  induction ks with
  | nil=>exact PR
  | cons g ks ih =>
   obtain⟨G,C⟩:=Ph.mp nd;rw[List.flatMap_cons];refine Pd.mpr ⟨?_,ih C,λa x b q=>?_⟩
   ·cases e:bH (bw d units (i+1)) g with
    | none=>exact PR
    | some l=>exact (f g l e).1
   ·rintro rfl;obtain⟨g',r,q⟩:=List.mem_flatMap.mp q;have:=(mem g a x).2.symm.trans (mem g' a q).2
    injection this with this
    exact G (this ▸ r)
 refine⟨s ks nd,λk=>?_⟩
 ·unfold ic;rw[List.mem_flatMap]
  constructor
  ·rintro⟨g,n,j⟩;obtain⟨k1,k2⟩:=mem g k j;refine⟨k1,?_⟩;rw[v];show ((nx k u).bind _).isSome=true;rw[k2];exact ((h g).mp n).2
  ·rintro⟨k1,k2⟩;rw[v]at k2;have k2:((nx k u).bind λg=>run g (units.drop (i+1))).isSome=true:=k2;cases e:nx k u with
   | none=>rw[e]at k2;cases k2
   | some g =>
    rw[e]at k2;obtain⟨l,z⟩:=c.all k g k1 e;have n:g∈(bw d units (i+1)).map (·.1):=Oq.mpr ⟨_,z,rfl⟩;obtain⟨F,m⟩:=yK n;refine⟨g,(h g).mpr ⟨n,k2⟩,?_⟩;rw[m];exact ((f g F m).2 k).mpr ⟨k1,e⟩
section
variable {P:Program}{w:World}{K:PySem.W.Frag}{mg:Str->Option Value}{base:Heap}{t:Adr}
def CL(K:PySem.W.Frag):Sp:=λvs H Q _=>∃(d b:Addr) (a:List (ai × List ai)) (ks:List ai) (us:List V),vs=[.ref d,.ref b]/\gL H d a/\H b=some (.lst us)/\Paired (ff H) ks us/\(∀k∈ks,∃l,bH a k=some l/\l.length<=500)/\ks.length<=500 /\
 ∀p us' H',af H H'->H' p=some (.lst us')->Paired (ff H') (ic a ks) us'->Q (.ref p) H'
def IN (T:Txt K mg t):bo P w K mg base "spots_ahead" 1 t.vC t.tp ["layer", "spots"] (CL K):=by
 refine⟨T.JY,T.Bg.kp,T.Mp,T.Bg.okQ qW (λvs H Q E h=>by obtain⟨d,y,s,ks,us,rfl,_⟩:=h;rfl) λ_ _ _ _ H vs Q E U h=>?_⟩;obtain⟨d,y,s,ks,us,rfl,hd,o,n,q,a4,kq⟩:=h;have V:=U.units;have B:=Paired.length n;refine⟨_,(ao (aF (i:=2) qW.nd Z (.inl Z) (bh ag))
  (ao (bz PassesOwn.never rfl (cV (K:=K) rfl (aa 1)) (aG (i:=3) qW.nd rfl (.inl rfl)) (ak (cU (dJ (K:=K) rfl O1 R6 R7 (yI (K:=K) rfl) (aa 2) (ab (EF V (aa 0) (aa 3)) ag)))))
  (ak (aE (aa 2))))),?_⟩
 refine⟨sz Z,λf H1 u=>?_⟩;refine bW ?_;refine⟨y,Z,⟨_,.of (u.sm _ _ o)⟩,?_⟩;have hf:=u.nw;refine eG (K:=K) (a:=y) (xs:=us) (λi σ H'=>af H H'/\(∃j,H' f=some (.lst j)/\Paired (ff H) (ic s (ks.take i)) j/\j.length<=i*500)/\∃C,σ=[some (.ref d),some (.ref y),some (.ref f),C]) ?_ (λi σ H' _ z=>.of (z.1 _ _ o)) ?_ ?_
 ·exact⟨u.sm,⟨[],u.at_,.nil,Ox _⟩,_,Z⟩
 ·rintro i x σ L hx ⟨m,⟨j,g,b,G⟩,C,rfl⟩;obtain⟨k,N,p,rfl,W⟩:=Paired.at' n hx;obtain⟨l,F,a3⟩:=q k (OA N);obtain⟨J,S,Y⟩:=hd;obtain⟨v,I,R,M,la,vs,rfl,D,r⟩:∃v I,cH J k=some v/\bH s k=some I/\dN H v I:=by
   rcases rS Y k with ⟨_,z⟩|z
   ·rw[F]at z;cases z
   ·exact z
  rw[F]at M;cases M;have a1:i<us.length:=(Ou.mp hx).1;have O:=Paired.length r;refine bW ?_;refine⟨.inl ⟨rfl,_,.of g⟩,?_⟩;refine⟨d,p,J,k,_,Z,Z,S.same m,W.same m,R,?_⟩;refine⟨j,vs,g,m _ _ D,Cr (by omega),?_⟩;refine⟨q9 m hf (λc hc=>am hc),⟨_,aP,?_,?_⟩,_,Z⟩
  ·have e:ic s (ks.take (i+1))=ic s (ks.take i)++l:=by
    unfold ic;rw[OU,N];show List.flatMap _ (_++[k])=_;rw[Rk];simp[F]
   rw[e];exact yr b r
  ·rw[Oz];omega
 ·rintro σ L ⟨m,⟨j,g,b,G⟩,C,rfl⟩;rw[<- B,OK]at b;exact kq f j L m g (Paired.mapP b λk v=>ff.same m k v)
end
end My
namespace My
open PySem L2
def SZ:Nat:=1
def Ls{lo c:Int}{n:Nat}{cs:St}{r:TT}{q:TE}{H:Hp}{Q:VK}(f:Nat->List V->Hp->Prop)(s:f 0 [] H)(B:∀i d H,i<=n->f i d H->d.length<=i)(hz:n<=sizeLine)
 (v:∀i d H (N:List V->Hp->Prop),i<n->f i d H->(∀a H',f (i+1) a H'->N a H')->r (some (.int (lo+i*c))::cs) H λb l=>if b=true then q (some (.int (lo+i*c))::cs) l λy u=>N (d++[y]) u else N d l)
 (hd:∀d H p H',f n d H->aZ H p (.lst d) H'->Q (.ref p) H') :
 fU (wA lo c n) H (List.replicate 1 none++cs) (bT 0) r q Q:=by
 refine⟨λi m d σ H=>m=n-i/\i<=n/\f i d H/\∃h,σ=h::cs,⟨n,by simp,Ox _,s,none,rfl⟩,?_⟩;rintro i m d σ k ⟨rfl,C,p,h,rfl⟩;have D:=B i d k C p;by_cases hlt:i<n
 ·refine .inr ⟨hlt,by omega,λa o H'=>f (i+1) a H'/\∃h,o=h::cs,λa o H' ⟨j,e⟩=>⟨n-(i+1),by omega,rfl,hlt,j,e⟩,λx H' y=>?_⟩;obtain⟨e,y⟩:=y;subst e y;exact v i d H' (λa H'=>f (i+1) a H'/\∃h,some (V.int (lo+i*c))::cs=h::cs) hlt p λ_ _ z=>⟨z,_,Z⟩
 ·have e:i=n:=by omega
  subst e;exact .inl ⟨Oo _,by omega,λj H' g=>hd d k j H' p g⟩
def gQ(row:List Int):List (List Int):=(List.range ((row.length+(SZ-1))/SZ)).map λi=>(row.drop (i*SZ)).take SZ
def BD{row:List Int}{n:Nat}(h:row.length=n*SZ):(gQ row).length=n:=by
 unfold gQ;rw[On,O0,h,Q4,Nat.mul_add_div (by decide),Nat.div_eq_of_lt (by decide)]
 rfl
def fS[B:Tb](H:Hp)(b:List ai)(units:List (List Int))(n j:Nat)(v:V):Prop:=(v=.non/\∀i p,n<i+j->i<=n->¬nC b units i p)\/∃(a:Addr) (i:Nat) (p:Int),v=.ref a/\H a=some (.tup [.int ((i:Int)*(SZ:Int)),.int p])/\n<i+j/\i<=n/\nC b units i p/\∀i' p',n<i'+j->i'<i->¬nC b units i' p'
def fS.same[B:Tb]{b:List ai}{H H':Hp}(s:af H H'){units:List (List Int)}{n j:Nat}{v:V}(h:fS H b units n j v):fS H' b units n j v:=by
 rcases h with h|⟨a,i,p,rfl,h1,h2⟩
 ·exact .inl h
 ·exact .inr ⟨a,i,p,Z,s _ _ h1,h2⟩
def fS.no[B:Tb]{e:List ai}{H:Hp}{units:List (List Int)}{n j:Nat}{v:V}(h:fS H e units n j v)(g:j<=n)(no:∀p,¬nC e units (n-j) p):fS H e units n (j+1) v:=by
 rcases h with ⟨rfl,h⟩|⟨a,i,p,rfl,h1,h2,h3,h4,h5⟩
 ·refine .inl ⟨rfl,λi p a b=>?_⟩;by_cases c:n<i+j
  ·exact h i p c b
  ·have:i=n-j:=by omega
   rw[this];exact no p
 ·refine .inr ⟨a,i,p,rfl,h1,by omega,h3,h4,λd f a b=>?_⟩;by_cases c:n<d+j
  ·exact h5 d f c b
  ·have:d=n-j:=by omega
   rw[this];exact no f
theorem y3[B:Tb]{a:List ai}(b:S0 a){units:List (List Int)}:∀ {i:Nat} {k:ai} {l:List ai},bH (bw a units i) k=some l->l.length<=500
 | 0,k,l,h=>by
  have c:bw a units 0=jj a:=by unfold bw;rw[QP];rfl
  rw[c]at h;obtain⟨d,_,e⟩:=Oq.mp (lW h)
  injection e with _ e
  rw[<- e];exact Ox _
 | i+1,k,l,h=>by
  cases hu:units[i]? with
  | some u =>
   rw[mU hu]at h;have ok:=ji b units i;have:=((mh (u:=u) ok.nd).mem k l (lW h)).2.2.1;have:=ok.len;rw[On]at *;omega
  | none =>
   have e:bw a units (i+1)=bw a units i:=by
    unfold bw;rw[OU,hu];simp
   rw[e]at h;exact y3 b h
section
variable {P:Program}{w:World}{K:PySem.W.Frag}{mg:Str->Option Value}{base:Heap}{t:Adr}
def C1(K:PySem.W.Frag)(t:Adr):Sp:=λvs H Q _=>∃(B:Tb) (o r:Addr) (row:List Int) (n:Nat),vs=[.ref o,.ref r]/\TO t H o/\aJ K H r (row.map V.int)/\row.length=n*SZ/\(∀b∈row,0<=b)/\n<=2000/\∀sq v H',S0 sq->af H H'->fS H' sq (gQ row) n (n+1) v->Q v H'
def zy (T:Txt K mg t):bo P w K mg base "in_step" 9 t.vS t.tO ["tongue", "row"] (C1 K t):=by
 refine⟨T.Kj,T.Bt.kp,T.MF,T.Bt.okQ gb (λvs H Q E h=>by obtain⟨B,o,r,row,n,rfl,_⟩:=h;rfl) λ_ _ _ _ H vs Q E S h=>?_⟩;obtain⟨B,o,r,row,n,rfl,ho,R,O,aK,bg,kq⟩:=h;have hu:=S.units;have ul:=BD O;obtain⟨units,eu⟩:∃units,units=gQ row:=⟨_,rfl⟩;rw[<- eu]at kq ul;refine⟨_,(ao (aF (i:=2) gb.nd Z (.inr Z) (gf (jg (Jh T) S (aa 0)) (gf (jg (Js T) S (aa 0)) (jg (Jm T) S (aa 0)))))
  (ao (aF (i:=3) gb.nd rfl (.inl rfl) (bb (IR T) S (ab (aa 0) (ab (fA rfl (cq.of (fns:=(aj i9).names) (N:=["tongue", "row", "size", "layers", "many", "spots", "least", "layer"]) (Nc:=["at", "row", "size"]) (nv:=1) (caps:=[1,2]) rfl rfl (by decide +kernel)) (Eo rfl T.n_range (ab aq (ab (bq (Of K) T.n_len OM (ab (aa 1) ag)) (ab (aa 2) ag)))) (λ_ _ _ _=>(aG (i:=0) (show List.Nodup (["at", "row", "size"]:List Str) by decide +kernel) rfl (Or.inl rfl) (Or.inr rfl))) (λ_ _ _ _=>fu) (λ_ _ _ _=>(cO (jx (K:=K) rfl) T.n_tuple Pu (ab (cb (Oi K) (aa 1) (bN (aa 0)) (bN (bG (Oj K) (aa 0) (aa 2)))) ag)))) ag))))
  (ao (aF (i:=4) gb.nd rfl (.inl rfl) (bq (Of K) T.n_len OM (ab (aa 1) ag)))
  (ao (aF (i:=5) gb.nd rfl (.inl rfl) (cO (LM rfl) T.n_list O8 (ab (aA (Og K) (aa 3) (oE nS aq) (λ_ _=>rfl)) ag)))
  (ao (aF (i:=6) gb.nd rfl (.inl rfl) bL)
  (ao (bz PassesOwn.never rfl (En (K:=K) rfl rfl T.n_reversed (ab (aa 3) ag)) (aG (i:=7) gb.nd rfl (.inl rfl)) (ao (be (dQ (gj (aT (cK (K:=K) rfl hu) (bq (Of K) T.n_len OM (ab (aa 5) ag)) aq (aV _)) (gh (fz (gY (K:=K) rfl (aA (Og K) (aA (Og K) (aa 5) aq (λ_ _=>rfl)) aq (λ_ _=>rfl))))))) (ak (aF (i:=6) gb.nd rfl (.inl rfl) (bE (ab (aa 4) (ab (aA (Og K) (aA (Og K) (aa 5) aq (λ_ _=>rfl)) aq (λ_ _=>rfl)) ag))))) bi)
  (ao (aF (i:=5) gb.nd rfl (.inl rfl) (bb (IN T) S (ab (aa 7) (ab (aa 5) ag))))
  (ak (Ei (i:=4) gb.nd rfl (.inl rfl) (aa 2))))))
  (ak (aE (aa 6))))))))),?_⟩
 refine BE ho (λ_ z=>z) ?_;refine bW ?_;refine⟨_,.inl R,?_⟩;have hL:((row.map V.int).length:Int)=((n*SZ:Nat):Int):=by rw[On,O]
 refine⟨n*SZ,SZ,by rw[<- hL];rfl,by unfold SZ;omega,by decide,by decide,?_⟩;have en:(n*SZ+(SZ-1))/SZ=n:=by rw[Q4,Nat.mul_add_div (by decide),Nat.div_eq_of_lt (by decide)];rfl
 rw[en];refine Ls (lo:=0) (c:=(SZ:Int)) (n:=n) (cs:=[some (.ref r),some (.int (SZ:Int))]) (λi ys H'=>af H H'/\i<=n/\Paired (AK H') (units.take i) ys) ⟨af.refl _,Ox _,.nil⟩ (λi ys H' _ z=>?_) (cy (by omega)) (λi ys H' N hi z hN=>?_) λys H2 p H3 z g3=>?_
 ·have:=Paired.length z.2.2;rw[OG]at this;omega
 ·obtain⟨s1,i1,pu⟩:=z;simp only [ft,if_true];refine⟨_,Z,_,Z,_,s1.seq R,λp1 H1 g1=>?_⟩;have ec:ce (row.map V.int) (some (0+(i:Int)*(SZ:Int))) (some (0+(i:Int)*(SZ:Int)+(SZ:Int)))=((row.drop (i*SZ)).take SZ).map V.int:=by
   rw[gE];have:(0:Int)+(i:Int)*(SZ:Int)=((i*SZ:Nat):Int):=by simp
   rw[this,pM]
  rw[ec]at g1;refine⟨_,g1.lst,λp2 H4 g4=>hN _ _ ⟨s1.trans (g1.sm.trans g4.sm),hi,?_⟩⟩;have az:units[i]? = some ((row.drop (i*SZ)).take SZ):=by
   rw[eu];unfold gQ;rw[Ov,O,en,QQ hi]
   rfl
  rw[OU,az];refine Paired.snoc (Paired.mapP pu λu v z=>?_) ⟨p2,Z,g4.at_,?_⟩
  ·obtain⟨p,rfl,z1,z2⟩:=z;exact⟨p,Z,(g1.sm.trans g4.sm) _ _ z1,z2⟩
  ·refine⟨?_,λb hb=>aK b (Q8 (Pj hb))⟩;rw[OG];have:SZ<=100:=by decide
   omega
 ·obtain⟨s2,_,pu⟩:=z;rw[Ps (by omega)]at pu;refine⟨B,o,p,units,ys,rfl,ho.same (s2.trans g3.sm),g3.at_,Paired.mapP pu λu v z=>?_,by omega,λU ls ds H4 hq s4 D I=>?_⟩
  ·obtain⟨p,rfl,z1,z2⟩:=z;exact⟨p,Z,g3.sm _ _ z1,z2⟩
  rw[ul]at I;have a0:=s2.trans (g3.sm.trans s4);refine bW ?_;refine⟨_,.inl (a0.seq R),?_⟩;refine bW ?_;have a4:=Paired.length I;rw[On,O0]at a4;obtain⟨dl,Y⟩:∃dl,ds[n]? = some dl:=⟨_,OF (by omega)⟩;have W:∀i v,ds[i]? = some v->iN H4 (bw U units i) v:=λi v hv=>by
   obtain⟨ly,h1,h2⟩:=Paired.at' I hv;rw[Ov]at h1;obtain⟨j,h3,h4⟩:=OS.mp h1;have hj:=(Ou.mp hv).1;rw[QQ (by omega)]at h3;cases h3;rw[h4];exact h2
  obtain⟨dn,rfl,L,G,aD⟩:=W n dl Y;refine⟨_,.ref dn,.inl (.of D),?_,?_⟩
  ·have e:gy ds.length (-1)=some n:=by
    unfold gy;rw[Sb (by decide),Sc (by omega)]
    congr 1
    omega
   unfold bZ;rw[e];exact Y
  refine⟨dn,L,Z,G,λsp H5 g5=>?_⟩;refine bW ?_;refine bW ?_;refine⟨ls,ds,Z,.of (g5.sm _ _ D),?_⟩;have ay:((row.map V.int).length:Int)=((n:Int)-((0:Nat):Int))*(SZ:Int):=by rw[hL];simp
  refine KH (K:=K) (a:=ls) (xs:=ds) (λj σ H'=>af H4 H'/\∃sp m v7,σ=[some (.ref o),some (.ref r),some (.int (SZ:Int)),some (.ref ls),some (.int (((n:Int)-(j:Int))*(SZ:Int))),some (.ref sp),some m,v7]/\(j<=n->∃us ks,H' sp=some (.lst us)/\Paired (ff H') ks us/\ks.Nodup/\∀k,k∈ks ↔ iO U units (n-j) k)/\fS H' U units n j m) ?_ (λi σ H' _ z=>.of (z.1 _ _ D)) ?_ ?_
  ·refine⟨g5.sm,sp,.non,_,by rw[<- ay];rfl,λ_=>⟨_,L.map (·.1),g5.at_,?_,G.nd,λk=>?_⟩,.inl ⟨rfl,λi p a b=>by omega⟩⟩
   ·have all:∀l:List (ai × Addr × V),(∀x∈l,cG H5 x.1 x.2.1)->Paired (ff H5) (l.map (·.1)) (l.map λx=>V.ref x.2.1):=by
     intro l
     induction l with
     | nil=>intro _;exact .nil
     | cons x l ih=>intro h;exact .cons ⟨_,Z,h x (OP ..)⟩ (ih λy hy=>h y (OQ _ hy))
    exact all L λx hx=>(G.key x hx).same g5.sm
   ·rw[yV aD];unfold iO;rw[Nat.sub_zero,R1 (by omega)];exact⟨λh=>⟨h,Z⟩,λh=>h.1⟩
  ·rintro j x σ H6 hx ⟨s6,sp,m,v7,rfl,aL,g⟩;have hj:j<ds.length:=by
    have:=(Ou.mp hx).1;rw[List.length_reverse]at this;exact this
   rw[RN hj]at hx;have ei:ds.length-1-j=n-j:=by omega
   rw[ei]at hx;obtain⟨d,rfl,au⟩:=W (n-j) x hx;obtain⟨us,ks,s,J,M,f⟩:=aL (by omega);have b9:=Paired.length J;refine bW ?_;refine fY (λσ' H'=>af H6 H'/\∃m,σ'=[some (.ref o),some (.ref r),some (.int (SZ:Int)),some (.ref ls),some (.int (((n:Int)-(j:Int))*(SZ:Int))),some (.ref sp),some m,some (.ref d)]/\fS H' U units n (j+1) m) (λnx O=>?_) ?_
   ·refine⟨_,.inl (.of s),?_⟩;refine aH (λe=>?_) (λe=>?_)
    ·have e1:us.length=1:=by
      have:(us.length:Int)=1:=Se e;omega
     obtain⟨k,rfl⟩:∃k,ks=[k]:=List.length_eq_one_iff.mp (by omega);cases J with
     | cons r1 r2=>cases r2 with
      | nil =>
       obtain⟨p,rfl,b,hp,hb⟩:=r1;refine⟨_,.ref p,.inl (.of s),aY (j:=0) Z,?_⟩;refine⟨_,.ref b,.inr (.of hp),aY (j:=1) Z,?_⟩;refine⟨_,.inr (.of hb),?_⟩;refine aH (λe2=>?_) (λe2=>?_)
       ·have k2:k.2=[]:=by simpa using e2
        refine⟨_,.ref p,.inl (.of s),aY (j:=0) Z,?_⟩;refine⟨_,.int k.1,.inr (.of hp),aY (j:=0) Z,?_⟩;refine⟨sz rfl,λq H7 g7=>O _ _ ⟨g7.sm,.ref q,rfl,.inr ⟨q,n-j,k.1,rfl,?_,by omega,by omega,λk'=>?_,λi' p' a b=>by omega⟩⟩⟩
        ·have:((n-j:Nat):Int)=(n:Int)-(j:Int):=by omega
         rw[this];exact g7.at_
        ·rw[<- f,Op];have:k=(k.1,[]):=Prod.ext rfl k2;rw[<- this]
       ·refine O _ _ ⟨af.refl _,m,rfl,g.no (by omega) λp' z=>e2 ?_⟩;have:k=(p',[]):=(z k).mp ((f k).mp (Op.mpr rfl));rw[this]
        rfl
    ·refine O _ _ ⟨af.refl _,m,rfl,g.no (by omega) λp' z=>e (Sf ?_)⟩;have l1:=rK ks [(p',[])] M λx hx=>Op.mpr ((z x).mp ((f x).mp hx));have l2:=R9 ((f _).mpr ((z (p',[])).mpr rfl));simp only [RC]at l1;show (us.length:Int)=1;omega
   ·rintro σ' H7 ⟨s7,am,rfl,F⟩;have a3:=s6.trans s7;refine⟨d,sp,bw U units (n-j),ks,us,Z,au.same a3,s7 _ _ s,Paired.mapP J λk v=>ff.same s7 k v,λk hk=>?_,?_,λap ax H8 s8 a7 C=>?_⟩
    ·obtain⟨l,hl⟩:=yK ((f k).mp hk).1;exact⟨l,hl,y3 hq hl⟩
    ·have:=rK ks _ M λx hx=>((f x).mp hx).1;have:=(ji hq units (n-j)).len;rw[On]at *;omega
    refine bW ?_;refine⟨_,Z,_,_,Z,Z,?_⟩;have em:((n:Int)-(j:Int))*(SZ:Int)-(SZ:Int)=((n:Int)-((j+1:Nat):Int))*(SZ:Int):=by
     rw[show ((j+1:Nat):Int)=(j:Int)+1 by omega,show (n:Int)-((j:Int)+1)=((n:Int)-(j:Int))-1 by omega,Int.sub_mul ((n:Int)-(j:Int)) 1,Int.one_mul]
    refine⟨a3.trans s8,ap,am,_,by rw[<- em];rfl,λbn=>?_,F.same s8⟩;have e2:n-j=(n-(j+1))+1:=by omega
    obtain⟨u,aw⟩:∃u,units[n-(j+1)]? = some u:=⟨_,OF (by omega)⟩;rw[e2]at f C;obtain⟨a1,a2⟩:=Na hq aw M f;exact⟨ax,_,a7,C,a1,a2⟩
  ·rintro σ H6 ⟨s6,sp,m,v7,rfl,_,g⟩;rw[<- a4]at g;exact kq U m H6 hq (a0.trans s6) g
end
end My
namespace My
open PySem L2
def sg(row:List Int):List (List Int):=row.map λb=>[b]
def wL(row:List Int):gQ row=sg row:=by
 unfold gQ sg;refine Rq λi=>?_;rw[Ov,Ov];have e:(row.length+(SZ-1))/SZ=row.length:=by unfold SZ;omega
 rw[e];by_cases h:i<row.length
 ·rw[QQ h,OF h];show some ((row.drop (i*1)).take 1)=some [row[i]];rw[Nat.mul_one,Ro h]
  rfl
 ·rw[PV (by rw[O0];omega),PV (by omega)]
  rfl
def lh[B:Tb](k:ai)(a b:List (List Int)):run k (a++b)=(run k a).bind λg=>run g b:=by
 induction a generalizing k with
 | nil=>rfl
 | cons u a ih =>
  show (nx k u).bind (λg=>run g (a++b))=((nx k u).bind λg=>run g a).bind _;cases nx k u with
  | none=>rfl
  | some g=>exact ih g
theorem y8[B:Tb]{b:List ai}(m:S0 b)(units:List (List Int)):∀i,i<=units.length->∀k,k∈(bw b units i).map (·.1) ↔ ∃k0∈b,run k0 (units.take i)=some k
 | 0,_,k=>by
  unfold bw;rw[QP];show k∈(b.map λk=>((k,[]):ai × List ai)).map (·.1) ↔ _;rw[Pw];have:((λx:ai × List ai=>x.1) ∘ λk=>((k,[]):ai × List ai))=id:=rfl;rw[this,List.map_id];exact⟨λh=>⟨k,h,rfl⟩,λ⟨k0,h,e⟩=>by cases e;exact h⟩
 | i+1,hi,k=>by
  have f:i<units.length:=hi;have j:units[i]? = some units[i]:=OF f;have c:=mh (u:=units[i]) (ji m units i).nd;have ih:=y8 m units i (by omega);have o:units.take (i+1)=units.take i++[units[i]]:=by rw[OU,j];rfl
  rw[mU j,o]
  constructor
  ·intro h;obtain⟨x,hx,rfl⟩:=Oq.mp h;obtain⟨q,_,_,v⟩:=c.mem x.1 x.2 hx;obtain⟨k1,r,e⟩:=R8 q;obtain⟨n,p⟩:=(v k1).mp (by rw[e];exact OP ..);obtain⟨k0,d,a⟩:=(ih k1).mp n;refine⟨k0,d,?_⟩;rw[lh,a];show (nx k1 units[i]).bind _=_;rw[p]
   rfl
  ·rintro⟨k0,d,a⟩;rw[lh]at a;cases e:run k0 (units.take i) with
   | none=>rw[e]at a;cases a
   | some k1 =>
    rw[e]at a;have a:(nx k1 units[i]).bind (λg=>run g [])=some k:=a;cases e2:nx k1 units[i] with
    | none=>rw[e2]at a;cases a
    | some g =>
     rw[e2]at a;have:g=k:=by cases a;rfl
     subst this;obtain⟨l,s⟩:=c.all k1 g ((ih k1).mpr ⟨k0,d,e⟩) e2;exact Oq.mpr ⟨_,s,Z⟩
def Al[B:Tb](a:List ai)(units:List (List Int))(k0:ai):Prop:=k0∈a/\(run k0 units).isSome=true
def HG[B:Tb]{a:List ai}(c:S0 a){units:List (List Int)}{i:Nat}(b:i<=units.length)(k:ai):iO a units i k ↔ ∃k0,Al a units k0/\run k0 (units.take i)=some k:=by
 unfold iO;rw[y8 c units i b]
 constructor
 ·rintro⟨⟨k0,h0,h1⟩,h2⟩;refine⟨k0,⟨h0,?_⟩,h1⟩;rw[<- P0 i units,lh,h1];exact h2
 ·rintro⟨k0,⟨h0,h2⟩,h1⟩;refine⟨⟨k0,h0,h1⟩,?_⟩;rw[<- P0 i units,lh,h1]at h2;exact h2
end My
namespace My
open PySem L2
section
variable {P:Program}{w:World}{K:PySem.W.Frag}{mg:Str->Option Value}{base:Heap}{t:Adr}
def DM{c:TT}{tb d r:TS}{D:dG}{σ:St}{H:Hp}(h:c σ H λb a=>if b=true then tb { D with nx:=r D } σ a else d { D with nx:=r D } σ a):nW (iW c tb d) r D σ H:=h
def Ce{a:TE}{σ:St}{H:Hp}{Q:Bool->Hp->Prop}(h:a σ H λx b=>match x with|.bl c=>Q c b|_=>False):mB a σ H Q:=h
def Cd{g:R2}{l r:TE}{σ:St}{H:Hp}{Q:VK}(h:l σ H λx a=>r σ a λy b=>g x y b Q):fW g l r σ H Q:=h
theorem rV{α:Type}{f:α->PyData}{n:Nat}(h:∀x,(f x).canLay0=true/\(f x).depth<=n):∀l:List α,PyData.canLayAll0 (l.map f)=true/\PyData.depthAll (l.map f)<=n
 | []=>⟨rfl,Ox _⟩
 | x::l=>by
  obtain⟨a,b⟩:=rV h l;obtain⟨c,d⟩:=h x;refine⟨?_,?_⟩
  ·rw[OD,PyData.canLayAll0,a,c];rfl
  ·rw[OD,PyData.depthAll];omega
def o7{α:Type}{f:α->PyData}{n:Nat}(h:∀x,(f x).canLay0=true/\(f x).depth<=n)(l:List α):(PyData.list (l.map f)).canLay0=true/\(PyData.list (l.map f)).depth<=n+1:=by
 obtain⟨a,b⟩:=rV h l;exact⟨by simpa [PyData.canLay0] using a,by simp[PyData.depth];omega⟩
theorem ni{α:Type}{f:α->PyData}{v:α->V}{H:Hp}:∀ {l:List α},(∀x∈l,aU K H (f x) (v x))->dt K H (l.map f) (l.map v)
 | [],_=>.nil
 | x::l,h=>.cons (h x (OP ..)) (ni λy hy=>h y (OQ _ hy))
def M8{α:Type}[DecidableEq α]{f:α->PyData}(h:∀x y,PyData.eqv (f x) (f y)=decide (x=y))(l:List α)(x:α):(l.map f).any (λy=>PyData.eqv y (f x))=true ↔ x∈l:=by
 rw[List.any_eq_true]
 constructor
 ·rintro⟨d,hd,z⟩;obtain⟨y,hy,rfl⟩:=Oq.mp hd;rw[h]at z;rw[<- Se z];exact hy
 ·exact λhx=>⟨f x,Oq.mpr ⟨x,hx,rfl⟩,by rw[h];exact Sf Z⟩
def dI(r:List Int):PyData:=.list (r.map PyData.int)
def Ak(r:List Int):(dI r).canLay0=true/\(dI r).depth<=2:=o7 (n:=1) (λx=>⟨rfl,by simp[PyData.depth]⟩) r
def Lj(r s:List Int):PyData.eqv (dI r) (dI s)=decide (r=s):=ud r s
def Am{H:Hp}{a:Addr}{r:List Int}(h:H a=some (.lst (r.map V.int))):aU K H (dI r) (.ref a):=aU.lst (.of h) (dt.ints r)
def n5{d:PyData}{n:Nat}(h:d.canLay0=true/\d.depth<=n)(a:n<=64):SeqAt.shaped d=true:=by
 unfold SeqAt.shaped;rw[h.1,Sf (by omega:d.depth<=64)]
 rfl
def B8{H H':Hp}{a:Addr}{f:Ft}{es:List (Int × List Int)}{n:Nat}(h:Tt t H a f es n)(s:mj H H'):Tt t H' a f es n:=by
 obtain⟨o,⟨k1,k2,k3,g,c,i,l1,b,j,d⟩,ne⟩:=h;exact⟨s _ _ o (by intro ps z;cases z),⟨k1,k2,k3,s _ _ g (by intro ps z;cases z),s _ _ c (by intro ps z;cases z),s _ _ i (by intro ps z;cases z),l1,b,j,d.mono λq xs e=>s _ _ e (by intro ps z;cases z)⟩,ne⟩
def Fh(a:List (List Int)):(bf a).length=(a.map λr=>r.length).sum:=by
 induction a with
 | nil=>rfl
 | cons r a ih =>
  show (cB r r.length++bf a).length=_;rw[Oz,ih];have:(cB r r.length).length=r.length:=by unfold cB;rw[On,O0]
  rw[this]
  rfl
def im(n:Int)(d:Int)(a:List (List Int)):List (Int × List Int):=a.mapIdx λk r=>(n+d*(k:Int),r)
def qM{n d:Int}{a:List (List Int)}{i:Nat}{r:List Int}(h:a[i]? = some r):(im n d a)[i]? = some (n+d*(i:Int),r):=by
 unfold im;rw[List.getElem?_mapIdx,h]
 rfl
def nV(n d:Int)(a:List (List Int)):(im n d a).length=a.length:=by unfold im;rw[List.length_mapIdx]
def Cb(n d:Int)(a:List (List Int)):((im n d a).map λe=>e.2)=a:=by
 refine Rq λi=>?_;rw[Ov];cases c:a[i]? with
 | none =>
  have:=R4.mp c;rw[R4.mpr (by rw[nV];exact this)]
  rfl
 | some r=>rw[qM c];rfl
def Cc{n d:Int}{f:List (List Int)}(h:qz f)(l:f.length<=12)(d1:d=1\/d = -1)(D:20<=n)(B:n<=2000):Es (im n d f):=by
 have at_:∀ {i:Nat} {e:Int × List Int},(im n d f)[i]? = some e->∃r,f[i]? = some r/\e=(n+d*(i:Int),r)/\i<12:=λ{i e} k=>by
  have m:=(Ou.mp k).1;rw[nV]at m;have g:f[i]? = some f[i]:=OF m;rw[qM g]at k;exact⟨_,g,(OI k).symm,by omega⟩
 refine⟨λe k=>?_,?_,by rw[nV];omega⟩
 ·obtain⟨i,q⟩:=OY k;obtain⟨r,g,rfl,m⟩:=at_ q;obtain⟨a,b,c⟩:=h.sg r (OA g);refine⟨?_,a,b,c⟩;unfold Sg;dsimp only;rcases d1 with rfl|rfl<;>omega
 ·refine PL.mpr λi j q y o=>?_;obtain⟨r,g,z,m⟩:=at_ (OF q);obtain⟨C,p,x,F⟩:=at_ (OF y);rw[z,x];have u:=(Ou.mp g);have v:=(Ou.mp p);have s:=PL.mp h.pw i j u.1 v.1 o;rw[u.2,v.2]at s;unfold d5;dsimp only;rw[s.1,s.2,Sh (by rcases d1 with rfl|rfl<;>omega)]
  rfl
def CU(K:PySem.W.Frag):Sp:=λvs H Q _=>∃(a:Addr) (ns:List Int) (k:Nat),vs=[.ref a,.int (k:Int)]/\aJ K H a (ns.map V.int)/\ns.length<=1000/\∀H',af H H'->Q (.int (ns.getD k 0)) H'
def zt (T:Txt K mg t):bo P w K mg base "_law_pick" 1 t.vj t.sS ["_law_script", "_law_k"] (CU K):=by
 refine⟨T.JO,T.A6.kp,T.Me,T.A6.okQ Do (λvs H Q E h=>by obtain⟨a,ns,i,rfl,_⟩:=h;rfl) λ_ _ _ _ H vs Q E y h=>?_⟩;obtain⟨a,ns,i,rfl,g,v,k⟩:=h;refine⟨_,(ak (aE (aA (Og K) (bG (Oj K) (cb (Oi K) (aa 0) (bN (aa 1)) (bN (bG (Oj K) (aa 1) aq))) (bh (ab aq ag))) aq (λ_ _=>rfl)))),?_⟩;refine⟨_,Z,_,Z,_,g,λq u b=>?_⟩;have e:ce (ns.map V.int) (some (i:Int)) (some ((i:Int)+1))=((ns.drop i).take 1).map V.int:=by rw[gE];exact congrArg _ (pM ns i 1)
 rw[e]at b;refine⟨sz Z,λs p c=>?_⟩;refine⟨_,_,c.sm.seq b.lst,c.lst,?_,λo n d=>?_⟩
 ·rw[On,OG];exact OJ (Nat.add_le_add_right (Nat.min_le_left _ _) 1) (by decide)
 have l:((ns.drop i).take 1).map V.int++[V.int 0]=(((ns.drop i).take 1)++[0]).map V.int:=by simp
 rw[l]at d;have f:(((ns.drop i).take 1)++[0])[0]? = some (ns.getD i 0):=by
  have m:ns[i]? = (ns.drop i)[0]?:=by rw[List.getElem?_drop];rfl
  rw[Qo,m];cases ns.drop i with
  | nil=>rfl
  | cons x r=>rfl
 refine⟨_,.int (ns.getD i 0),.inl d.lst,aY (j:=0) (by rw[Ov,f];rfl),?_⟩;exact k _ ((b.sm.trans c.sm).trans d.sm)
def sd(n:Int)(ns:List Int):hW (.int n) (ns.map V.int)=decide (n∈ns):=by
 induction ns with
 | nil=>rfl
 | cons m ns ih =>
  unfold hW at *;rw[OD,P4,ih];simp only [h9,OT];by_cases e:m=n
  ·simp[e]
  ·have:¬n=m:=λz=>e z.symm;simp[e,this]
def zU(ns:List Int):(ns.map V.int).all fO=true:=by
 rw[P6];intro x hx;obtain⟨n,_,rfl⟩:=Oq.mp hx
 rfl
def AJ{ps:List AL}{j:Nat}{x:V}(h:(ps.map λx=>V.ref x.1)[j]? = some x):∃q∈ps,ps[j]? = some q/\x=.ref q.1:=by
 rw[Ov]at h;obtain⟨q,a,e⟩:=OS.mp h;exact⟨q,OA a,a,e.symm⟩
def dS(y:Int × List Int):PyData:=.tuple [.int y.1,dI y.2]
def me(x:Int × List Int):(dS x).canLay0=true/\(dS x).depth<=3:=by
 obtain⟨a,b⟩:=Ak x.2;unfold dS;refine⟨by simp[PyData.canLay0,PyData.canLayAll0,a],?_⟩;simp[PyData.depth,PyData.depthAll];omega
def Aj(x y:Int × List Int):PyData.eqv (dS x) (dS y)=decide (x=y):=by
 have e:=Lj x.2 y.2;unfold dS;simp only [PyData.eqv,PyData.eqvAll];rw[e];obtain⟨a,b⟩:=x;obtain⟨c,d⟩:=y;by_cases h1:a=c<;>by_cases h2:b=d<;>simp[h1,h2]
def fe(H:Hp)(s:bP):Prop:=H s.1=some (.tup [.int s.2.2.1,.ref s.2.1])/\H s.2.1=some (.lst (s.2.2.2.map V.int))
def fe.mono{H H':Hp}{s:bP}(h:fe H s)(k:af H H'):fe H' s:=⟨k _ _ h.1,k _ _ h.2⟩
def ny{H:Hp}{s:bP}(h:fe H s):aU K H (dS s.2.2) (.ref s.1):=aU.tup (.of h.1) (.cons (aU.int _) (.cons (Am h.2) .nil))
def Cz{ss:List bP}{i:Nat}{x:V}(h:(ss.map λq=>V.ref q.1)[i]? = some x):∃q,ss[i]? = some q/\q∈ss/\x=.ref q.1:=by
 rw[Ov]at h;obtain⟨q,a,e⟩:=OS.mp h;exact⟨q,a,OA a,e.symm⟩
def KR{H:Hp}{s u:bP}{neg:Bool}{Q:VK}(a:fe H s)(b:fe H u)(q:Q (.bl (if neg then !decide (s.2.2=u.2.2) else decide (s.2.2=u.2.2))) H):gA K neg (.ref s.1) (.ref u.1) H Q:=by
 refine⟨_,_,ny a,ny b,n5 (me _) (by decide),n5 (me _) (by decide),?_⟩;rw[Aj];exact q
def dA(H:Hp)(p:Addr)(ss:List bP):Prop:=H p=some (.lst (ss.map λs=>V.ref s.1))/\∀s∈ss,fe H s
def dA.mono{H H':Hp}{p:Addr}{ss:List bP}(h:dA H p ss)(k:af H H'):dA H' p ss:=⟨k _ _ h.1,λs a=>(h.2 s a).mono k⟩
def Ij{H:Hp}{p:Addr}{ss:List bP}{u:bP}{neg:Bool}{Q:VK}(h:dA H p ss)(b:fe H u)(k:∀c:Bool,(c=true ↔ u.2.2∈ss.map λs=>s.2.2)->Q (.bl (if neg then !c else c)) H):zM K neg (.ref u.1) (.ref p) H Q:=by
 refine⟨(ss.map λs=>s.2.2).map dS,dS u.2.2,aU.lst (.of h.1) ?_,ny b,(rV me _).1,(me _).1,OJ (Nat.min_le_right _ _) (OJ (me _).2 (by decide)),?_⟩
 ·rw[Pw];exact ni (f:=λs:bP=>dS s.2.2) (v:=λs=>V.ref s.1) λs a=>ny (h.2 s a)
 ·exact k _ (M8 Aj _ _)
def dA.push{H:Hp}{p:Addr}{ss:List bP}{u:bP}(h:dA H p ss)(n:∀s∈ss,s.2.1≠p)(c:fe H u)(b:u.2.1≠p):dA (upd H p (.lst (ss.map (λs=>V.ref s.1)++[.ref u.1]))) p (ss++[u]):=by
 refine⟨by rw[aP,Ot];rfl,λs a=>?_⟩;have k:fe H s/\s.2.1≠p:=by
  rcases Os.mp a with z|z
  ·exact⟨h.2 s z,n s z⟩
  ·rw[Op.mp z];exact⟨c,b⟩
 exact⟨by rw[am (aD k.1.1 h.1 (by intro z;cases z))];exact k.1.1,by rw[am k.2];exact k.1.2⟩
abbrev eJ:=Addr × Addr × Rw
def ie(H:Hp)(q:eJ):Prop:=H q.1=some (.tup [.ref q.2.1,.int q.2.2.2])/\H q.2.1=some (.lst (q.2.2.1.map V.int))
def ie.mono{H H':Hp}{q:eJ}(h:ie H q)(s:af H H'):ie H' q:=⟨s _ _ h.1,s _ _ h.2⟩
def gH(H:Hp)(a:Addr)(b:List eJ):Prop:=H a=some (.lst (b.map λq=>V.ref q.1))/\∀q∈b,ie H q
def nH(H:Hp)(a:Addr)(R:List Rw):Prop:=∃qs:List eJ,gH H a qs/\(qs.map λq=>q.2.2)=R
def gH.mono{H H':Hp}{a:Addr}{b:List eJ}(h:gH H a b)(s:af H H'):gH H' a b:=⟨s _ _ h.1,λq c=>(h.2 q c).mono s⟩
def nH.mono{H H':Hp}{a:Addr}{R:List Rw}(h:nH H a R)(s:af H H'):nH H' a R:=by
 obtain⟨b,h,e⟩:=h;exact⟨b,h.mono s,e⟩
def wO{a:List eJ}{i:Nat}{x:V}(h:(a.map λq=>V.ref q.1)[i]? = some x):∃q,a[i]? = some q/\q∈a/\x=.ref q.1:=by
 rw[Ov]at h;obtain⟨q,b,e⟩:=OS.mp h;exact⟨q,b,OA b,e.symm⟩
def gH.push{H:Hp}{p:Addr}{a:List eJ}{q:eJ}(h:gH H p a)(n:∀q∈a,q.2.1≠p)(e:ie H q)(d:q.2.1≠p):gH (upd H p (.lst (a.map (λq=>V.ref q.1)++[.ref q.1]))) p (a++[q]):=by
 refine⟨by rw[aP,Ot];rfl,λb c=>?_⟩;have k:ie H b/\b.2.1≠p:=by
  rcases Os.mp c with z|z
  ·exact⟨h.2 b z,n b z⟩
  ·rw[Op.mp z];exact⟨e,d⟩
 exact⟨by rw[am (aD k.1.1 h.1 (by intro z;cases z))];exact k.1.1,by rw[am k.2];exact k.1.2⟩
def dB(H:Hp)(a:Addr)(D:Kt):Prop:=∃ds:List Addr,H a=some (.lst (ds.map V.ref))/\ds.length=lK D/\∀(j:Nat) d,ds[j]? = some d->nH H d (bC D (j:Int))
def dB.mono{H H':Hp}{a:Addr}{D:Kt}(h:dB H a D)(s:af H H'):dB H' a D:=by
 obtain⟨ds,e,l,r⟩:=h;exact⟨ds,s _ _ e,l,λj d hd=>(r j d hd).mono s⟩
def rB{D:Kt}{g:Int}(h:cR D g):∃j:Nat,g=(j:Int)/\j<lK D:=by
 cases D with
 | sh f ns ms =>
  have two:bB g:=h;exact⟨g.toNat,by unfold bB at two;omega,by show g.toNat<2;unfold bB at two;omega⟩
 | tb f es =>
  have e:g=0:=h;exact⟨0,by rw[e];rfl,by show 0<1;decide⟩
 | br =>
  have e:g=0:=h;exact⟨0,by rw[e];rfl,by show 0<1;decide⟩
def rT{D:Kt}{j:Nat}(h:j<lK D):cR D (j:Int):=by
 cases D with
 | sh f ns ms =>
  have h:j<2:=h;show bB _;unfold bB;omega
 | tb f es =>
  have h:j<1:=h;show (j:Int)=0;omega
 | br =>
  have h:j<1:=h;show (j:Int)=0;omega
def yH(D:Kt):1<=lK D/\lK D<=2:=by
 cases D with
 | sh f ns ms=>exact⟨by show 1<=2;decide,Oo _⟩
 | tb f es=>exact⟨Oo _,by show 1<=2;decide⟩
 | br=>exact⟨Oo _,by show 1<=2;decide⟩
def iP(ns:List Int):Prop:=(∀n∈ns,65<=n/\n<=72)/\ns.Nodup/\ns.length<=5
def iP.okp{ns:List Int}(h:iP ns):mm ns:=⟨λn a=>by have:=h.1 n a;unfold Sg;omega,h.2.1,OJ h.2.2 (by decide)⟩
def CY(K:PySem.W.Frag):Sp:=λvs H Q _=>∃(a:Addr) (cs:List Int),vs=[.ref a]/\aJ K H a (cs.map V.int)/\cs.length<=1000/\∀(p l m:Addr) (ns ms:List Int) H',af H H'->H' p=some (.lst [.ref l,.ref m])->H' l=some (.lst (ns.map V.int))->H' m=some (.lst (ms.map V.int))->iP ns->iP ms->Q (.ref p) H'
def IH (T:Txt K mg t):bo P w K mg base "_law_lists" 1 t.vo t.sW ["_law_cells"] (CY K):=by
 refine⟨T.JR,T.A9.kp,T.Mh,T.A9.okQ mG (λvs H Q E h=>by obtain⟨a,cs,rfl,_⟩:=h;rfl) λ_ _ _ _ H vs Q E Y h=>?_⟩;obtain⟨a,cs,rfl,L,lc,k⟩:=h;have hu:=Y.units;refine⟨_,(ao (aF (i:=1) mG.nd Z (.inl Z) (bh (ab (bh ag) (ab (bh ag) ag))))
  (ao (bz PassesOwn.never rfl (cV (K:=K) rfl (aa 0)) (aG (i:=2) mG.nd rfl (.inl rfl)) (ao (aF (i:=3) mG.nd rfl (.inl rfl) (aA (Og K) (aa 1) (dP (aa 2)) (λ_ _=>rfl)))
  (ao (aF (i:=4) mG.nd rfl (.inl rfl) (bG (Oj K) aq (dP (iz (aa 2)))))
  (ak (be (dQ (gj (aT (zF (K:=K) rfl) (aa 4) (aa 3) (by with_unfolding_all rfl)) (gh (aT pz (bq (Of K) T.n_len OM (ab (aa 3) ag)) aq (aV _))))) (ak (cU (dJ (K:=K) rfl O1 O9 Pa eB (aa 3) (ab (aa 4) ag)))) bi)))))
  (ak (aE (aa 1))))),?_⟩
 refine⟨sz Z,λl H1 o=>?_⟩;refine⟨sz Z,λm H2 b=>?_⟩;refine⟨sz Z,λp F r=>?_⟩;have N:l≠m:=aO o.at_ b.nw;have O:af H F:=o.sm.trans (b.sm.trans r.sm);have l3:F l=some (.lst []):=r.sm _ _ (b.sm _ _ o.at_);have R:F m=some (.lst []):=r.sm _ _ b.at_;have S:H l=none:=o.nw;have U:H m=none:=o.sm.free b.nw;have lp:l≠p:=aO (b.sm _ _ o.at_) r.nw;have mp:m≠p:=aO b.at_ r.nw;refine⟨a,rfl,⟨_,O.seq L⟩,eG (K:=K) (a:=a) (xs:=cs.map V.int) (λi σ H'=>af H H'/\H' p=some (.lst [.ref l,.ref m])/\(∃ns ms,H' l=some (.lst (ns.map V.int))/\H' m=some (.lst (ms.map V.int))/\iP ns/\iP ms)/\∃D G J,σ=[some (.ref a),some (.ref p),D,G,J]) ⟨O,r.at_,⟨[],[],l3,R,⟨(λn h=>nomatch h),.nil,by decide⟩,⟨(λn h=>nomatch h),.nil,by decide⟩⟩,_,_,_,rfl⟩ (λi σ H' _ z=>z.1.seq L) ?_ ?_⟩
 ·rintro i x σ C hx ⟨j,d,⟨ns,ms,f,q,fn,g⟩,D,G,J,rfl⟩;obtain⟨c,hc,rfl⟩:=iC hx;have two:bB (c%2):=by unfold bB;omega
  refine⟨_,_,.inl (.of d),gF two,?_⟩;rw[fZ];have u:C (ar (c%2) l m)=some (.lst ((ar (c%2) ns ms).map V.int)):=by
   rcases two with z|z<;>rw[z]
   ·exact f
   ·exact q
  have M:iP (ar (c%2) ns ms):=by
   rcases two with z|z<;>rw[z]
   ·exact fn
   ·exact g
  refine⟨_,.inl (.of u),Z,zU _,?_⟩;refine aH (λe=>?_) (λe=>?_)
  ·have e:(!hW (.int (65+c/2%8)) ((ar (c%2) ns ms).map V.int))=true:=e;rw[sd]at e;have W:65+c/2%8∉ar (c%2) ns ms:=by simpa using e
   refine⟨_,.inl (.of u),?_⟩;refine aH (λv=>?_) (λv=>?_)
   ·have v:(((ar (c%2) ns ms).map V.int).length:Int)<5:=Se v;rw[On]at v;refine⟨.inl ⟨rfl,_,.of u⟩,?_⟩;refine⟨_,u,cI (by simp;omega),?_⟩;have s:iP (ar (c%2) ns ms++[65+c/2%8]):=by
     refine⟨λn I=>?_,Pd.mpr ⟨M.2.1,Ri ..,λx hx y hy z=>?_⟩,by rw[Oz];simp;omega⟩
     ·rcases Os.mp I with h|h
      ·exact M.1 n h
      ·rw[Op.mp h];omega
     ·rw[Op.mp hy]at z;exact W (z ▸ hx)
    have B:(ar (c%2) ns ms).map V.int++[V.int (65+c/2%8)]=(ar (c%2) ns ms++[65+c/2%8]).map V.int:=by rw[Ot];rfl
    rcases two with z|z
    ·rw[z]at B s ⊢;refine⟨j.put S,(am (a:=l) lp.symm).trans d,⟨ns++[65+c/2%8],ms,?_,(am (a:=l) N.symm).trans q,s,g⟩,_,_,_,Z⟩;exact aP.trans (congrArg (λx=>some (HO.lst x)) B)
    ·rw[z]at B s ⊢;refine⟨j.put U,(am (a:=m) mp.symm).trans d,⟨ns,ms++[65+c/2%8],(am (a:=m) N).trans f,?_,fn,s⟩,_,_,_,Z⟩;exact aP.trans (congrArg (λx=>some (HO.lst x)) B)
   ·exact⟨j,d,⟨ns,ms,f,q,fn,g⟩,_,_,_,Z⟩
  ·exact⟨j,d,⟨ns,ms,f,q,fn,g⟩,_,_,_,Z⟩
 ·rintro σ C ⟨j,d,⟨ns,ms,f,q,fn,g⟩,D,G,J,rfl⟩;exact k p l m ns ms C j d f q fn g
def DU(a O:List Int)(g:Int)(i:Nat):((List.range i).filter (fb O a)).map (λb:Nat=>(([254+(1-g),(b:Int)],1-g):Rw))=((List.range i).filter (fb O a)).map λb:Nat=>([255-g,(b:Int)],1-g):=by
 refine Rh λb _=>?_;rw[show 254+(1-g)=255-g by omega]
def CV:Sp:=λvs H Q _=>∃(a l m:Addr) (ns ms:List Int),vs=[.ref a]/\H a=some (.lst [.ref l,.ref m])/\H l=some (.lst (ns.map V.int))/\H m=some (.lst (ms.map V.int))/\ns.length<=8/\ms.length<=8/\∀p f H',af H H'->dB H' p (.sh f ns ms)->Q (.ref p) H'
def IF (T:Txt K mg t):bo P w K mg base "_law_pages" 1 t.vk t.sU ["_law_lists_here"] CV:=by
 refine⟨T.JP,T.A7.kp,T.Mf,T.A7.okQ jR (λvs H Q E h=>by obtain⟨a,l,m,ns,ms,rfl,_⟩:=h;rfl) λ_ _ _ _ H vs Q E hr h=>?_⟩;obtain⟨a,l,m,ns,ms,rfl,ha,hl,hm,ln,lm,k⟩:=h;have hu:=hr.units;refine⟨_,(ao (aF (i:=1) jR.nd Z (.inl Z) (bh ag))
  (ao (bz PassesOwn.never rfl (gU rfl T.n_range (ab aq ag)) (aG (i:=2) jR.nd rfl (.inr rfl)) (ao (oB (i:=3) jR.nd rfl (.inl rfl) rfl (cq.of (fns:=(aj i5).names) (N:=["_law_lists_here", "_law_pages_here", "_law_page", "_law_told", "_law_byte", "_law_sign"]) (Nc:=["_law_byte", "_law_page"]) (nv:=1) (caps:=[2]) rfl rfl (by decide +kernel)) (gU rfl T.n_range (ab (bq (Of K) T.n_len OM (ab (aA (Og K) (aa 0) (aa 2) (λ_ _=>rfl)) ag)) ag)) (λ_ _ _ _=>(aG (i:=0) (show List.Nodup (["_law_byte", "_law_page"]:List Str) by decide +kernel) rfl (Or.inl rfl) (Or.inr rfl))) (λ_ _ _ _=>fu) (λ_ _ _ _=>(bE (ab (bh (ab (aa 0) ag)) (ab (aa 1) ag)))))
  (ao (bz PassesOwn.never rfl (jd (K:=K) rfl rfl T.n_enumerate (ab (aA (Og K) (aa 0) (bG hZ aq (aa 2)) (λ_ _=>rfl)) ag)) (cN (K:=K) rfl rfl (bp (aG (i:=4) jR.nd rfl (.inl rfl)) (bp (aG (i:=5) jR.nd rfl (.inl rfl)) cM))) (ak (be (aT (zF (K:=K) rfl) (aa 5) (aA (Og K) (aa 0) (aa 2) (λ_ _=>rfl)) (by with_unfolding_all rfl)) (ak (cU (dJ (K:=K) rfl O1 O9 Pa eB (aa 3) (ab (bE (ab (bh (ab (bG hZ aq (aa 2)) (ab (aa 4) ag))) (ab (bG hZ aq (aa 2)) ag))) ag)))) bi)))
  (ak (cU (dJ (K:=K) rfl O1 O9 Pa eB (aa 1) (ab (aa 3) ag)))))))
  (ak (aE (aa 1))))),?_⟩
 refine⟨sz Z,λpp H0 g0=>?_⟩;refine bW ?_;have a8:=g0.nw;refine⟨(2:Int),rfl,by decide,by decide,?_⟩;refine jr (lo:=0) (n:=2) (λj σ H'=>af H H'/\(∃ds:List Addr,H' pp=some (.lst (ds.map V.ref))/\ds.length=j/\(∀(i:Nat) d,ds[i]? = some d->nH (dL H' pp) d (du (ar (i:Int) ns ms) (ar (i:Int) ms ns) (i:Int))))/\∃v2 v3 G I,σ=[some (.ref a),some (.ref pp),v2,v3,G,I]) ⟨g0.sm,⟨[],g0.at_,rfl,λi d h=>by simp at h⟩,_,_,_,_,rfl⟩ ?_ ?_
 ·rintro j σ W hj ⟨s1,⟨ds,r,y,D⟩,v2,v3,G,I,rfl⟩;have two:bB (j:Int):=by unfold bB;omega
  obtain⟨g,eg⟩:∃g:Int,g=(j:Int):=⟨_,rfl⟩;have el:∀ {g'},bB g'->bZ [V.ref l,V.ref m] g'=some (.ref (ar g' l m)):=λ{g'} two=>by rw[gF two];exact congrArg some (fZ V.ref _ _ _)
  rw[<- eg]at two;refine bW ?_;rw[Pe,<- eg];have hP:H (ar g l m)=some (.lst ((ar g ns ms).map V.int)):=by
   rcases two with z|z<;>rw[z]
   ·exact hl
   ·exact hm
  have hO:H (ar (1-g) l m)=some (.lst ((ar g ms ns).map V.int)):=by
   rw[xA two];rcases two with z|z<;>rw[z]
   ·exact hm
   ·exact hl
  have lP:(ar g ns ms).length<=8:=by unfold ar;split<;>assumption
  have lO:(ar g ms ns).length<=8:=by unfold ar;split<;>assumption
  obtain⟨s,eP⟩:∃s,s=ar g ns ms:=⟨_,rfl⟩;obtain⟨O,eO⟩:∃O,O=ar g ms ns:=⟨_,rfl⟩;rw[<- eP]at hP lP;rw[<- eO]at hO lO;refine⟨_,_,.inl (.of (s1 _ _ ha)),el two,?_⟩;refine⟨_,.inl (.of (s1 _ _ hP)),?_⟩;rw[On];refine⟨(s.length:Int),rfl,by omega,by omega,?_⟩;rw[OX];refine Ap (lo:=0) (n:=s.length) (λj ys H'=>af W H'/\∃o:List eJ,ys=o.map (λq=>V.ref q.1)/\(∀q∈o,ie H' q/\q.2.1≠pp)/\(o.map λq=>q.2.2)=(List.range j).map λb:Nat=>([(b:Int)],g)) ⟨af.refl _,[],rfl,(λq h=>nomatch h),rfl⟩ (λj ys H' _ z=>?_) (cy (by omega)) (λj ys H2 N hj z hN=>?_) λys H2 p H3 z v=>?_
  ·obtain⟨_,o,rfl,_,e⟩:=z;have:=congrArg List.length e;rw[On,On,O0]at this;rw[On];omega
  ·obtain⟨S,o,rfl,it,e⟩:=z;simp only [ft,if_true];refine⟨sz Z,λq3 H3 v=>?_⟩;refine⟨sz rfl,λq4 H4 g4=>hN _ _ ⟨S.trans (v.sm.trans g4.sm),o++[(q4,q3,[0+(j:Int)],g)],by rw[Ot];rfl,λq f=>?_,?_⟩⟩
   ·rcases Os.mp f with z|z
    ·exact⟨(it q z).1.mono (v.sm.trans g4.sm),(it q z).2⟩
    ·rw[Op.mp z]
     exact⟨⟨g4.at_,g4.sm _ _ v.at_⟩,(aO (S _ _ r) v.nw).symm⟩
   ·rw[Ot,e,PZ,Ot,Pe];rfl
  obtain⟨S,o,rfl,it,e⟩:=z;have n3:∀q∈o,q.2.1≠p/\q.2.1≠pp:=λq f=>⟨aO (it q f).1.2 v.nw,(it q f).2⟩;have M:=S.trans v.sm;have s3:=s1.trans M;have np:W p=none:=S.free v.nw;have npP:p≠pp:=(aO r np).symm;refine bW ?_;refine⟨_,_,.inl (.of (s3 _ _ ha)),el two.flip,?_⟩;have hO3:=s3 _ _ hO;refine⟨ar (1-g) l m,_,rfl,.of hO3,lY (K:=K) (a:=ar (1-g) l m) (xs:=O.map V.int) (λi σ H'=>af W H'/\(∃o:List eJ,gH H' p o/\(∀q∈o,q.2.1≠p/\q.2.1≠pp)/\(o.map λq=>q.2.2)=((List.range s.length).map λb:Nat=>([(b:Int)],g))++(((List.range i).filter (fb O s)).map λb:Nat=>([255-g,(b:Int)],1-g)))/\∃G I,σ=[some (.ref a),some (.ref pp),some (.int g),some (.ref p),G,I]) ⟨M,⟨o,⟨v.at_,λq f=>(it q f).1.mono v.sm⟩,n3,by rw[e];exact (Pg _).symm⟩,_,_,Z⟩ (λi σ H' _ z=>(s1.trans z.1).seq (.of hO)) ?_ ?_⟩
  ·rintro i x px σ H4 H5 hx ⟨R,⟨us,J,u,Y⟩,G,I,rfl⟩ g5;obtain⟨n,hn,rfl⟩:=iC hx;have hg:O.getD i 0=n:=by rw[Qo,hn];rfl
   have il:=(Ou.mp hn).1;refine⟨px,_,Z,g5.tup,Z,_,_,Z,_,_,Z,Z,?_⟩;have B:=R.trans g5.sm;have L:=s1.trans B;refine⟨_,_,.inl (.of (L _ _ ha)),el two,?_⟩;refine⟨_,.inl (.of (L _ _ hP)),Z,zU _,?_⟩;have C:=J.mono g5.sm;refine aH (λz=>?_) (λz=>?_)
   ·have z:(!hW (.int n) (s.map V.int))=true:=z;rw[sd]at z;have al:fb O s i=true:=by unfold fb;rw[hg];exact z
    refine⟨.inl ⟨rfl,_,.of C.1⟩,?_⟩;refine⟨sz Z,λq6 H6 U=>?_⟩;refine⟨sz Z,λq7 H7 g7=>?_⟩;have a0:=C.mono (U.sm.trans g7.sm);have lu:us.length<=16:=by
     have:=congrArg List.length Y;rw[On,Oz,On,On,O0]at this;have h2:=Rn (fb O s) (List.range i);rw[O0]at h2;omega
    refine⟨_,a0.1,cI (by rw[On];omega),?_⟩;have n6:q6≠p:=(aO C.1 U.nw).symm;have ae:q6≠pp:=(aO (B _ _ r) U.nw).symm;refine⟨(B.trans (U.sm.trans g7.sm)).put np,⟨us++[(q7,q6,[255-g,(i:Int)],1-g)],gH.push (q:=(q7,q6,[255-g,(i:Int)],1-g)) a0 (λq f=>(u q f).1) ⟨g7.at_,g7.sm _ _ U.at_⟩ n6,λq f=>?_,?_⟩,_,_,Z⟩
    ·rcases Os.mp f with z|z
     ·exact u q z
     ·rw[Op.mp z];exact⟨n6,ae⟩
    ·rw[Ot,Y,PZ,Qd,Ot,Pr];simp[al]
   ·have z:¬(!hW (.int n) (s.map V.int))=true:=z;rw[sd]at z;have al:fb O s i=false:=by unfold fb;rw[hg];exact Qs.mpr z
    refine⟨B,⟨us,C,u,?_⟩,_,_,Z⟩;rw[Y,PZ,Qd];simp[al]
  ·rintro σ H4 ⟨R,⟨us,J,u,Y⟩,G,I,rfl⟩;dsimp only;have F:=R _ _ r;refine⟨.inl ⟨rfl,_,.of F⟩,?_⟩;refine⟨_,F,cI (by rw[On];omega),?_⟩;refine⟨(s1.trans R).put a8,⟨ds++[p],by rw[aP,Ot];rfl,by rw[Oz,y];rfl,λi d hd=>?_⟩,_,_,_,_,rfl⟩;rw[ph];by_cases c:i<ds.length
   ·rw[Pq c]at hd;exact (D i d hd).mono (zn R)
   ·have il:=(Ou.mp hd).1;rw[Oz]at il;have ei:i=ds.length:=by simp only [OV,QX]at il;omega
    subst ei;rw[PC (Oo _),QK]at hd;cases hd;rw[y,<- eg];refine⟨us,⟨lV J.1 npP,λq f=>⟨lV (J.2 q f).1 (aD (J.2 q f).1 F (by intro z;cases z)),lV (J.2 q f).2 (u q f).2⟩⟩,?_⟩;rw[Y,On];unfold du di;rw[<- eP,<- eO,DU]
 ·rintro σ W ⟨s1,⟨ds,r,y,D⟩,v2,v3,G,I,rfl⟩;exact k pp ⟨0,0,0,0,0,0,0,0,0,0⟩ W s1 ⟨ds,r,y,λj d hd=>(D j d hd).mono (jm _ _)⟩
def iU(R:List Rw)(b:List Int):Prop:=∃x∈R,∃m,m<x.1.length/\b=x.1.take m
def CH:Sp:=λvs H Q _=>∃(a:Addr) (D:Kt),vs=[.ref a]/\dB H a D/\(∀g:Int,cR D g->iK (bC D g)) /\
 ∀p (ss:List bP) H',af H H'->dA H' p ss->(ss.map λs=>s.2.2).Nodup->(∀g b,(g,b)∈(ss.map λs=>s.2.2) ↔ cR D g/\iU (bC D g) b)->ss.length<=300->H p=none->(∀s∈ss,H s.2.1=none)->Q (.ref p) H'
def IA (T:Txt K mg t):bo P w K mg base "_law_spots" 1 t.ve t.sN ["_law_pages_here"] CH:=by
 refine⟨T.JJ,T.A1.kp,T.L9,T.A1.okQ iZ (λvs H Q E h=>by obtain⟨a,D,rfl,_⟩:=h;rfl) λ_ _ _ _ H vs Q E hr h=>?_⟩;obtain⟨a,D,rfl,pg,ok,k⟩:=h;have hu:=hr.units;obtain⟨ds,ha,ld,rd⟩:=id pg;obtain⟨n1,n2⟩:=yH D;refine⟨_,(ao (aF (i:=1) iZ.nd Z (.inl Z) (bh ag))
  (ao (bz PassesOwn.never rfl (jd (K:=K) rfl rfl T.n_enumerate (ab (aa 0) ag)) (cN (K:=K) rfl rfl (bp (aG (i:=2) iZ.nd rfl (.inl rfl)) (bp (aG (i:=3) iZ.nd rfl (.inl rfl)) cM))) (ak (bz PassesOwn.never rfl (cV (K:=K) rfl (aa 3)) (cN (K:=K) rfl rfl (bp (aG (i:=4) iZ.nd rfl (.inl rfl)) (bp (aG (i:=5) iZ.nd rfl (.inl rfl)) cM))) (ak (bz PassesOwn.never rfl (gU rfl T.n_range (ab (bq (Of K) T.n_len OM (ab (aa 4) ag)) ag)) (aG (i:=6) iZ.nd rfl (.inl rfl)) (ak (be (aT (J6 (K:=K) rfl hu) (bE (ab (aa 2) (ab (cb (Oi K) (aa 4) cL (bN (aa 6))) ag))) (aa 1) (by with_unfolding_all rfl)) (ak (cU (dJ (K:=K) rfl O1 O9 Pa eB (aa 1) (ab (bE (ab (aa 2) (ab (cb (Oi K) (aa 4) cL (bN (aa 6))) ag))) ag)))) bi)))))))
  (ak (aE (aa 1))))),?_⟩
 refine⟨sz Z,λp H1 Y=>?_⟩;refine⟨a,_,rfl,.of (Y.sm _ _ ha),lY (K:=K) (a:=a) (xs:=ds.map V.ref) (λi σ H'=>af H H'/\(∃ss:List bP,dA H' p ss/\(∀s∈ss,s.2.1≠p/\H s.2.1=none)/\(ss.map λs=>s.2.2).Nodup/\(∀g b,(g,b)∈(ss.map λs=>s.2.2) ↔ ∃f:Nat,f<i/\g=(f:Int)/\iU (bC D g) b)/\ss.length<=i*96)/\∃v2 v3 J M C,σ=[some (.ref a),some (.ref p),v2,v3,J,M,C]) ⟨Y.sm,⟨[],⟨Y.at_,λs h=>nomatch h⟩,(λs h=>nomatch h),.nil,(λg b=>⟨(λh=>nomatch h),λ⟨f,h,_⟩=>Sd h (Py _)⟩),Ox _⟩,_,_,_,_,_,rfl⟩ (λi σ H' _ z=>z.1.seq (.of ha)) ?_ ?_⟩
 ·rintro i x pp σ H2 H3 hx ⟨s2,⟨ss,sh,ns,nd,mem,ls⟩,v2,v3,J,M,C,rfl⟩ g3;obtain⟨d,hd,rfl⟩:=ox hx;obtain⟨qs,rq,er⟩:=rd i d hd;have il:i<lK D:=by rw[<- ld];exact (Ou.mp hd).1
  have okR:=ok (i:Int) (rT il);obtain⟨R,eR⟩:∃R,R=bC D (i:Int):=⟨_,rfl⟩;rw[<- eR]at er okR;have lq:qs.length=R.length:=by have:=congrArg List.length er;rw[On]at this;exact this
  have aB:=okR.l;refine⟨pp,_,Z,g3.tup,Z,_,_,Z,_,_,Z,Z,?_⟩;have a1:=s2.trans g3.sm;refine⟨d,rfl,⟨_,.of (a1 _ _ rq.1)⟩,eG (K:=K) (a:=d) (xs:=qs.map λq=>V.ref q.1) (λj σ H'=>af H H'/\(∃ss:List bP,dA H' p ss/\(∀s∈ss,s.2.1≠p/\H s.2.1=none)/\(ss.map λs=>s.2.2).Nodup/\(∀g b,(g,b)∈(ss.map λs=>s.2.2) ↔ (∃f:Nat,f<i/\g=(f:Int)/\iU (bC D g) b)\/(g=(i:Int)/\iU (R.take j) b))/\ss.length<=i*96+j*6)/\∃J M C,σ=[some (.ref a),some (.ref p),some (.int (i:Int)),some (.ref d),J,M,C]) ⟨a1,⟨ss,sh.mono g3.sm,ns,nd,λg b=>(mem g b).trans ⟨.inl,λh=>h.elim id λ⟨_,x,h,_⟩=>nomatch h⟩,ls⟩,_,_,_,rfl⟩ (λj σ H' _ z=>z.1.seq (.of rq.1)) ?_ ?_⟩
  ·rintro j x σ H4 hx ⟨U,⟨ss,sh,ns,nd,mem,ls⟩,J,M,C,rfl⟩;obtain⟨q,hq,qm,rfl⟩:=wO hx;have tq:=rq.2 q qm;have G:R[j]? = some q.2.2:=by rw[<- er,Ov,hq];rfl
   have rm:=OA G;obtain⟨r1,r6,_⟩:=okR.sg _ rm;have jl:=(Ou.mp hq).1;refine⟨q.1,_,Z,.of (U _ _ tq.1),Z,_,_,Z,_,_,Z,Z,?_⟩;refine⟨_,.inl (.of (U _ _ tq.2)),?_⟩;rw[On];refine⟨(q.2.2.1.length:Int),rfl,by omega,by omega,?_⟩;rw[OX];refine jr (lo:=0) (n:=q.2.2.1.length) (λm σ H'=>af H H'/\(∃ss:List bP,dA H' p ss/\(∀s∈ss,s.2.1≠p/\H s.2.1=none)/\(ss.map λs=>s.2.2).Nodup/\(∀g b,(g,b)∈(ss.map λs=>s.2.2) ↔ ((∃f:Nat,f<i/\g=(f:Int)/\iU (bC D g) b)\/(g=(i:Int)/\iU (R.take j) b))\/(g=(i:Int)/\∃k,k<m/\b=q.2.2.1.take k))/\ss.length<=i*96+j*6+m)/\∃C,σ=[some (.ref a),some (.ref p),some (.int (i:Int)),some (.ref d),some (.ref q.2.1),some (.int q.2.2.2),C]) ⟨U,⟨ss,sh,ns,nd,λg b=>(mem g b).trans ⟨.inl,λh=>h.elim id λ⟨_,k,y,_⟩=>Sd y (Py _)⟩,ls⟩,_,rfl⟩ ?_ ?_
   ·rintro m σ H5 hm ⟨N,⟨ss,sh,ns,nd,mem,ls⟩,C,rfl⟩;have q5:=N _ _ tq.2;refine⟨_,Z,_,.of q5,λp6 H6 g6=>?_⟩;rw[Pe,eI]at g6;refine⟨sz Z,λp7 H7 g7=>?_⟩;have B:=g6.sm.trans g7.sm;have F:=sh.mono B;have tu:fe H7 (p7,p6,(i:Int),q.2.2.1.take m):=⟨g7.at_,g7.sm _ _ g6.at_⟩;refine gv (by rfl) (Ij (u:=(p7,p6,(i:Int),q.2.2.1.take m)) F tu λc hc=>?_);have hc:c=true ↔ ((i:Int),q.2.2.1.take m)∈ss.map λs=>s.2.2:=hc;refine aH (λz=>?_) (λz=>?_)
    ·have cf:¬((i:Int),q.2.2.1.take m)∈ss.map λs=>s.2.2:=λh=>by have:=hc.mpr h;rw[this]at z;cases z
     refine⟨.inl ⟨rfl,_,.of F.1⟩,?_⟩;have q7:=B _ _ q5;refine⟨_,Z,_,.of q7,λp8 H8 S=>?_⟩;rw[Pe,eI]at S;refine⟨sz Z,λp9 H9 g9=>?_⟩;have a2:=S.sm.trans g9.sm;have W:=F.mono a2;refine⟨_,W.1,cI (by rw[On];omega),?_⟩;have n8:p8≠p:=(aO F.1 S.nw).symm;refine⟨(N.trans (B.trans a2)).put Y.nw,⟨ss++[(p9,p8,(i:Int),q.2.2.1.take m)],dA.push (u:=(p9,p8,(i:Int),q.2.2.1.take m)) W (λs hs=>(ns s hs).1) ⟨g9.at_,g9.sm _ _ S.at_⟩ n8,λs hs=>?_,?_,λg b=>?_,by rw[Oz];exact QN ls⟩,_,Z⟩
     ·rcases Os.mp hs with h|h
      ·exact ns s h
      ·rw[Op.mp h];exact⟨n8,(N.trans B).free S.nw⟩
     ·rw[Ot];refine Pd.mpr ⟨nd,by simp,λu hu v hv e=>?_⟩;have hv:=Op.mp hv;rw[e,hv]at hu;exact cf hu
     ·rw[Ot,Os,mem]
      constructor
      ·rintro ((h|⟨o,k,y,e⟩)|h)
       ·exact .inl h
       ·exact .inr ⟨o,k,PF y,e⟩
       ·have h:=Op.mp h;cases h;exact .inr ⟨rfl,m,Pb _,rfl⟩
      ·rintro (h|⟨rfl,k,y,rfl⟩)
       ·exact .inl (.inl h)
       ·by_cases c:k<m
        ·exact .inl (.inr ⟨rfl,k,c,rfl⟩)
        ·obtain rfl:k=m:=by omega
         exact .inr (Op.mpr Z)
    ·have ct:((i:Int),q.2.2.1.take m)∈ss.map λs=>s.2.2:=hc.mp (by cases c with|true=>rfl|false=>exact Sd rfl z);refine⟨N.trans B,⟨ss,F,ns,nd,λg b=>?_,by omega⟩,_,rfl⟩;rw[mem]
     constructor
     ·rintro (h|⟨o,k,y,e⟩)
      ·exact .inl h
      ·exact .inr ⟨o,k,PF y,e⟩
     ·rintro (h|⟨rfl,k,y,rfl⟩)
      ·exact .inl h
      ·by_cases c:k<m
       ·exact .inr ⟨rfl,k,c,rfl⟩
       ·obtain rfl:k=m:=by omega
        exact (mem _ _).mp ct
   ·rintro σ H5 ⟨N,⟨ss,sh,ns,nd,mem,ls⟩,C,rfl⟩;refine⟨N,⟨ss,sh,ns,nd,λg b=>(mem g b).trans ?_,by omega⟩,_,_,_,rfl⟩
    constructor
    ·rintro ((h|⟨o,r,hr,z⟩)|⟨o,k,y,e⟩)
     ·exact .inl h
     ·exact .inr ⟨o,r,(eE G).mpr (.inl hr),z⟩
     ·exact .inr ⟨o,_,(eE G).mpr (.inr Z),k,y,e⟩
    ·rintro (h|⟨o,r,hr,k,y,e⟩)
     ·exact .inl (.inl h)
     ·rcases (eE G).mp hr with h|h
      ·exact .inl (.inr ⟨o,r,h,k,y,e⟩)
      ·rw[h]at y e;exact .inr ⟨o,k,y,e⟩
  ·rintro σ H4 ⟨U,⟨ss,sh,ns,nd,mem,ls⟩,J,M,C,rfl⟩;rw[On]at mem ls;rw[lq,OK]at mem;refine⟨U,⟨ss,sh,ns,nd,λg b=>(mem g b).trans ?_,by omega⟩,_,_,_,_,_,rfl⟩
   constructor
   ·rintro (⟨f,O,I,L⟩|⟨o,h⟩)
    ·exact⟨f,PF O,I,L⟩
    ·exact⟨i,Pb _,o,by rw[o,<- eR];exact h⟩
   ·rintro⟨f,O,I,L⟩;by_cases c:f<i
    ·exact .inl ⟨f,c,I,L⟩
    ·obtain rfl:f=i:=by omega
     exact .inr ⟨I,by rw[I,<- eR]at L;exact L⟩
 ·rintro σ H2 ⟨s2,⟨ss,sh,ns,nd,mem,ls⟩,v2,v3,J,M,C,rfl⟩;rw[On,ld]at mem ls;refine k p ss H2 s2 sh nd (λg b=>(mem g b).trans ?_) (by omega) Y.nw λs hs=>(ns s hs).2
  constructor
  ·rintro⟨f,O,I,L⟩;exact⟨by rw[I];exact rT O,L⟩
  ·rintro⟨O,I⟩;obtain⟨j,e,hj⟩:=rB O;exact⟨j,hj,e,I⟩
def CW:Sp:=λvs H Q _=>∃(B:Tb) (a:Addr) (s:bP) (x:Int),vs=[.ref a,.ref s.1,.int x]/\dB H a B.D/\fe H s/\cR B.D s.2.2.1/\s.2.2.2.length<=1000 /\
 (nx s.2.2 [x]=none->∀H',af H H'->Q .non H')/\∀(u:bP) H',nx s.2.2 [x]=some u.2.2->af H H'->fe H' u->H u.2.1=none->Q (.ref u.1) H'
def IG (T:Txt K mg t):bo P w K mg base "_law_next" 1 t.vm t.sV ["_law_pages_here", "_law_spot", "_law_byte"] CW:=by
 refine⟨T.JQ,T.A8.kp,T.Mg,T.A8.okQ og (λvs H Q E h=>by obtain⟨B,a,s,x,rfl,_⟩:=h;rfl) λ_ _ _ _ H vs Q E U h=>?_⟩;obtain⟨B,a,⟨sp,sl,g,b⟩,x,rfl,pg,⟨m,I⟩,O,lb,k0,k1⟩:=h;dsimp only at m I O lb k0 k1;have n:=U.units;obtain⟨ds,ha,ld,rd⟩:=id pg;obtain⟨j0,ej,ae⟩:=rB O;obtain⟨d,hd⟩:∃d,ds[j0]? = some d:=⟨_,OF (by omega)⟩;obtain⟨qs,N,J⟩:=rd j0 d hd;rw[<- ej]at J;have ok:=B.ok g (iA O);obtain⟨R,eR⟩:∃R,R=bC B.D g:=⟨_,rfl⟩;rw[<- eR]at J ok;have lq:qs.length=R.length:=by have:=congrArg List.length J;rw[On]at this;exact this
 refine⟨_,(ao (aF (i:=3) og.nd Z (.inl Z) (bG (Oj K) (aA (Og K) (aa 1) aq (λ_ _=>rfl)) (bh (ab (aa 2) ag))))
  (ao (bz PassesOwn.never rfl (cV (K:=K) rfl (aA (Og K) (aa 0) (aA (Og K) (aa 1) aq (λ_ _=>rfl)) (λ_ _=>rfl))) (cN (K:=K) rfl rfl (bp (aG (i:=4) og.nd rfl (.inl rfl)) (bp (aG (i:=5) og.nd rfl (.inl rfl)) cM))) (ao (be (aT (cK (K:=K) rfl n) (aa 4) (aa 3) (aV _)) (ak (aE (bE (ab (aa 5) (ab (bh ag) ag))))) bi)
  (ak (be (aT (cK (K:=K) rfl n) (cb (Oi K) (aa 4) cL (bN (bq (Of K) T.n_len OM (ab (aa 3) ag)))) (aa 3) (aV _)) (ak (aE (bE (ab (aA (Og K) (aa 1) aq (λ_ _=>rfl)) (ab (aa 3) ag))))) bi))))
  (ak (aE bL)))),?_⟩
 refine⟨_,.ref sl,.inr (.of m),aY (j:=1) Z,?_⟩;refine⟨sz Z,λp1 H1 L=>?_⟩;refine⟨_,_,.of (L.sm _ _ I),L.lst,cy (by rw[On];show b.length+1<=_;omega),λp2 H2 G=>?_⟩;have e2:b.map V.int++[V.int x]=(b++[x]).map V.int:=by simp
 rw[e2]at G;have f:=L.sm.trans G.sm;obtain⟨e,C⟩:∃e,e=b++[x]:=⟨_,rfl⟩;have o:nx (g,b) [x]=match R.find? λy=>decide (y.1=e) with|some y=>some (y.2,[])|none=>if ∃y∈R,ba e y.1=true then some (g,e) else none:=by rw[C,eR];rfl
 rw[<- C]at G;refine⟨_,.int g,.inr (.of (f _ _ m)),aY (j:=0) Z,?_⟩;refine⟨_,.ref d,.inl (.of (f _ _ ha)),by rw[ej];exact aY (by rw[Ov,hd];rfl),?_⟩;refine⟨d,rfl,⟨_,.of (f _ _ N.1)⟩,eG (K:=K) (a:=d) (xs:=qs.map λq=>V.ref q.1) (λj σ H'=>af H2 H'/\(∀y∈R.take j,¬ba e y.1=true)/\∃v4 v5,σ=[some (.ref a),some (.ref sp),some (.int x),some (.ref p2),v4,v5]) ⟨af.refl _,(λr h=>nomatch h),_,_,rfl⟩ (λj σ H' _ z=>.of (z.1 _ _ (f _ _ N.1))) ?_ ?_⟩
 ·rintro j y σ H3 hy ⟨F,no,v4,v5,rfl⟩;obtain⟨q,hq,qm,rfl⟩:=wO hy;have l:=f.trans F;have W:=(N.2 q qm).mono l;have v:R[j]? = some q.2.2:=by rw[<- J,Ov,hq];rfl
  have rm:=OA v;refine⟨q.1,_,Z,.of W.1,Z,_,_,Z,_,_,Z,Z,?_⟩;have M:=F _ _ G.at_;refine DM (Ce (Cd (gv (by rfl) (gv (by rfl) (ma (.of W.2) (.of M) ?_)))));have uq:∀y∈R,y.1=e->R.find? (λy=>decide (y.1=e))=some y:=λy hy ey=>by
   cases c:R.find? λy=>decide (y.1=e) with
   | none=>exact Sd (Pf.mp c y hy) (by simp[ey])
   | some z =>
    have ez:z.1=e:=by simpa using PM c
    rw[ok.uniq (Px c) hy (fE.mpr (by rw[ey,ez,OK]))]
  refine aH (λz=>?_) (λz=>?_)
  ·have z:q.2.2.1=e:=Se z;refine⟨sz Z,λp4 H4 k=>?_⟩;refine⟨sz Z,λp5 Y p=>?_⟩;refine k1 (p5,p4,q.2.2.2,[]) Y ?_ (l.trans (k.sm.trans p.sm)) ⟨p.at_,p.sm _ _ k.at_⟩ (l.free k.nw);rw[o,uq _ rm z]
  ·have z:¬q.2.2.1=e:=λh=>z (Sf h);refine⟨_,.inl (.of M),_,Z,_,.of W.2,λp4 H4 k=>?_⟩;rw[On,eI]at k;refine gv (by rfl) (ma k.lst (.of (k.sm _ _ M)) ?_);refine aH (λy=>?_) (λy=>?_)
   ·have y:ba e q.2.2.1=true:=y;refine⟨_,.int g,.inr (.of (k.sm _ _ (l _ _ m))),aY (j:=0) Z,?_⟩;refine⟨sz Z,λp5 Y p=>?_⟩;refine k1 (p5,p2,g,e) Y ?_ (l.trans (k.sm.trans p.sm)) ⟨p.at_,p.sm _ _ (k.sm _ _ M)⟩ (L.sm.free G.nw);have S:R.find? (λy=>decide (y.1=e))=none:=Pf.mpr λu n w=>by
     have w:u.1=e:=Se w;have:=ok.uniq n rm (by rw[w];exact y);rw[this]at w;exact z w
    rw[o,S];dsimp only;rw[Sc ⟨_,rm,y⟩]
   ·have y:¬ba e q.2.2.1=true:=y;refine⟨F.trans k.sm,λr U=>?_,_,_,Z⟩;rcases (eE v).mp U with h|h
    ·exact no r h
    ·rw[h];exact y
 ·rintro σ H3 ⟨F,no,v4,v5,rfl⟩;rw[On,lq,OK]at no;refine k0 ?_ H3 (f.trans F);have S:R.find? (λy=>decide (y.1=e))=none:=Pf.mpr λu n w=>no u n (by rw[Se w];exact fE.mpr OK);rw[o,S];dsimp only;rw[Sb λ⟨u,n,w⟩=>no u n w]
def re[B:Tb](k:ai)(r:List Int){i:Nat}{x:Int}(hx:r[i]? = some x):run k (sg (r.take (i+1)))=(run k (sg (r.take i))).bind λg=>nx g [x]:=by
 have e:sg (r.take (i+1))=sg (r.take i)++[[x]]:=by rw[OU,hx];simp[sg]
 rw[e,lh]
 congr 1
 funext g
 show (run g [[x]])=nx g [x];unfold run;cases nx g [x]<;>rfl
theorem xK[B:Tb]:∀(us:List (List Int)) {k a:ai},Gd k->run k us=some a->Gd a
 | [],k,a,h,e=>by
  cases e;exact h
 | u::us,k,a,h,e=>by
  unfold run at e;cases c:nx k u with
  | none=>rw[c]at e;cases e
  | some z=>rw[c]at e;exact xK us (yD h.1 c) e
def dz[B:Tb](H:Hp)(o p:Addr)(k0:ai)(r:List Int)(i:Nat):Prop:=∃ss:List bP,dA H p ss/\ss.length=i+1/\(∀j,j<=i->∃s,ss[j]? = some s/\run k0 (sg (r.take j))=some s.2.2)/\p≠o/\∀s∈ss,s.2.1≠o/\s.2.1≠p
def dz.mono[B:Tb]{H H':Hp}{o p:Addr}{k0:ai}{r:List Int}{i:Nat}(h:dz H o p k0 r i)(s:af H H'):dz H' o p k0 r i:=by
 obtain⟨ss,b,a⟩:=h;exact⟨ss,b.mono s,a⟩
def dz.put[B:Tb]{H:Hp}{o p:Addr}{k0:ai}{r:List Int}{i:Nat}{xs g:List V}(h:dz H o p k0 r i)(e:H o=some (.lst xs)):dz (upd H o (.lst g)) o p k0 r i:=by
 obtain⟨ss,d,j,f,b,a⟩:=h;refine⟨ss,⟨by rw[am b];exact d.1,λs c=>?_⟩,j,f,b,a⟩;have z:=d.2 s c;exact⟨by rw[am (aD z.1 e (by intro z;cases z))];exact z.1,by rw[am (a s c).1];exact z.2⟩
def dz.last[B:Tb]{H:Hp}{o p:Addr}{k0:ai}{r:List Int}{i:Nat}(h:dz H o p k0 r i):∃(ss:List bP) (z:bP),dA H p ss/\ss.length=i+1/\z∈ss/\bZ (ss.map λs=>V.ref s.1) (-1)=some (.ref z.1)/\run k0 (sg (r.take i))=some z.2.2/\(∀j,j<=i->∃s,ss[j]? = some s/\run k0 (sg (r.take j))=some s.2.2)/\p≠o/\∀s∈ss,s.2.1≠o/\s.2.1≠p:=by
 obtain⟨ss,g,c,d,f,e⟩:=h;obtain⟨z,hz,k⟩:=d i (Oo _);refine⟨ss,z,g,c,OA hz,?_,k,d,f,e⟩;obtain⟨a,y,b⟩:∃a y,ss=a++[y]:=⟨ss.dropLast,ss.getLast (by intro z;rw[z]at c;cases c),(List.dropLast_concat_getLast _).symm⟩;have l0:a.length=i:=by rw[b,Oz]at c;simpa using c
 have:y=z:=by
  rw[b,<- l0,PC (Oo _),QK]at hz;exact OI hz
 rw[b,Ot,<- this];exact uZ _ _
def CB(K:PySem.W.Frag):Sp:=λvs H Q _=>∃(B:Tb) (a b:Addr) (r:List Int),vs=[.ref a,.ref b]/\dB H a B.D/\aJ K H b (r.map V.int)/\r.length<=2000 /\
 ∀p (c:List (Addr × ai)) H',af H H'->H' p=some (.lst (c.map λw=>V.ref w.1))->(∀w∈c,dz H' p w.1 w.2 r r.length)->(∀k0:ai,k0∈c.map (λw=>w.2) ↔ (cR B.D k0.1/\iU (bC B.D k0.1) k0.2)/\(run k0 (sg r)).isSome=true)->c.length<=300->Q (.ref p) H'
def Iz (T:Txt K mg t):bo P w K mg base "_law_walks" 2 t.vd t.sM ["_law_pages_here", "_law_row_here"] (CB K):=by
 refine⟨T.JI,T.AZ.kp,T.L8,T.AZ.okQ mF (λvs H Q E h=>by obtain⟨B,a,b,r,rfl,_⟩:=h;rfl) λ_ _ _ _ H vs Q E hr h=>?_⟩;obtain⟨B,a,b,r,rfl,pg,hb,lr,k⟩:=h;have hu:=hr.units;refine⟨_,(ao (aF (i:=2) mF.nd Z (.inl Z) (bh ag))
  (ao (bz PassesOwn.never rfl (cV (K:=K) rfl (bb (IA T) hr (ab (aa 0) ag))) (aG (i:=3) mF.nd rfl (.inl rfl)) (ao (aF (i:=4) mF.nd rfl (.inl rfl) (bh (ab (aa 3) ag)))
  (ao (bz PassesOwn.never rfl (cV (K:=K) rfl (aa 1)) (aG (i:=5) mF.nd rfl (.inl rfl)) (ak (be (aT iE (aA (Og K) (aa 4) (oE nS aq) (λ_ _=>rfl)) bL (aV _)) (ak (cU (dJ (K:=K) rfl O1 O9 Pa eB (aa 4) (ab (bb (IG T) hr (ab (aa 0) (ab (aA (Og K) (aa 4) (oE nS aq) (λ_ _=>rfl)) (ab (aa 5) ag)))) ag)))) bi)))
  (ak (be (aT iE (aA (Og K) (aa 4) (oE nS aq) (λ_ _=>rfl)) bL (aV _)) (ak (cU (dJ (K:=K) rfl O1 O9 Pa eB (aa 2) (ab (aa 4) ag)))) bi)))))
  (ak (aE (aa 2))))),?_⟩
 refine⟨sz Z,λp H1 M=>?_⟩;refine⟨a,B.D,Z,pg.mono M.sm,λg hg=>B.ok g (iA hg),λq ss H2 s2 sh nd mem ls nq a2=>?_⟩;have a8:=M.sm.trans s2;have qp:q≠p:=(aO M.at_ nq).symm;refine⟨q,rfl,⟨_,.of sh.1⟩,eG (K:=K) (a:=q) (xs:=ss.map λs=>V.ref s.1) (λi σ H'=>af H H'/\dA H' q ss/\(∃F:List (Addr × ai),H' p=some (.lst (F.map λw=>V.ref w.1))/\(∀w∈F,dz H' p w.1 w.2 r r.length)/\(∀k0:ai,k0∈F.map (λw=>w.2) ↔ k0∈(ss.take i).map (λs=>s.2.2)/\(run k0 (sg r)).isSome=true)/\F.length<=i)/\∃v3 v4 R,σ=[some (.ref a),some (.ref b),some (.ref p),v3,v4,R]) ⟨a8,sh,⟨[],s2 _ _ M.at_,(λw h=>nomatch h),(λk0=>⟨(λh=>nomatch h),λh=>nomatch h.1⟩),Oo _⟩,_,_,_,rfl⟩ (λi σ H' _ z=>.of z.2.1.1) ?_ ?_⟩
 ·rintro i x σ H3 hx ⟨W,O,⟨F,w3,G,f,I⟩,v3,v4,R,rfl⟩;obtain⟨u,a1,um,rfl⟩:=Cz hx;have tu:=O.2 u um;have pk:cR B.D u.2.2.1:=((mem u.2.2.1 u.2.2.2).mp (Oq.mpr ⟨u,um,rfl⟩)).1;have gu:Gd u.2.2:=by
   obtain⟨_,x,hx,m,hm,e⟩:=(mem u.2.2.1 u.2.2.2).mp (Oq.mpr ⟨u,um,rfl⟩);obtain⟨_,l6,bs⟩:=(B.ok _ (iA pk)).sg x hx;refine⟨pk,?_,λb hb=>?_⟩
   ·rw[e,OG];omega
   ·rw[e]at hb;exact (bs b (Pj hb)).1
  have up:u.2.1≠p:=(aO M.at_ (a2 u um)).symm;refine⟨sz Z,λc H4 L=>?_⟩;have cp:c≠p:=(aO w3 L.nw).symm;have uc:u.2.1≠c:=aO tu.2 L.nw;refine⟨b,Z,⟨_,(W.trans L.sm).seq hb⟩,eG (K:=K) (a:=b) (xs:=r.map V.int) (λj σ H'=>af H3 H'/\(dz H' p c u.2.2 r j\/(run u.2.2 (sg (r.take j))=none/\∃xs,H' c=some (.lst (xs++[V.non]))))/\∃R,σ=[some (.ref a),some (.ref b),some (.ref p),some (.ref u.1),some (.ref c),R]) ⟨L.sm,.inl ⟨[u],⟨L.at_,λs C=>?_⟩,Z,λj hj=>?_,cp,λs C=>?_⟩,_,Z⟩ (λj σ H' _ z=>(W.trans z.1).seq hb) ?_ ?_⟩
  ·rw[Op.mp C];exact tu.mono L.sm
  ·obtain rfl:j=0:=by omega
   exact⟨u,Z,Z⟩
  ·rw[Op.mp C];exact⟨up,uc⟩
  ·rintro j y σ H5 hy ⟨n,J,R,rfl⟩;obtain⟨x,hx,rfl⟩:=iC hy;have jl:=(Ou.mp hx).1;rcases J with J|⟨no,xs,hc⟩
   ·obtain⟨zs,z,v,lz,zm,la,Y,al,_,av⟩:=J.last;refine⟨_,.ref z.1,.inl (.of v.1),la,?_⟩;refine⟨.inl ⟨rfl,_,.of v.1⟩,?_⟩;refine⟨_,.ref z.1,.inl (.of v.1),la,?_⟩;have gz:=xK _ gu Y;refine⟨B,a,z,x,rfl,pg.mono (W.trans n),v.2 z zm,gz.1,OJ gz.2.1 (by decide),λh H6 S=>?_,λo H6 h S so no=>?_⟩
    ·have c6:=S _ _ v.1;refine⟨_,c6,cI (by rw[On];omega),?_⟩;refine⟨(n.trans S).put L.nw,.inr ⟨?_,_,aP⟩,_,Z⟩;rw[re _ _ hx,Y];exact h
    ·have c6:=S _ _ v.1;refine⟨_,c6,cI (by rw[On];omega),?_⟩;have oc:o.2.1≠c:=(aO v.1 no).symm;have op:o.2.1≠p:=(aO (n _ _ w3) no).symm;refine⟨(n.trans S).put L.nw,.inl ⟨zs++[o],dA.push (v.mono S) (λs C=>(av s C).2) so oc,by rw[Oz,lz];rfl,λm hm=>?_,cp,λs C=>?_⟩,_,rfl⟩
     ·by_cases e:m<=j
      ·obtain⟨s',d,l⟩:=al m e;exact⟨s',by rw[Pq (by omega)];exact d,l⟩
      ·obtain rfl:m=j+1:=by omega
       refine⟨o,by rw[PC (by omega),lz,QK];rfl,?_⟩;rw[re _ _ hx,Y];exact h
     ·rcases Os.mp C with h'|h'
      ·exact av s h'
      ·rw[Op.mp h'];exact⟨op,oc⟩
   ·refine⟨_,.non,.inl (.of hc),uZ _ _,?_⟩;refine⟨n,.inr ⟨?_,xs,hc⟩,_,Z⟩;rw[re _ _ hx,no]
    rfl
  ·rintro σ H5 ⟨n,J,R,rfl⟩;rw[On]at J;have a0:=W.trans n;have N:=O.mono n;have U:=n _ _ w3;have a5:(ss.take (i+1)).map (λs=>s.2.2)=(ss.take i).map (λs=>s.2.2)++[u.2.2]:=by rw[OU,a1];simp
   rcases J with J|⟨no,xs,hc⟩
   ·obtain⟨zs,z,v,lz,zm,la,Y,al,_,av⟩:=J.last;rw[OK]at Y;refine⟨_,.ref z.1,.inl (.of v.1),la,?_⟩;refine⟨.inl ⟨rfl,_,.of U⟩,?_⟩;have il:=(Ou.mp a1).1;refine⟨_,U,cI (by rw[On];omega),?_⟩;refine⟨a0.put M.nw,⟨by rw[am qp];exact N.1,λs C=>?_⟩,⟨F++[(c,u.2.2)],by rw[aP,Ot];rfl,λw hw=>?_,λk0=>?_,by rw[Oz];exact QN I⟩,_,_,_,Z⟩
    ·have tz:=N.2 s C;exact⟨by rw[am (aD tz.1 U (by intro z;cases z))];exact tz.1,by rw[am (aO M.at_ (a2 s C)).symm];exact tz.2⟩
    ·rcases Os.mp hw with h'|h'
     ·exact ((G w h').mono n).put U
     ·rw[Op.mp h'];exact J.put U
    ·rw[Ot,Os,f,a5,Os]
     constructor
     ·rintro (⟨d,l⟩|d)
      ·exact⟨.inl d,l⟩
      ·have d:k0=u.2.2:=Op.mp d;exact⟨.inr (Op.mpr d),by rw[d,Y];rfl⟩
     ·rintro⟨d|d,l⟩
      ·exact .inl ⟨d,l⟩
      ·exact .inr d
   ·rw[OK]at no;refine⟨_,.non,.inl (.of hc),uZ _ _,?_⟩;refine⟨a0,N,⟨F,U,λw hw=>(G w hw).mono n,λk0=>?_,Nat.le_succ_of_le I⟩,_,_,_,Z⟩;rw[f,a5,Os]
    constructor
    ·rintro⟨d,l⟩;exact⟨.inl d,l⟩
    ·rintro⟨d|d,l⟩
     ·exact⟨d,l⟩
     ·rw[Op.mp d,no]at l;cases l
 ·rintro σ H3 ⟨W,O,⟨F,w3,G,f,I⟩,v3,v4,R,rfl⟩;rw[On]at f I;rw[OK]at f;refine k p F H3 W w3 G (λk0=>?_) (by omega);rw[f,mem k0.1 k0.2]
def dR(x:Rw):PyData:=.tuple [dI x.1,.int x.2]
def Lh(x:Rw):(dR x).canLay0=true/\(dR x).depth<=3:=by
 obtain⟨a,b⟩:=Ak x.1;unfold dR;refine⟨by simp[PyData.canLay0,PyData.canLayAll0,a],?_⟩;simp[PyData.depth,PyData.depthAll];omega
def Li{H:Hp}{q:eJ}(h:ie H q):aU K H (dR q.2.2) (.ref q.1):=aU.tup (.of h.1) (.cons (Am h.2) (.cons (aU.int _) .nil))
def GD{H:Hp}{d e:Addr}{a:List eJ}{Q:VK}(h:gH H d a)(b:H e=some (.lst []))(q:Q (.bl (!decide (a=[]))) H):gA K true (.ref d) (.ref e) H Q:=by
 refine⟨.list (a.map λq=>dR q.2.2),.list [],aU.lst (.of h.1) (ni λq c=>Li (h.2 q c)),aU.lst (.of b) .nil,n5 (o7 (n:=3) (λq:eJ=>Lh q.2.2) a) (by decide),by decide,?_⟩;have e:(PyData.list (a.map λq=>dR q.2.2)).eqv (.list [])=decide (a=[]):=by cases a<;>rfl
 rw[e];exact q
def Fo(c:Int):∃b:Int,bZ [V.int 0,.int 7,.int 255,.int 1,.int 254,.int 3] (c%6)=some (.int b)/\0<=b:=by
 have d:=QL c (b:=6) (by decide);have e:=QM c (b:=6) (by decide);obtain⟨j,a⟩:∃j:Nat,c%6=(j:Int):=⟨(c%6).toNat,by omega⟩;have:j<6:=by omega
 rw[a]
 match j,this with
 | 0,_=>exact⟨0,rfl,by decide⟩
 | 1,_=>exact⟨7,rfl,by decide⟩
 | 2,_=>exact⟨255,rfl,by decide⟩
 | 3,_=>exact⟨1,rfl,by decide⟩
 | 4,_=>exact⟨254,rfl,by decide⟩
 | 5,_=>exact⟨3,rfl,by decide⟩
def CP(K:PySem.W.Frag):Sp:=λvs H Q _=>∃(a b:Addr) (D:Kt) (cs:List Int) (y:Int),vs=[.ref a,.ref b,.int y]/\dB H a D/\(∀g:Int,cR D g->iK (bC D g))/\aJ K H b (cs.map V.int)/\cs.length<=40 /\
 ∀p (r:List Int) H',af H H'->H' p=some (.lst (r.map V.int))->(∀x∈r,0<=x)->r.length<=40->Q (.ref p) H'
def IC (T:Txt K mg t):bo P w K mg base "_law_row" 1 t.vg t.sP ["_law_pages_here", "_law_cells", "_law_way"] (CP K):=by
 refine⟨T.JL,T.A3.kp,T.Mb,T.A3.okQ iq (λvs H Q E h=>by obtain⟨a,b,D,cs,y,rfl,_⟩:=h;rfl) λ_ _ _ _ H vs Q E hr h=>?_⟩;obtain⟨a,b,D,cs,y,rfl,pg,ok,hb,lc,k⟩:=h;have hu:=hr.units;obtain⟨ds,ha,ld,rd⟩:=id pg;refine⟨_,(ao (aF (i:=3) iq.nd Z (.inl Z) (bh ag))
  (ao (aF (i:=4) iq.nd rfl (.inl rfl) aq)
  (ao (bz PassesOwn.never rfl (cV (K:=K) rfl (aa 1)) (aG (i:=5) iq.nd rfl (.inl rfl)) (ak (be (dQ (gj (aT (jn (K:=K) rfl hu) (aA (Og K) (aa 0) (aa 4) (λ_ _=>rfl)) (bh ag) (aV _)) (gh (aT (cK (K:=K) rfl hu) (dP (aa 2)) aq (aV _))))) (ao (Ej (aA (Og K) (aA (Og K) (aa 0) (aa 4) (λ_ _=>rfl)) (bG zH (aa 5) (bq (Of K) T.n_len OM (ab (aA (Og K) (aa 0) (aa 4) (λ_ _=>rfl)) ag))) (λ_ _=>rfl)) (cN (K:=K) rfl rfl (bp (aG (i:=6) iq.nd rfl (.inl rfl)) (bp (aG (i:=4) iq.nd rfl (.inl rfl)) cM))))
  (ak (aF (i:=3) iq.nd rfl (.inl rfl) (bG (Oj K) (aa 3) (aa 6))))) (ak (cU (dJ (K:=K) rfl O1 O9 Pa eB (aa 3) (ab (aA (Og K) (bh (rp rfl)) (dP (aa 5)) (λ_ _=>rfl)) ag)))))))
  (ao (be (aT (cK (K:=K) rfl hu) (dP (aa 2)) aq (aV _)) (ak (aF (i:=3) iq.nd rfl (.inl rfl) (cb (Oi K) (aa 3) (bN (bG zH (iz (aa 2)) (bG (Oj K) (bq (Of K) T.n_len OM (ab (aa 3) ag)) aq))) cL))) bi)
  (ak (aE (cb (Oi K) (aa 3) cL (bN aq)))))))),?_⟩
 refine⟨sz Z,λp H1 R=>?_⟩;refine⟨b,rfl,⟨_,R.sm.seq hb⟩,eG (K:=K) (a:=b) (xs:=cs.map V.int) (λi σ H'=>af H H'/\∃(c:Addr) (r:List Int) (g:Int) (v5 S:Option V),H c=none/\H' c=some (.lst (r.map V.int))/\(∀x∈r,0<=x)/\r.length<=i*6/\cR D g/\σ=[some (.ref a),some (.ref b),some (.int y),some (.ref c),some (.int g),v5,S]) ⟨R.sm,p,[],0,_,_,R.nw,R.at_,(λx h=>nomatch h),Ox _,rT (j:=0) (yH D).1,rfl⟩ (λi σ H' _ z=>z.1.seq hb) ?_ ?_⟩
 ·rintro i x σ H2 hx ⟨J,c,r,g,v5,S,cn,G,L,lr,I,rfl⟩;obtain⟨x,a0,rfl⟩:=iC hx;have il:=(Ou.mp a0).1;obtain⟨j0,ej,ar⟩:=rB I;obtain⟨d,hd⟩:∃d,ds[j0]? = some d:=⟨_,OF (by omega)⟩;obtain⟨u,W,er⟩:=rd j0 d hd;have okR:=ok g I;rw[<- ej]at er;have B:bZ (ds.map V.ref) g=some (.ref d):=by rw[ej];exact aY (by rw[Ov,hd];rfl)
  refine⟨_,.ref d,.inl (.of (J _ _ ha)),B,?_⟩;refine⟨sz Z,λp3 o s=>?_⟩;have f:=J.trans s.sm;refine GD (W.mono f) s.at_ ?_;have app:∀(v:Int),0<=v->∀(n:Hp),af o n->af H (upd n c (.lst (r.map V.int++[.int v])))/\∃(F:Addr) (l:List Int) (g':Int) (U a1:Option V),H F=none/\upd n c (.lst (r.map V.int++[.int v])) F=some (.lst (l.map V.int))/\(∀x∈l,0<=x)/\l.length<=(i+1)*6/\cR D g'/\[some (.ref a),some (.ref b),some (.int y),some (.ref c),some (.int g),some (V.int x),S]=[some (.ref a),some (.ref b),some (.int y),some (.ref F),some (.int g'),U,a1]:=λv O n s4=>by
   refine⟨(f.trans s4).put cn,c,r++[v],g,_,_,cn,by rw[aP,Ot];rfl,λx hx=>?_,by rw[Oz];show r.length+1<=_;omega,I,rfl⟩;rcases Os.mp hx with h|h
   ·exact L x h
   ·rw[Op.mp h];exact O
  obtain⟨v,hv,O⟩:=Fo x;have M:=s.sm _ _ G;refine aH (λe=>?_) (λe=>?_)
  ·have e:¬u=[]:=by simpa using e
   refine aH (λe2=>?_) (λe2=>?_)
   ·have l0:0<u.length:=PY.mpr e;have a3:=f _ _ ha;have d3:=(W.mono f).1;refine⟨_,.ref d,.inl (.of a3),B,?_⟩;refine⟨_,.ref d,.inl (.of a3),B,?_⟩;refine⟨_,.inl (.of d3),?_⟩;rw[On];refine⟨by omega,?_⟩;have h0:=QL x (b:=(u.length:Int)) (by omega);have h6:=QM x (b:=(u.length:Int)) (by omega);obtain⟨m,hm⟩:∃m:Nat,x%(u.length:Int)=(m:Int):=⟨(x%(u.length:Int)).toNat,by omega⟩;obtain⟨q,hq⟩:∃q,u[m]? = some q:=⟨_,OF (by omega)⟩;have tq:=(W.mono f).2 q (OA hq);have rm:q.2.2∈bC D g:=by rw[<- er];exact Oq.mpr ⟨q,OA hq,Z⟩
    obtain⟨_,q6,qb⟩:=okR.sg _ rm;refine⟨_,.ref q.1,.inl (.of d3),by rw[hm];exact aY (by rw[Ov,hq];rfl),?_⟩;refine⟨q.1,_,Z,.of tq.1,Z,_,_,Z,_,_,Z,Z,?_⟩;refine⟨_,_,.of M,.of tq.2,cy (by rw[On,On];omega),λp5 H5 Y=>?_⟩;refine⟨f.trans Y.sm,p5,r++q.2.2.1,q.2.2.2,_,_,f.free Y.nw,by rw[Ot];exact Y.at_,λx hx=>?_,by rw[Oz];omega,yi I rm,rfl⟩;rcases Os.mp hx with h|h
    ·exact L x h
    ·exact (qb x h).1
   ·refine⟨.inl ⟨rfl,_,.of M⟩,?_⟩;refine⟨sz Z,λp4 n C=>?_⟩;refine⟨_,.int v,.inl C.lst,hv,?_⟩;refine⟨_,C.sm _ _ M,cI (by rw[On];omega),?_⟩;exact app v O n C.sm
  ·dsimp only;rw[Sb OL];refine⟨.inl ⟨rfl,_,.of M⟩,?_⟩;refine⟨sz Z,λp4 n C=>?_⟩;refine⟨_,.int v,.inl C.lst,hv,?_⟩;refine⟨_,C.sm _ _ M,cI (by rw[On];omega),?_⟩;exact app v O n C.sm
 ·rintro σ H2 ⟨J,c,r,g,v5,S,cn,G,L,lr,I,rfl⟩;have N:∀(F:Addr) (l:List Int) (o:Hp),af H o->o F=some (.lst (l.map V.int))->(∀x∈l,0<=x)->∀p H',aZ o p (.lst (ce (l.map V.int) none (some 40))) H'->Q (.ref p) H':=λF l o s3 h3 a5 p H' g=>by
   rw[show ce (l.map V.int) none (some 40)=(l.take 40).map V.int from eI _ 40]at g;exact k p _ H' (s3.trans g.sm) g.at_ (λx hx=>a5 x (Pj hx)) (by rw[OG];omega)
  refine aH (λe=>?_) (λe=>?_)
  ·refine⟨_,.inl (.of G),?_⟩;refine⟨by omega,?_⟩;refine⟨_,Z,_,.of G,λp3 o s=>?_⟩;rw[gE]at s;exact⟨_,Z,_,s.lst,N p3 _ o (J.trans s.sm) s.at_ λx hx=>L x (Lm hx)⟩
  ·exact⟨_,Z,_,.of G,N c r H2 J G L⟩
def C2(K:PySem.W.Frag):Sp:=λvs H Q _=>∃(v:V) (b:Addr) (r:List Int) (m:Nat),vs=[v,.ref b,.int (m:Int)]/\H b=some (.lst (r.map V.int))/\(∀x∈r,0<=x)/\r.length<=40/\m<=40 /\
 (v=.non\/∃(q c:Addr) (x y:V) (z:List Int),v=.ref q/\H q=some (.tup [x,y,.ref c])/\H c=some (.lst (z.map V.int))/\(∀x∈z,0<=x)/\z.length<=160000) /\
 ∀p (r:List Int) H',af H H'->H' p=some (.lst (r.map V.int))->(∀x∈r,0<=x)->r.length<=200->Q (.ref p) H'
def II (T:Txt K mg t):bo P w K mg base "_law_held_long" 1 t.vt t.sX ["_law_witness", "_law_row_here", "_law_many"] (C2 K):=by
 refine⟨T.JS,T.Ba.kp,T.Mi,T.Ba.okQ Dp (λvs H Q E h=>by obtain⟨v,b,r,m,rfl,_⟩:=h;rfl) λ_ _ _ _ H vs Q E J h=>?_⟩;obtain⟨v,b,r,m,rfl,n,g,D,C,s,k⟩:=h;refine⟨_,(ao (be (aT jo (aa 0) bL (aV _)) (ak (aE (aa 1))) bi)
  (ak (aE (bG (Oj K) (cb (Oi K) (bG zG (aA (Og K) (aa 0) aq (λ_ _=>rfl)) (aa 2)) cL (bN aq)) (cb (Oi K) (aa 1) cL (bN aq)))))),?_⟩
 rcases s with rfl|⟨q,c,x,y,z,rfl,hq,hc,z0,lz⟩
 ·exact k b r H (af.refl _) n g (by omega)
 ·refine⟨_,.ref c,.inr (.of hq),aY (j:=2) Z,?_⟩;refine⟨_,hc,by omega,by omega,?_,λM I d=>?_⟩
  ·rw[On,OX];exact OJ (Rm lz C) (by decide)
  have o:(List.replicate ((m:Int).toNat) (z.map V.int)).flatten=((List.replicate m z).flatten).map V.int:=by rw[OX,List.map_flatten,List.map_replicate]
  rw[o]at d;refine⟨_,Z,_,d.lst,λF O e=>?_⟩;rw[show ce (((List.replicate m z).flatten).map V.int) none (some 120)=(((List.replicate m z).flatten).take 120).map V.int from eI _ 120]at e;refine⟨_,Z,_,.of (e.sm _ _ (d.sm _ _ n)),λR L f=>?_⟩;rw[show ce (r.map V.int) none (some 5)=(r.take 5).map V.int from eI _ 5]at f;have G:(((List.replicate m z).flatten).take 120).length<=120:=by rw[OG];omega
  have N:(r.take 5).length<=5:=by rw[OG];omega
  refine⟨_,_,.of (f.sm _ _ e.at_),f.lst,cy (by rw[On,On];omega),λB p i=>?_⟩;refine k B (((List.replicate m z).flatten).take 120++r.take 5) p (d.sm.trans (e.sm.trans (f.sm.trans i.sm))) (by rw[Ot];exact i.at_) (λx hx=>?_) (by rw[Oz];omega);rcases Os.mp hx with h|h
  ·obtain⟨l,u,a⟩:=List.mem_flatten.mp (Pj h);rw[(List.mem_replicate.mp u).2]at a;exact z0 x a
  ·exact g x (Pj h)
def mw[B:Tb](r:List Int)(k0:ai):Prop:=(cR B.D k0.1/\iU (bC B.D k0.1) k0.2)/\(run k0 (sg r)).isSome=true
def jz[B:Tb](r:List Int)(i:Nat)(p:Int):Prop:=(∃k0,mw r k0)/\∀k0,mw r k0->run k0 (sg (r.take i))=some (p,[])
def wE[B:Tb](H:Hp)(r:List Int)(v:V):Prop:=(v=.non/\∀i p,i<=r.length->¬jz r i p)\/∃(a:Addr) (i:Nat) (p:Int),v=.ref a/\H a=some (.tup [.int (i:Int),.int p])/\i<=r.length/\jz r i p/\∀i' p',i'<i->¬jz r i' p'
noncomputable def rC[B:Tb](k0:ai)(r:List Int):List ai:=(List.range (r.length+1)).map λj=>(run k0 (sg (r.take j))).getD (0,[])
def dz.all[B:Tb]{H:Hp}{o p:Addr}{k0:ai}{r:List Int}(h:dz H o p k0 r r.length):∃ss:List bP,dA H p ss/\(ss.map λs=>s.2.2)=rC k0 r/\∀j,j<=r.length->∃s,ss[j]? = some s/\run k0 (sg (r.take j))=some s.2.2:=by
 obtain⟨ss,d,e,a,_⟩:=h;refine⟨ss,d,Rq λj=>?_,a⟩;unfold rC;rw[Ov,Ov];by_cases hj:j<=r.length
 ·obtain⟨s,c,b⟩:=a j hj;rw[c,QQ (by omega)];show some s.2.2=some ((run k0 (sg (r.take j))).getD (0,[]));rw[b]
  rfl
 ·rw[PV (by omega),PV (by rw[O0];omega)]
  rfl
noncomputable def dW[B:Tb](r:List Int)(k0:ai):PyData:=.list ((rC k0 r).map dS)
def Lf[B:Tb](r:List Int)(k0:ai):(dW r k0).canLay0=true/\(dW r k0).depth<=4:=o7 (n:=3) me _
def Lg[B:Tb]{H:Hp}{o p:Addr}{k0:ai}{r:List Int}(h:dz H o p k0 r r.length):aU K H (dW r k0) (.ref p):=by
 obtain⟨ss,sh,e,_⟩:=h.all;unfold dW;rw[<- e,Pw];exact aU.lst (.of sh.1) (ni (f:=λs:bP=>dS s.2.2) (v:=λs=>V.ref s.1) λs a=>ny (sh.2 s a))
def BB[B:Tb]{H:Hp}{p e:Addr}{r:List Int}{a:List (Addr × ai)}{Q:VK}(h:H p=some (.lst (a.map λw=>V.ref w.1)))(hw:∀w∈a,dz H p w.1 w.2 r r.length)(b:H e=some (.lst []))(q:Q (.bl (decide (a=[]))) H):gA K false (.ref p) (.ref e) H Q:=by
 refine⟨.list (a.map λw=>dW r w.2),.list [],aU.lst (.of h) (ni λw c=>Lg (hw w c)),aU.lst (.of b) .nil,n5 (o7 (n:=4) (λw:Addr × ai=>Lf r w.2) a) (by decide),by decide,?_⟩;have e:(PyData.list (a.map λw=>dW r w.2)).eqv (.list [])=decide (a=[]):=by cases a<;>rfl
 rw[e];exact q
def BC{a:List (Addr × ai)}{j:Nat}{x:V}(h:(a.map λw=>V.ref w.1)[j]? = some x):∃q∈a,a[j]? = some q/\x=.ref q.1:=by
 rw[Ov]at h;obtain⟨q,b,e⟩:=OS.mp h;exact⟨q,OA b,b,e.symm⟩
def C6(K:PySem.W.Frag):Sp:=λvs H Q _=>∃(B:Tb) (a b:Addr) (r:List Int),vs=[.ref a,.ref b]/\dB H a B.D/\aJ K H b (r.map V.int)/\r.length<=2000/\∀v H',af H H'->wE H' r v->Q v H'
def IJ (T:Txt K mg t):bo P w K mg base "_law_due" 3 t.vw t.sY ["_law_pages_here", "_law_row_here"] (C6 K):=by
 refine⟨T.JT,T.Bb.kp,T.Mj,T.Bb.okQ oh (λvs H Q E h=>by obtain⟨B,a,b,r,rfl,_⟩:=h;rfl) λ_ _ _ _ H vs Q E hr h=>?_⟩;obtain⟨B,a,b,r,rfl,pg,hb,lr,k⟩:=h;have hu:=hr.units;refine⟨_,(ao (aF (i:=2) oh.nd Z (.inl Z) (bb (Iz T) hr (ab (aa 0) (ab (aa 1) ag))))
  (ao (be (aT (cK (K:=K) rfl hu) (aa 2) (bh ag) (aV _)) (ak (aE bL)) bi)
  (ao (bz PassesOwn.never rfl (gU rfl T.n_range (ab (bG (Oj K) (bq (Of K) T.n_len OM (ab (aa 1) ag)) aq) ag)) (aG (i:=3) oh.nd rfl (.inr rfl)) (ao (aF (i:=4) oh.nd rfl (.inr rfl) (aA (Og K) (aA (Og K) (aa 2) aq (λ_ _=>rfl)) (aa 3) (λ_ _=>rfl)))
  (ak (be (dQ (gj (aT (cK (K:=K) rfl hu) (aA (Og K) (aa 4) aq (λ_ _=>rfl)) (bh ag) (aV _)) (gh (fL (bq (qh (K:=K) rfl rfl) T.n_all QH (ab (fA rfl (cq.of (fns:=(aj i6).names) (N:=["_law_pages_here", "_law_row_here", "_law_walks_here", "_law_many", "_law_here"]) (Nc:=["_law_walk", "_law_here", "_law_many"]) (nv:=1) (caps:=[4,3]) rfl rfl (by decide +kernel)) (cV (K:=K) rfl (aa 2)) (λ_ _ _ _=>(aG (i:=0) (show List.Nodup (["_law_walk", "_law_here", "_law_many"]:List Str) by decide +kernel) rfl (Or.inl rfl) (Or.inr rfl))) (λ_ _ _ _=>fu) (λ_ _ _ _=>(gX (cK (K:=K) rfl hu) (aA (Og K) (aa 0) (aa 2) (λ_ _=>rfl)) (aa 1) (aV _)))) ag)))))) (ak (aE (bE (ab (aa 3) (ab (aA (Og K) (aa 4) aq (λ_ _=>rfl)) ag))))) bi))))
  (ak (aE bL))))),?_⟩
 refine⟨B,a,b,r,Z,pg,hb,lr,λp m H1 s1 hp wk mem lw=>?_⟩;refine⟨sz Z,λe H2 g2=>?_⟩;have p2:=g2.sm _ _ hp;have R:∀w∈m,dz H2 p w.1 w.2 r r.length:=λw hw=>(wk w hw).mono g2.sm;have W:=s1.trans g2.sm;refine BB p2 R g2.at_ ?_;have mem:∀k0:ai,k0∈m.map (λw=>w.2) ↔ mw r k0:=mem;refine aH (λe=>?_) (λe=>?_)
 ·have e:m=[]:=Se e;refine k _ _ W (.inl ⟨rfl,λi p _ u=>?_⟩);obtain⟨⟨k0,l⟩,_⟩:=u;have:=(mem k0).mpr l;rw[e]at this;exact nomatch this
 ·have e:¬m=[]:=λz=>e (Sf z);obtain⟨o,J⟩:∃o,m[0]? = some o:=⟨_,OF (PY.mpr e)⟩;have I:=OA J;have F:mw r o.2:=(mem o.2).mp (Oq.mpr ⟨o,I,rfl⟩);refine⟨_,.inl (W.seq hb),?_⟩;rw[On];refine⟨((r.length:Int)+1),rfl,by omega,by omega,?_⟩;rw[show ((r.length:Int)+1).toNat=r.length+1 by omega];refine jr (lo:=0) (n:=r.length+1) (λi σ H'=>af H2 H'/\(∀g f,g<i->¬jz r g f)/\∃v3 v4,σ=[some (.ref a),some (.ref b),some (.ref p),v3,v4]) ⟨af.refl _,(λg f h=>Sd h (Py _)),_,_,Z⟩ ?_ ?_
  ·rintro i σ H3 hi ⟨C,no,v3,v4,rfl⟩;have p3:=C _ _ p2;have M:∀w∈m,dz H3 p w.1 w.2 r r.length:=λw hw=>(R w hw).mono C;obtain⟨ss,sh,_,al⟩:=(M o I).all;obtain⟨s,hs,rs⟩:=al i (by omega);have st:=sh.2 s (OA hs);have go:(∀f,¬jz r i f)->∀g f,g<i+1->¬jz r g f:=λh g f ax=>by
    by_cases c:g<i
    ·exact no g f c
    ·obtain rfl:g=i:=by omega
     exact h f
   refine⟨_,.ref o.1,.inl (.of p3),aY (j:=0) (by rw[Ov,J];rfl),?_⟩;refine⟨_,.ref s.1,.inl (.of sh.1),by rw[Pe];exact aY (by rw[Ov,hs];rfl),?_⟩;refine⟨_,.ref s.2.1,.inr (.of st.1),aY (j:=1) Z,?_⟩;refine⟨sz Z,λp5 H5 Y=>?_⟩;refine ma (ms:=[]) (.of (Y.sm _ _ st.2)) Y.lst ?_;refine aH (λv=>?_) (λv=>?_)
   ·have v:s.2.2.2=[]:=Se v;have d:=Y.sm;have S:=d _ _ p3;refine⟨p,rfl,⟨_,.of S⟩,pX ((m.map λw=>decide (run w.2 (sg (r.take i))=some s.2.2)).map V.bl) (by simp) (.of S) (cy (by rw[On];omega)) (λj x y H6 N hx hy s6 hN=>?_) λp6 H6 g6=>?_⟩
    ·obtain⟨q,hq,a6,rfl⟩:=BC hx;rw[Ov,Ov,a6]at hy;cases hy;obtain⟨us,uh,_,au⟩:=((M q hq).mono (d.trans s6)).all;obtain⟨u,O,ru⟩:=au i (by omega);have ut:=uh.2 u (OA O);refine⟨_,.ref u.1,.inl (.of uh.1),by rw[Pe];exact aY (by rw[Ov,O];rfl),?_⟩;refine gv (by rfl) (KR ut (st.mono (d.trans s6)) ?_);have h2:=hN H6 (af.refl _);have e2:decide (run q.2 (sg (r.take i))=some s.2.2)=decide (u.2.2=s.2.2):=by rw[ru];simp
     dsimp only at h2;rw[e2]at h2;exact h2
    ·refine⟨_,g6.lst,?_⟩;refine aH (λD=>?_) (λD=>?_)
     ·have D:(m.map λw=>decide (run w.2 (sg (r.take i))=some s.2.2)).all id=true:=D;have L:=d.trans g6.sm;refine⟨_,.int s.2.2.1,.inr (.of (L _ _ st.1)),aY (j:=0) Z,?_⟩;refine⟨sz Z,λp7 H7 g7=>?_⟩;refine k _ _ (W.trans (C.trans (L.trans g7.sm))) (.inr ⟨p7,i,s.2.2.1,rfl,by rw[<- Pe (i:Int)];exact g7.at_,by omega,⟨⟨_,F⟩,λk0 l=>?_⟩,no⟩);obtain⟨U,G,rfl⟩:=Oq.mp ((mem k0).mpr l);have:=P6.mp D _ (Oq.mpr ⟨U,G,rfl⟩);have:=Se this;rw[this];exact congrArg some (Prod.ext Z v)
     ·have D:¬(m.map λw=>decide (run w.2 (sg (r.take i))=some s.2.2)).all id=true:=D;refine⟨C.trans (d.trans g6.sm),go λf u=>D ?_,_,_,Z⟩;refine P6.mpr λc hc=>?_;obtain⟨U,G,rfl⟩:=Oq.mp hc;have l:=u.2 o.2 F;rw[rs]at l;have h1:=u.2 U.2 ((mem U.2).mp (Oq.mpr ⟨U,G,rfl⟩));exact Sf (by rw[h1,l])
   ·have v:¬s.2.2.2=[]:=λz=>v (Sf z);dsimp only;rw[Sb OL];refine⟨C.trans Y.sm,go λf u=>v ?_,_,_,Z⟩;have l:=u.2 o.2 F;rw[rs]at l;rw[OI l]
  ·rintro σ H3 ⟨C,no,v3,v4,rfl⟩;exact k _ _ (W.trans C) (.inl ⟨rfl,λi p hi=>no i p (by omega)⟩)
def Di(r:List Int)(i:Nat):(sg r).take i=sg (r.take i):=by unfold sg;rw[List.map_take]
def AI[B:Tb]{a:List ai}(b:S0 a)(r:List Int)(k0:ai):Al a (sg r) k0 ↔ mw r k0:=⟨λh=>⟨(b.mem k0).mp h.1,h.2⟩,λh=>⟨(b.mem k0).mpr h.1,h.2⟩⟩
def nR[B:Tb]{l:List ai}(j:S0 l){r:List Int}{i:Nat}{p:Int}(m:i<=r.length):nC l (sg r) i p ↔ jz r i p:=by
 have g:i<=(sg r).length:=by unfold sg;rw[On];exact m
 have h:∀k,iO l (sg r) i k ↔ ∃k0,mw r k0/\run k0 (sg (r.take i))=some k:=λk=>by
  rw[HG j g k,Di];exact⟨λ⟨k0,a,b⟩=>⟨k0,(AI j r k0).mp a,b⟩,λ⟨k0,a,b⟩=>⟨k0,(AI j r k0).mpr a,b⟩⟩
 constructor
 ·intro u;obtain⟨k0,d,_⟩:=(h _).mp ((u (p,[])).mpr rfl);refine⟨⟨k0,d⟩,λk1 f=>?_⟩;have e:sg r=sg (r.take i)++sg (r.drop i):=by unfold sg;rw[<- Ot,P0]
  have z:=f.2;rw[e,lh]at z;cases c:run k1 (sg (r.take i)) with
  | none=>rw[c]at z;cases z
  | some k=>rw[(u k).mp ((h k).mpr ⟨k1,f,c⟩)]
 ·rintro⟨⟨k0,d⟩,u⟩ k;rw[h]
  constructor
  ·rintro⟨k1,f,e⟩;rw[u k1 f]at e;exact (OI e).symm
  ·rintro rfl;exact⟨k0,d,u k0 d⟩
def DL[B:Tb]{g:List ai}{r:List Int}{H H':Hp}{v c:V}(b:S0 g)(l:fS H g (gQ r) r.length (r.length+1) v)(d:wE H' r c):(v=.non/\c=.non)\/∃(q a:Addr) (i p:Int),v=.ref q/\c=.ref a/\H q=some (.tup [.int i,.int p])/\H' a=some (.tup [.int i,.int p]):=by
 rw[wL]at l;rcases l with ⟨rfl,no⟩|⟨q,i,p,rfl,hq1,_,hi,un,mi⟩
 ·rcases d with ⟨rfl,_⟩|⟨a,i',p',rfl,_,hi',un',_⟩
  ·exact .inl ⟨rfl,rfl⟩
  ·exact Sd ((nR b hi').mpr un') (no i' p' (by omega) hi')
 ·have un:=(nR b hi).mp un;rcases d with ⟨rfl,no⟩|⟨a,i',p',rfl,hq2,hi',un',mi'⟩
  ·exact Sd un (no i p hi)
  ·have k:i=i':=by
    rcases Rg i i' with h|h|h
    ·exact Sd un (mi' i p h)
    ·exact h
    ·exact Sd ((nR b hi').mpr un') (mi i' p' (by omega) h)
   subst k;obtain⟨⟨k0,f⟩,u⟩:=un;have e:=(u k0 f).symm.trans (un'.2 k0 f);have ep:p=p':=congrArg Prod.fst (OI e);subst ep;have j:(i:Int)*(SZ:Int)=(i:Int):=by unfold SZ;omega
   rw[j]at hq1;exact .inr ⟨q,a,i,p,Z,Z,hq1,hq2⟩
def CQ(K:PySem.W.Frag)(t:Adr):Sp:=λvs H Q _=>∃(B:Tb) (o a b:Addr) (r:List Int),vs=[.ref o,.ref a,.ref b]/\TO t H o/\dB H a B.D/\H b=some (.lst (r.map V.int))/\(∀x∈r,0<=x)/\r.length<=2000/\∀H',af H H'->Q (.bl true) H'
def ID (T:Txt K mg t):bo P w K mg base "_law_right" 10 t.vh t.sQ ["_law_tongue", "_law_pages_here", "_law_row_here"] (CQ K t):=by
 refine⟨T.JM,T.A4.kp,T.Mc,T.A4.okQ qV (λvs H Q E h=>by obtain⟨B,o,a,b,r,rfl,_⟩:=h;rfl) λ_ _ _ _ H vs Q E y h=>?_⟩;obtain⟨B,o,a,b,r,rfl,to,pg,hb,r0,D,k⟩:=h;have W:=y.units;refine⟨_,(ao (aF (i:=3) qV.nd Z (.inl Z) (cO (Oh K) T.n_list O8 (ab (aa 2) ag)))
  (ao (aF (i:=4) qV.nd rfl (.inl rfl) (bb (zy T) y (ab (aa 0) (ab (aa 2) ag))))
  (ao (be (aT (jn (K:=K) rfl W) (aa 2) (aa 3) (aV _)) (ak (aE jf)) bi)
  (ao (be (dQ (gj (aT iE (aa 4) bL (aV _)) (gh (dQ (mK (fz (fL (bq (mf (K:=K) rfl) T.n_isinstance Qc (ab (aa 4) (ab (lD rfl T.n_tuple Pu) ag))))) (mJ (fz (fL (bq (qh (K:=K) rfl rfl) T.n_all QH (ab (fA rfl (cq.of (fns:=(aj i4).names) (N:=["_law_tongue", "_law_pages_here", "_law_row_here", "_law_kept", "_law_found"]) (Nc:=["_law_one"]) (nv:=1) (caps:=[]) rfl rfl (by decide +kernel)) (El (K:=K) rfl (aa 4)) (λ_ _ _ _=>(aG (i:=0) (show List.Nodup (["_law_one"]:List Str) by decide +kernel) rfl (Or.inl rfl) (Or.inr rfl))) (λ_ _ _ _=>fu) (λ_ _ _ _=>(bb (IE T) y (ab (aa 0) ag)))) ag)))))))))) (ak (aE jf)) bi)
  (ak (aE (gX (cK (K:=K) rfl W) (aa 4) (bb (IJ T) y (ab (aa 1) (ab (aa 2) ag))) (aV _)))))))),?_⟩
 refine⟨_,.inl (.of hb),λY H1 u=>?_⟩;have S:=u.sm _ _ hb;refine⟨B,o,b,r,r.length,rfl,TO.same u.sm to,.of S,by unfold SZ;omega,r0,D,λsq v C hq I ls=>?_⟩;have L:=I _ _ S;have f:=u.sm.trans I;refine⟨_,_,aU.lst (.of L) (dt.ints r),aU.lst (.of (I _ _ u.at_)) (dt.ints r),QJ r,QJ r,?_⟩;refine aH (λz=>Sd (show (!PyData.eqv (.list (r.map PyData.int)) (.list (r.map PyData.int)))=true from z) (by rw[ud];simp)) (λ_=>?_);have l:∀J,af C J->∀c H',af J H'->wE H' r c->gA K false v c H' Q:=λJ U c H' g d=>by
  have m:=f.trans (U.trans g);rcases DL hq ls d with ⟨rfl,rfl⟩|⟨q,q',i,p,rfl,rfl,h1,h2⟩
  ·exact⟨.none,.none,aU.non,aU.non,by decide,by decide,k _ m⟩
  ·have O:=(U.trans g) _ _ h1;refine⟨.tuple [.int i,.int p],.tuple [.int i,.int p],aU.tup (.of O) (.cons (aU.int _) (.cons (aU.int _) .nil)),aU.tup (.of h2) (.cons (aU.int _) (.cons (aU.int _) .nil)),Z,Z,?_⟩;have e:(PyData.tuple [.int i,.int p]).eqv (.tuple [.int i,.int p])=true:=by simp[PyData.eqv,PyData.eqvAll]
   rw[e];exact k _ m
 rcases id ls with ⟨rfl,_⟩|⟨q,i,p,rfl,hq1,_⟩
 ·unfold jM;dsimp only;refine fY (λj H'=>H'=C/\j=[some (.ref o),some (.ref a),some (.ref b),some (.ref Y),some .non]) (λnx F=>F _ _ ⟨rfl,rfl⟩) ?_;rintro j M ⟨rfl,rfl⟩;exact⟨B,a,b,r,Z,pg.mono f,.of L,D,λc H' g d=>l _ (af.refl _) c H' g d⟩
 ·unfold jM;dsimp only;refine fY (λj H'=>af C H'/\j=[some (.ref o),some (.ref a),some (.ref b),some (.ref Y),some (.ref q)]) (λnx F=>?_) ?_
  ·refine⟨_,_,.tup hq1,by with_unfolding_all rfl,?_⟩;refine⟨q,Z,⟨_,.of hq1⟩,?_⟩;refine Lr (K:=K) (xs:=[.int ((i:Int)*(SZ:Int)),.int p]) (cs:=[]) (λi s H'=>H'=C/\s=(List.replicate i true).map V.bl) ⟨rfl,rfl⟩ (λi s H' _ z=>⟨by rw[z.1];exact .of hq1,by rw[z.2];simp⟩) (sz rfl) (λi x s H' N hx z hN=>?_) λs H' p2 M z R=>?_
   ·obtain⟨rfl,rfl⟩:=z;simp only [ft,if_true];obtain⟨n,rfl⟩:∃n,x=.int n:=by
     match i,hx with
     | 0,hx=>cases hx;exact⟨_,Z⟩
     | 1,hx=>cases hx;exact⟨_,Z⟩
     | n+2,hx=>cases hx
    refine⟨n,rfl,hN _ _ ⟨rfl,?_⟩⟩;rw[List.replicate_succ',Ot]
    rfl
   ·obtain⟨rfl,rfl⟩:=z;refine⟨List.replicate 2 true,R.lst,?_⟩;exact F _ _ ⟨R.sm,Z⟩
  rintro j M ⟨G,rfl⟩;exact⟨B,a,b,r,Z,pg.mono (f.trans G),.of (G _ _ L),D,λc H' g d=>l M G c H' g d⟩
def FD{H H':Hp}{a:Addr}{D:Kt}(h:dB H a D)(s:mj H H'):dB H' a D:=by
 obtain⟨ds,e,l,r⟩:=h;refine⟨ds,s _ _ e (by intro ps z;cases z),l,λj d hd=>?_⟩;obtain⟨g,⟨i,b⟩,f⟩:=r j d hd;exact⟨g,⟨s _ _ i (by intro ps z;cases z),λq c=>⟨s _ _ (b q c).1 (by intro ps z;cases z),s _ _ (b q c).2 (by intro ps z;cases z)⟩⟩,f⟩
theorem rA{rows:List (List Int)}(h:∀r∈rows,∀b∈r,0<=b):∀(r:List Int) (k g:ad),cr (λk=>c7 rows (bf rows) k.1 k.2) k r=some g->∀x∈r,0<=x
 | [],_,_,_,x,hx=>nomatch hx
 | y::r,k,g,e,x,hx=>by
  have e:(c7 rows (bf rows) k.1 k.2 y).bind (λg=>cr (λk=>c7 rows (bf rows) k.1 k.2) g r)=some g:=e;cases c:c7 rows (bf rows) k.1 k.2 y with
  | none=>rw[c]at e;cases e
  | some k' =>
   rw[c]at e;rcases OT.mp hx with rfl|hx
   ·unfold c7 at c
    split at c
    ·rename_i z;obtain⟨_,d,a,pre⟩:=oU.mp z.1;exact h d a x (pre.subset (ON _ (Op.mpr Z)))
    ·cases c
   ·exact rA h r k' g e x hx
def B0:Tb:=⟨.br,λg _=>⟨(λx h=>nomatch h),.nil,Ox _⟩⟩
def bare{H:Hp}{a:List ai}{r:List Int}{v:V}(c:@S0 B0 a)(l:@fS B0 H a (gQ r) r.length (r.length+1) v):v=.non:=by
 rcases l with ⟨rfl,_⟩|⟨q,i,p,rfl,_,_,hi,un,_⟩
 ·rfl
 ·rw[wL]at un;obtain⟨⟨k0,b⟩,_⟩:=(@nR B0 a c r i p hi).mp un;obtain⟨x,hx,_⟩:=b.1.2;cases (show x∈([]:List Rw) from hx)
def B9{es:List (Int × List Int)}{f:Ft}{H:Hp}{x:Addr}(h:TN t H x (.tb f es))(g:Int)(_:g=0\/g=1):iK (bC (.tb f es) g):=xJ (g:=0) h rfl
def qT(K:PySem.W.Frag):Sp:=λvs H Q _=>∃a,vs=[.ref a]/\∃ns:List Int,aJ K H a (ns.map V.int)/\ns.length<=63/\qB 386 H/\∀H',Q (.bl true) H'
def IS (T:Txt K mg t) (hBI:base.BuiltinsAt mg 386):bo P w K mg base "law" 11 t.vH t.pD ["_law_script"] (qT K):=by
 refine⟨T.zI,T.wC.kp,T.Mv,T.wC.okQ eA (λvs H Q E h=>by obtain⟨a,rfl,_⟩:=h;rfl) λ_ _ _ _ H vs Q E G h=>?_⟩;obtain⟨a,rfl,S,h1,hc,hO,k⟩:=h;have hu:=G.units;refine⟨_,(ao (aF (i:=1) eA.nd Z (.inl Z) (bb (zt T) G (ab (aa 0) (ab aq ag))))
  (ao (aF (i:=2) eA.nd rfl (.inl rfl) (bb (zt T) G (ab (aa 0) (ab aq ag))))
  (ao (aF (i:=3) eA.nd rfl (.inl rfl) (cb (Oi K) (aa 0) (bN aq) (bN aq)))
  (ao (be (aT (cK (K:=K) rfl hu) (dP (aa 1)) aq (aV _)) (ao (aF (i:=4) eA.nd rfl (.inl rfl) (bb (IH T) G (ab (aa 3) ag)))
  (ao (aF (i:=5) eA.nd rfl (.inl rfl) (bb (IF T) G (ab (aa 4) ag)))
  (ak (aF (i:=6) eA.nd rfl (.inl rfl) (x5 (Iv T) G (ab (aA (Og K) (aa 4) aq (λ_ _=>rfl)) (ab (aA (Og K) (aa 4) aq (λ_ _=>rfl)) ag))))))) (ao (aF (i:=7) eA.nd rfl (.inl rfl) (bb (IB T) G (ab (aa 3) ag)))
  (ao (aF (i:=5) eA.nd rfl (.inl rfl) (bh (ab (fA rfl (cq.of (fns:=(aj iu).names) (N:=["_law_script", "_law_cell", "_law_way", "_law_some", "_law_lists_here", "_law_pages_here", "_law_tongue", "_law_rows_here", "_law_row_here", "_law_asked"]) (Nc:=["_law_row_here"]) (nv:=1) (caps:=[]) rfl rfl (by decide +kernel)) (cV (K:=K) rfl (aa 7)) (λ_ _ _ _=>(aG (i:=0) (show List.Nodup (["_law_row_here"]:List Str) by decide +kernel) rfl (Or.inl rfl) (Or.inr rfl))) (λ_ _ _ _=>fu) (λ_ _ _ _=>(bE (ab (aa 0) (ab aq ag))))) ag)))
  (ak (aF (i:=6) eA.nd rfl (.inl rfl) (x5 (Iu T) G (ab (fA rfl (cq.of (fns:=(aj iu).names) (N:=["_law_script", "_law_cell", "_law_way", "_law_some", "_law_lists_here", "_law_pages_here", "_law_tongue", "_law_rows_here", "_law_row_here", "_law_asked"]) (Nc:=["_law_k", "_law_row_here"]) (nv:=2) (caps:=[]) rfl rfl (by decide +kernel)) (jd (K:=K) rfl rfl T.n_enumerate (ab (aa 7) ag)) (λ_ _ _ _=>(cN (K:=K) rfl (n:=2) rfl (bp (aG (i:=0) (show List.Nodup (["_law_k", "_law_row_here"]:List Str) by decide +kernel) rfl (Or.inl rfl) (Or.inr rfl)) (bp (aG (i:=1) (show List.Nodup (["_law_k", "_law_row_here"]:List Str) by decide +kernel) rfl (Or.inl rfl) (Or.inr rfl)) cM)))) (λ_ _ _ _=>fu) (λ_ _ _ _=>(bE (ab (bG hZ aq (aa 0)) (ab (aa 1) ag))))) ag)))))))
  (ao (aF (i:=8) eA.nd rfl (.inl rfl) (bb (IC T) G (ab (aa 5) (ab (cb (Oi K) (aa 0) (bN aq) (bN aq)) (ab (aa 2) ag)))))
  (ao (be (aT (cK (K:=K) rfl hu) (dP (aa 1)) aq (aV _)) (ak (aF (i:=8) eA.nd rfl (.inl rfl) (bb (II T) G (ab (aA (Og K) (bb (IP T hBI) G (ab (aa 6) ag)) aq (λ_ _=>rfl)) (ab (aa 8) (ab (dP (iz (aa 2))) ag)))))) bi)
  (ao (be (dQ (gj (aT (cK (K:=K) rfl hu) (dP (aa 1)) aq (aV _)) (gh (aT (cK (K:=K) rfl hu) (dP (iz (aa 1))) aq (aV _))))) (ak (aF (i:=8) eA.nd rfl (.inl rfl) (bG (Oj K) (bG zG (bh (ab (dP (iz (aa 2))) ag)) (dP (iz (aa 2)))) (cb (Oi K) (aa 8) cL (bN aq))))) bi)
  (ao (bz PassesOwn.never rfl (cV (K:=K) rfl (bh (ab (aa 8) (ab (cb (Oi K) (aa 8) (bN aq) cL) (ab (aa 8) ag))))) (aG (i:=9) eA.nd rfl (.inl rfl)) (ak (be (fz (fL (bb (ID T) G (ab (aa 6) (ab (aa 5) (ab (aa 9) ag)))))) (ak (aE jf)) bi)))
  (ak (aE (gX jo (bb (zy T) G (ab (EA T.G5 T.JF) (ab (aa 8) ag))) bL (aV _)))))))))))),?_⟩
 have aK:eK H 386 qS pS:=.inl hO.1;refine⟨a,S,0,rfl,h1,by omega,λH1 s1=>?_⟩;refine⟨a,S,1,rfl,s1.seq h1,by omega,λH2 s2=>?_⟩;generalize S.getD 0 0=c;generalize S.getD 1 0=y;refine⟨_,Z,_,Z,_,(s1.trans s2).seq h1,λpc H3 g3=>?_⟩;rw[show ce (S.map V.int) (some 2) (some 12)=((S.drop 2).take 10).map V.int by rw[gE];exact congrArg _ (pM S 2 10)]at g3;have c4:=(s1.trans s2).trans g3.sm;refine bW ?_;dsimp only;refine fY (t:=iW _ _ _) (λσ' H'=>af H3 H'/\∃(B:Tb) (x pp:Addr) (v4 v7 v8 v9:Option V),TO t H' x/\dB H' pp B.D/\(c%3=2->∃f es,B.D=.tb f es/\(bf (es.map λe=>e.2)).length<=200)/\σ'=[some (.ref a),some (.int c),some (.int y),some (.ref pc),v4,some (.ref pp),some (.ref x),v7,v8,v9]) (λnx hn=>?_) ?_
 ·show ite (decide (c%3=1)=true) _ _;refine aH (λe=>?_) (λe=>?_)
  ·have e:c%3=1:=Se e;refine⟨pc,_,rfl,g3.lst,by rw[OG];omega,λp l m ns ms H4 s4 hp hl hm fn fm=>?_⟩;have ln:=fn.2.2;have lm:=fm.2.2;refine⟨p,l,m,ns,ms,rfl,hp,hl,hm,by omega,by omega,λpp f0 H5 s5 pg=>?_⟩;have p5:=s5 _ _ hp;refine⟨_,.ref l,.inl (.of p5),aY (j:=0) Z,?_⟩;refine⟨_,.ref m,.inl (.of p5),aY (j:=1) Z,?_⟩;refine λx dx F M b1=>?_;obtain⟨J,I⟩:∃J,J=upd (upd H5 dx (.own x)) x (.ins t.bt dx []):=⟨_,rfl⟩;have sB9:af H5 J:=λb ob q=>by rw[I,am (aO q F),am (aO q M)];exact q
   have a9:J x=some (.ins t.bt dx []):=by rw[I];exact aP
   rw[<- I];clear I;have l5:=s5 _ _ hl;have m5:=s5 _ _ hm;refine⟨x,dx,l,m,ns,ms,rfl,a9,.of (sB9 _ _ l5),.of (sB9 _ _ m5),fn.okp,fm.okp,aO l5 F,aO m5 F,λfp HC kC tg _=>⟨rfl,?_⟩⟩;have b0:af H5 HC:=λb ob q=>kC _ _ (aO q F) (sB9 _ _ q);have pgC:dB HC pp (.sh fp ns ms):=pg.mono b0;have L:TN t HC x (.sh fp ns ms):=⟨tg,by omega,by omega⟩;exact hn _ _ ⟨s4.trans (s5.trans b0),⟨.sh fp ns ms,λg hg=>xJ L hg⟩,x,pp,_,_,_,_,L,pgC,λz=>by omega,rfl⟩
  ·have e:¬c%3=1:=λz=>e (Sf z);refine⟨pc,_,rfl,g3.lst,by rw[OG];omega,λp ps H4 s4 hp b8 a2 cD=>?_⟩;obtain⟨rows,er⟩:∃rows,rows=ps.map λx=>x.2:=⟨_,rfl⟩;rw[<- er]at a2;have aX:rows.length=ps.length:=by rw[er,On]
   obtain⟨es,a1⟩:∃es,es=im 90 (-1) rows:=⟨_,rfl⟩;have a8:Es es:=by rw[a1];exact Cc a2 (by omega) (.inr rfl) (by decide) (by decide)
   have c2:es.length=rows.length:=by rw[a1,nV]
   have a4:(es.map λe=>e.2)=rows:=by rw[a1];exact Cb ..
   refine⟨p,rfl,⟨_,.of hp⟩,Aq (K:=K) (a:=p) (xs:=ps.map λx=>V.ref x.1) (λj ys H'=>af H4 H'/\∃qs:List eJ,ys=qs.map (λq=>V.ref q.1)/\(∀q∈qs,ie H' q)/\(qs.map λq=>q.2.2)=(rows.take j).map (λr=>((r,0):Rw))) ⟨af.refl _,[],rfl,(λq h=>nomatch h),rfl⟩ (λj ys H' _ z=>⟨.of (z.1 _ _ hp),?_⟩) (cy (by rw[On];omega)) (λj x ys H' N hx z hN=>?_) λys H5 pq H6 z g6=>?_⟩
   ·obtain⟨_,qs,rfl,_,eq⟩:=z;have:=congrArg List.length eq;rw[On,On,OG]at this;rw[On];omega
   ·obtain⟨s',qs,rfl,tq,eq⟩:=z;obtain⟨q,C,c6,rfl⟩:=AJ hx;simp only [ft,if_true];have bM:rows[j]? = some q.2:=by rw[er,Ov,c6];rfl
    refine⟨sz Z,λp7 H7 U=>?_⟩;refine hN _ _ ⟨s'.trans U.sm,qs++[(p7,q.1,q.2,0)],by rw[Ot];rfl,λu bT=>?_,?_⟩
    ·rcases Os.mp bT with h|h
     ·exact (tq u h).mono U.sm
     ·rw[Op.mp h];exact⟨U.at_,U.sm _ _ (s' _ _ (b8 q C))⟩
    ·rw[Ot,eq,OU,bM,Ot]
     rfl
   obtain⟨s5,qs,rfl,tq,eq⟩:=z;rw[On,<- aX,OK]at eq;refine⟨sz Z,λpp H7 U=>?_⟩;have au:=s5.trans (g6.sm.trans U.sm);have p7:=au _ _ hp;refine⟨p,_,Z,.of p7,?_⟩;refine Lw (K:=K) (a:=p) (xs:=ps.map λx=>V.ref x.1) (λi ys H'=>af H7 H'/\∃ts:List Addr,ys=ts.map V.ref/\wD H' ts (es.take i)) ⟨af.refl _,[],rfl,aN.nil⟩ (λi ys H' hi z=>⟨.of (z.1 _ _ p7),?_⟩) (cy (by rw[On];omega)) (λi x ys H' HB N hx z sB hN=>?_) λys H' pr HB z gB=>?_
   ·obtain⟨_,ts,rfl,al⟩:=z;have:=al.1;rw[OG]at this;rw[On];omega
   ·obtain⟨s',ts,rfl,al⟩:=z;obtain⟨q,C,bV,rfl⟩:=AJ hx;simp only [ft,if_true];have sAB:=s'.trans sB;have bj:rows[i]? = some q.2:=by rw[er,Ov,bV];rfl
    have bF:es[i]? = some (90-(i:Int),q.2):=by rw[a1,qM bj,Int.neg_one_mul];rfl
    refine⟨sz rfl,λp5 HD gD=>hN _ _ ⟨sAB.trans gD.sm,ts++[p5],by rw[Ot];rfl,?_⟩⟩;obtain⟨r1,r6,_⟩:=a2.sg q.2 (OA bj);rw[OU,bF];exact aN.app (al.imp λc e' h=>h.mono (sB.trans gD.sm)) (aN.cons ⟨⟨q.1,gD.at_,gD.sm _ _ (sAB _ _ (au _ _ (b8 q C)))⟩,r1,r6⟩ aN.nil)
   obtain⟨s8,ts,rfl,al⟩:=z;rw[On,<- aX,<- c2,OK]at al;refine λx dx F M b1=>?_;have bK:=s8.trans gB.sm;obtain⟨J,I⟩:∃J,J=upd (upd HB dx (.own x)) x (.ins t.bA dx []):=⟨_,rfl⟩;have sB9:af HB J:=λb ob q=>by rw[I,am (aO q F),am (aO q M)];exact q
   have a9:J x=some (.ins t.bA dx []):=by rw[I];exact aP
   rw[<- I];clear I;refine⟨x,dx,pr,ts,es,rfl,a9,sB9 _ _ gB.at_,(al.imp λc e' h=>h.mono (gB.sm.trans sB9)),a8,λf HC kC ttC=>⟨rfl,?_⟩⟩;have sBC:af HB HC:=λb ob q=>kC _ _ (aO q F) (sB9 _ _ q);have W:=bK.trans sBC;have L:TN t HC x (.tb f es):=⟨ttC,a8,by omega⟩;have pgC:dB HC pp (.tb f es):=by
    refine⟨[pq],W _ _ U.at_,Z,λj d hd=>?_⟩
    match j,hd with
    | 0,hd =>
     cases hd;refine⟨qs,⟨(U.sm.trans W) _ _ g6.at_,λq C=>(tq q C).mono (g6.sm.trans (U.sm.trans W))⟩,?_⟩;rw[eq,<- a4,Pw]
     rfl
    | n+1,hd=>cases hd
   exact hn _ _ ⟨s4.trans (au.trans W),⟨.tb f es,B9 L⟩,x,pp,_,_,_,_,L,pgC,λ_=>⟨f,es,rfl,by rw[a4,Fh];have:=a2.tot;omega⟩,rfl⟩
 rintro σ' H4 ⟨s4,B,x,pp,v4,v7,v8,v9,bR,aW,tbl,rfl⟩;have aU:=c4.trans s4;have b3:=jL aK aU;refine⟨_,Z,_,Z,_,aU.seq h1,λpd H5 g5=>?_⟩;rw[show ce (S.map V.int) (some 12) (some 52)=((S.drop 12).take 40).map V.int by rw[gE];exact congrArg _ (pM S 12 40)]at g5;refine⟨pp,pd,B.D,_,y,rfl,aW.mono g5.sm,λg hg=>B.ok g (iA hg),g5.lst,by rw[OG];omega,λpr r H6 s6 ah r0 lr=>?_⟩;have an:=g5.sm.trans s6;have aL:=TO.same an bR;have aQ:=aW.mono an;have a7:=jL b3 an;refine bW ?_;dsimp only;refine fY (t:=iW _ _ _) (λσ' H'=>TO t H' x/\dB H' pp B.D/\∃(b:Addr) (r:List Int),H' b=some (.lst (r.map V.int))/\(∀x∈r,0<=x)/\r.length<=200/\σ'=[some (.ref a),some (.int c),some (.int y),some (.ref pc),v4,some (.ref pp),some (.ref x),v7,some (.ref b),v9]) (λnx hn=>?_) ?_
 ·show ite (decide (c%3=2)=true) _ _;refine aH (λe=>?_) (λe=>?_)
  ·have e:c%3=2:=Se e;obtain⟨f,es,eD,lp⟩:=tbl e;have L:TN t H6 x (.tb f es):=by rw[<- eD];exact aL
   refine⟨x,f,es,1000,Z,L.1,Oo _,L.2.1,lp,a7,λpf sw m v HD sD tabD bP b9=>?_⟩;have tD:=rc a7 sD;have bs:∀r∈(es.map λe=>e.2),∀b∈r,0<=b:=λr G b hb=>by
    obtain⟨e',he,rfl⟩:=Oq.mp G;exact ((L.2.1.sg e' he).2.2.2 b hb).1
   refine⟨_,v,.inr (.of bP),aY (j:=2) Z,?_⟩;have toD:TO t HD x:=by
    show TN t HD x B.D;rw[eD];exact⟨B8 L.1 tD,L.2⟩
   have rD:HD pr=some (.lst (r.map V.int)):=tD _ _ ah (by intro ps z;cases z);refine⟨v,pr,r,(y/2%40).toNat,?_,rD,r0,lr,by omega,?_,λp8 r8 H8 s8 h8 c5 l8=>hn _ _ ⟨TO.same s8 toD,(FD aQ tD).mono s8,p8,r8,h8,c5,l8,rfl⟩⟩
   ·have:((y/2%40).toNat:Int)=y/2%40:=by omega
    rw[this]
    rfl
   ·rcases b9 with ⟨_,_,_,rfl⟩|⟨k',r',nk',lr',⟨wt,l1,l2,l,rfl,hw,h1',h2',h3',_⟩,hh⟩
    ·exact .inl Z
    ·refine .inr ⟨wt,l,_,_,r',Z,hw,h3',?_,lr'⟩;rcases hh with ⟨_,_,_,hp'⟩|⟨_,_,⟨g,hp'⟩,_⟩
     ·exact rA bs _ _ _ hp'
     ·exact rA bs _ _ _ hp'
  ·exact hn _ _ ⟨aL,aQ,pr,r,ah,r0,by omega,rfl⟩
 rintro σ' H7 ⟨b5,b6,b7,r7,av,ap,l7,rfl⟩;clear ah r0 lr;refine fY (t:=iW _ _ _) (λσ' H'=>TO t H' x/\dB H' pp B.D/\∃(b:Addr) (r:List Int),H' b=some (.lst (r.map V.int))/\(∀x∈r,0<=x)/\r.length<=500/\σ'=[some (.ref a),some (.int c),some (.int y),some (.ref pc),v4,some (.ref pp),some (.ref x),v7,some (.ref b),v9]) (λnx hn=>?_) ?_
 ·have stay:=hn _ _ ⟨b5,b6,b7,r7,av,ap,by omega,rfl⟩;refine aH (λe=>?_) (λe=>?_)
  ·refine aH (λe2=>?_) (λe2=>?_)
   ·refine⟨sz Z,λp8 H8 g8=>?_⟩;refine⟨_,g8.at_,by omega,by omega,?_,λp9 J Y=>?_⟩
    ·show 1*(y/10%400).toNat<=sizeLine;exact OJ (show 1*(y/10%400).toNat<=400 by omega) (by decide)
    obtain⟨n,en,ln⟩:∃n,n=(y/10%400).toNat/\n<=400:=⟨_,rfl,by omega⟩;rw[<- en]at Y;have I:(List.replicate n [V.int (y/2%5)]).flatten=(List.replicate n (y/2%5)).map V.int:=by
     rw[List.map_replicate];clear Y en ln
     induction n with
     | zero=>rfl
     | succ n ih=>rw[PD,Ql,ih,PD];rfl
    rw[I]at Y;have b4:=g8.sm.trans Y.sm;refine⟨_,Z,_,.of (b4 _ _ av),λcB aZ s=>?_⟩;rw[show ce (r7.map V.int) none (some 5)=(r7.take 5).map V.int from eI _ 5]at s;have l5:(r7.take 5).length<=5:=by rw[OG];omega
    refine⟨_,_,.of (s.sm _ _ Y.at_),s.lst,cy (by rw[On,On,Qi];omega),λbI R aI=>?_⟩;have aM:=b4.trans (s.sm.trans aI.sm);refine hn _ _ ⟨TO.same aM b5,b6.mono aM,bI,List.replicate n (y/2%5)++r7.take 5,by rw[Ot];exact aI.at_,λx hx=>?_,by rw[Oz,Qi];omega,rfl⟩;rcases Os.mp hx with h|h
    ·rw[(List.mem_replicate.mp h).2];omega
    ·exact ap x (Pj h)
   ·exact stay
  ·exact stay
 rintro σ' H8 ⟨bJ,bH,b,r,hb,r0,lr,rfl⟩;clear av ap l7;refine⟨_,Z,_,.of hb,λp1 J Y=>?_⟩;rw[show ce (r.map V.int) (some 1) none=(r.drop 1).map V.int by rw[gE];exact congrArg _ (pN r 1)]at Y;refine⟨sz Z,λp2 aZ s=>?_⟩;have ae:=Y.sm.trans s.sm;refine⟨p2,Z,⟨_,s.lst⟩,eG (K:=K) (a:=p2) (xs:=[V.ref b,.ref p1,.ref b]) (λi σ H'=>af aZ H'/\∃v9,σ=[some (.ref a),some (.int c),some (.int y),some (.ref pc),v4,some (.ref pp),some (.ref x),v7,some (.ref b),v9]) ⟨af.refl _,_,Z⟩ (λi σ H' _ z=>.of (z.1 _ _ s.at_)) ?_ ?_⟩
 ·rintro i q σ R C ⟨O,bQ,rfl⟩;have se:=ae.trans O;obtain⟨q',rq,rfl,bU,bS,lq⟩:∃(q':Addr) (rq:List Int),q=.ref q'/\R q'=some (.lst (rq.map V.int))/\(∀x∈rq,0<=x)/\rq.length<=500:=by
   match i,C with
   | 0,C=>cases C;exact⟨b,r,Z,se _ _ hb,r0,lr⟩
   | 1,C=>cases C;exact⟨p1,r.drop 1,rfl,(s.sm.trans O) _ _ Y.at_,λx hx=>r0 x (Q8 hx),by rw[Qk];omega⟩
   | 2,C=>cases C;exact⟨b,r,Z,se _ _ hb,r0,lr⟩
   | n+3,C=>cases C
  refine⟨B,x,pp,q',rq,rfl,TO.same se bJ,bH.mono se,bU,bS,by omega,λc0 aJ=>?_⟩;exact⟨O.trans aJ,_,Z⟩
 ·rintro σ R ⟨O,bQ,rfl⟩;have se:=ae.trans O;refine λo dx c1 M b1=>?_;have sf:af R (upd (upd R dx (.own o)) o (.ins t.cP dx [])):=λb ob q=>by rw[am (aO q c1),am (aO q M)];exact q
  refine⟨B0,o,b,r,r.length,rfl,⟨dx,aP⟩,.of (sf _ _ (se _ _ hb)),by unfold SZ;omega,r0,by omega,λsq v c0 C aJ ls=>?_⟩;obtain rfl:=bare C ls;exact k _
end
end My
namespace My
open PySem L2
theorem HF{Pm:List Value->Prop}(h:∀_:Unit,Pm []):∀us:List Value,us.length=0->Pm us
 | [],_=>h ()
theorem bS{Pm:List Value->Prop}(h:∀a,Pm [a]):∀us:List Value,us.length=1->Pm us
 | a::us,e=>HF (Pm:=λus=>Pm (a::us)) (λ_=>h a) us (Rr e)
theorem cJ{Pm:List Value->Prop}(h:∀a b,Pm [a,b]):∀us:List Value,us.length=2->Pm us
 | a::us,e=>bS (Pm:=λus=>Pm (a::us)) (λb=>h a b) us (Rr e)
theorem cY{Pm:List Value->Prop}(h:∀a b c,Pm [a,b,c]):∀us:List Value,us.length=3->Pm us
 | a::us,e=>cJ (Pm:=λus=>Pm (a::us)) (λb c=>h a b c) us (Rr e)
def Ol{Pm:List Value->Prop}{ds:List Value}{ps:List Str}(h:∀x0 x1,Pm [x0,x1])(e:ps.length=2+ds.length:=by rfl):∀us:List Value,(us++ds).length=ps.length->Pm us:=λus b=>by
 have a:us.length=2:=(by rw[Oz,e]at b;omega);exact cJ h us a
def Om{Pm:List Value->Prop}{ds:List Value}{ps:List Str}(h:∀x0 x1 x2,Pm [x0,x1,x2])(e:ps.length=3+ds.length:=by rfl):∀us:List Value,(us++ds).length=ps.length->Pm us:=λus b=>by
 have a:us.length=3:=(by rw[Oz,e]at b;omega);exact cY h us a
def txt_mk{K:W.Frag}{h:Heap}{mg:Str->Option Value}(X:K.In h)(G:h.Ns mainGlobals mg)
 {a0 a1 a2 a3 a4 a5 a6 a7 a8 a9 Cc wc uc ma ca Ra Wb ta Pa na ib vb pc wb aa nb Aa rb Ob Oa mb Qa ab Fc Hc Ec xc vc zc Kc mc Nc Ic Gc lc Ia ba Ca Tb ec yb kb Ea fb qc rc nc Bc Jc yc Dc Ac tc sc oc Lc Mc oa:Addr}{go On Jl Mm xm Sn Zn fn mm Bn Fn Wm Km km Ll fm Zm Jn Vl Kn vk We Rj cj ef we Ag de Jg hf va Ah Vd ua dj Gj Jb ik ei Ge vf Wc vd ci wk Cg Td df Rg Hf Dg Zb bi pf Ta Zi Ph xj Kj ni Ke te Uj lh nk Sg lg Ue Fd Ih Vg Kd Ld cf Yf Xe Fe oj wh ug Xi ai Ch dg Df ti Ik rh Oe eb Nh Od Xa Jf Xh Qg Be Ie Fg Ri bf Bk li Xg Nf Je ak nh rk Zd Yj Gd Le ui Ug Ej Ji dd tg td gj:Option Addr}{Lm Yn jn Pn Hm bm rn fo Gn en Pe ee fi mi oh ob ie fc kf Xb Pc Re Nd tk hk ld pk cb zf ya Fh wj si Kh qg Wf Yd hd Rd yd Ti Gh sd xf Lj If bk Sa Qh zb Mh ud pd Oi Eh Qc Cj uf Ee Gf gh Rf Rc je Oh:Array (Option Value)}{Ql Xm um Hn tl nn Kl Yl im jm ml un Ln an lm Il Lk tn Fm Hl em yn Pk qm hn Em Am mn yl cn Ym Rn wm cm Ok ao Bm am sn eo Sk Wl co Cm pm ho Gl ym Ul dn Mn om Dl bo hm qn ln rm ol gn Kg ve me zj kc yf af ed Jh xe Gb ih oi vg rf hi Ub ze ji mf yg Bd bb hj Sh rd ii Tc Sb bg Za ki Hh Fi di Mb zi cc Ki fh Af jj ub dh Ab Uf rj Zh he Ja ej Uc Ve xh mh pa og ue gk xg lj Va sg Zj Qi Wd cg Ya dk kk Bh re Of Vb wi Ye gg Vf ch dc hh jh nf Id qk Eb Di sa fg Dk eg Ig Ba Bi Db Qf Fk se Qj pb oe pj Nj Eg lk tb Ij Wj Pg yj Tj Rb wd Mi ph vh Yh Cb Kf He ck bj ye Kb Zc od hg Dd wf Pb Lg Ed Si Gg Vi Ma Sd fd Vj yk jg Nb ij Fj mj Oj rg xa Tf ng be vi Wh Ud zd sh Pj bh Hb cd qh gi Dj Vc qb eh Ck Li vj Mf Ka Ek Ui ri Dh Ci lb Wg Sc Se ce qi bc Lh xi uk sk Yg Ib Pd Zg sf Hg jk qa Hi sb Bf md Bj bd gc Ai Bb Md Ad De Yi Lb Ff ok kg Hd ff Ua Mg Ze fe Lf uh Yb Qd Ae Ei Sj fk hb Xf Pf Qe Me jf Qb Ef xk Rh zg gd za Uh Ng Cd zh Zf hc Sf Cf Ni Ii Oc La fj Xd Bg jd Hj db Og nd ah Gk tj Na pg Th Ce ag nj Ga yh Xc Vh uj pe Wa Wi zk ek Hk Ak gb yi Mj ig ad Aj Fb Xj:Value}{wa Ha ic ra Da Fa xb wg:Nat}{ia da fa ka ha ea ga u0 u1 u2 u3 u4 u5 u6 u7 u8 u9:Tok}{la:Array Value}
 (SJ:W.nsIn K mainGlobals "spot_behind"=some (some (.ref a0)))
 (fK:K.lookup a0=some ⟨Ql,go,.func (W.fnOf "spot_behind" "spot_behind" (aK j9) (aI j9) (aj j9) .none Xm um Hn On tl nn),Lm⟩)
 (mK:W.codeIn K tl "spot_behind"=true)
 (KJ:W.keepIn K (.ref a0)=true)
 (wK:W.nsIn K mainGlobals "spots_behind"=some (some (.ref a1)))
 (gK:K.lookup a1=some ⟨Kl,Jl,.func (W.fnOf "spots_behind" "spots_behind" (aK j7) (aI j7) (aj j7) .none Yl im jm Mm ml un),Yn⟩)
 (BK:W.codeIn K ml "spots_behind"=true)
 (vK:W.keepIn K (.ref a1)=true)
 (VJ:W.nsIn K mainGlobals "layers_along"=some (some (.ref a2)))
 (iK:K.lookup a2=some ⟨Ln,xm,.func (W.fnOf "layers_along" "layers_along" (aK kj) (aI kj) (aj kj) .none an lm Il Sn Lk tn),jn⟩)
 (DK:W.codeIn K Lk "layers_along"=true)
 (XJ:W.keepIn K (.ref a2)=true)
 (LK:W.nsIn K mainGlobals "spots_ahead"=some (some (.ref a3)))
 (GJ:K.lookup a3=some ⟨Fm,Zn,.func (W.fnOf "spots_ahead" "spots_ahead" (aK j8) (aI j8) (aj j8) .none Hl em yn fn Pk qm),Pn⟩)
 (PJ:W.codeIn K Pk "spots_ahead"=true)
 (lK:W.keepIn K (.ref a3)=true)
 (zK:W.nsIn K mainGlobals "in_step"=some (some (.ref a4)))
 (YJ:K.lookup a4=some ⟨hn,mm,.func (W.fnOf "in_step" "in_step" (aK i9) (aI i9) (aj i9) .none Em Am mn Bn yl cn),Hm⟩)
 (HJ:W.codeIn K yl "in_step"=true)
 (xK:W.keepIn K (.ref a4)=true)
 (pK:W.nsIn K mainGlobals "begins"=some (some (.ref a5)))
 (dK:K.lookup a5=some ⟨Ym,Fn,.func (W.fnOf "begins" "begins" (aK kG) (aI kG) (aj kG) .none Rn wm cm Wm Ok ao),bm⟩)
 (GK:W.codeIn K Ok "begins"=true)
 (IK:W.keepIn K (.ref a5)=true)
 (RJ:W.nsIn K mainGlobals "is_number"=some (some (.ref a6)))
 (tK:K.lookup a6=some ⟨Bm,Km,.func (W.fnOf "is_number" "is_number" (aK kx) (aI kx) (aj kx) .none am sn eo km Sk Wl),rn⟩)
 (qK:W.codeIn K Sk "is_number"=true)
 (BJ:W.keepIn K (.ref a6)=true)
 (OJ:W.nsIn K mainGlobals "is_byte"=some (some (.ref a7)))
 (FJ:K.lookup a7=some ⟨co,Ll,.func (W.fnOf "is_byte" "is_byte" (aK kD) (aI kD) (aj kD) .none Cm pm ho fm Gl ym),fo⟩)
 (QJ:W.codeIn K Gl "is_byte"=true)
 (yK:W.keepIn K (.ref a7)=true)
 (ZJ:W.nsIn K mainGlobals "is_head"=some (some (.ref a8)))
 (jK:K.lookup a8=some ⟨Ul,Zm,.func (W.fnOf "is_head" "is_head" (aK kz) (aI kz) (aj kz) .none dn Mn om Jn Dl bo),Gn⟩)
 (UJ:W.codeIn K Dl "is_head"=true)
 (CJ:W.keepIn K (.ref a8)=true)
 (rK:W.nsIn K mainGlobals "is_tail"=some (some (.ref a9)))
 (oK:K.lookup a9=some ⟨hm,Vl,.func (W.fnOf "is_tail" "is_tail" (aK ko) (aI ko) (aj ko) .none qn ln rm Kn ol gn),en⟩)
 (CK:W.codeIn K ol "is_tail"=true)
 (MJ:W.keepIn K (.ref a9)=true)
 (iG:W.nsIn K mainGlobals "is_seen_byte"=some (some (.ref Cc)))
 (bD:K.lookup Cc=some ⟨Kg,vk,.func (W.fnOf "is_seen_byte" "is_seen_byte" (aK ku) (aI ku) (aj ku) .none ve me zj We kc yf),Pe⟩)
 (bF:W.codeIn K kc "is_seen_byte"=true)
 (yH:W.keepIn K (.ref Cc)=true)
 (bH:W.nsIn K mainGlobals "is_sign"=some (some (.ref wc)))
 (oE:K.lookup wc=some ⟨af,Rj,.func (W.fnOf "is_sign" "is_sign" (aK kr) (aI kr) (aj kr) .none ed Jh xe cj Gb ih),ee⟩)
 (oF:W.codeIn K Gb "is_sign"=true)
 (rD:W.keepIn K (.ref wc)=true)
 (HF:W.nsIn K mainGlobals "is_row"=some (some (.ref uc)))
 (sH:K.lookup uc=some ⟨oi,ef,.func (W.fnOf "is_row" "is_row" (aK i8) (aI i8) (aj i8) .none vg rf hi we Ub ze),fi⟩)
 (vC:W.codeIn K Ub "is_row"=true)
 (jC:W.keepIn K (.ref uc)=true)
 (uS:W.nsIn K mainGlobals "Tongue"=some (some (.ref ca)))
 (pR:W.plainGet K ca Str.empty=true)
 (qd:W.hasDictIn K ca=true)
 (pY:W.plainOver K ca=true)
 (pO:W.findIn K (.ref ca) "__setattr__"=some (some (.builtin "object.__setattr__")))
 (uJ:W.makesIn K ca=true)
 (uO:W.keepIn K (.ref ca)=true)
 (uR:W.findIn K (.ref ca) "__init__"=some (some (.builtin "object.__init__")))
 (uz:W.findIn K (.ref ca) "__class__"=some (some (.builtin "object.__class__")))
 (uv:W.specialIn K (.builtin "object.__class__") "__get__"=some (some (.builtin "getset_descriptor.__get__")))
 (uo:W.takesIn K (.builtin "object.__class__")=some true)
 (nA:W.mroIn K ca (.type "object")=some true)
 (wF:W.findIn K (.ref ca) "unit"=some (some (.ref ma)))
 (vA:W.isFn K (.ref ma)=true)
 (XC:K.lookup ma=some ⟨ji,Ag,.func (W.fnOf "unit" "Tongue.unit" (aK kL) (aI kL) (aj kL) .none mf yg Bd de bb hj),mi⟩)
 (aD:W.codeIn K bb "Tongue.unit"=true)
 (pA:W.keepIn K (.ref ma)=true)
 (XF:W.findIn K (.ref ca) "whole"=some (some (.ref Ra)))
 (nJ:W.isFn K (.ref Ra)=true)
 (pC:K.lookup Ra=some ⟨Sh,Jg,.func (W.fnOf "whole" "Tongue.whole" (aK kK) (aI kK) (aj kK) (.ref Wb) rd ii Tc hf Sb bg),oh⟩)
 (mC:W.codeIn K Sb "Tongue.whole"=true)
 (vB:W.keepIn K (.ref Ra)=true)
 (wJ:K.lookup Wb=some ⟨Za,va,.seq ([.int 0 ia]:List Value).toArray wa,ob⟩)
 (nH:W.findIn K (.ref ca) "fill"=some (some (.ref ta)))
 (VD:W.isFn K (.ref ta)=true)
 (qJ:K.lookup ta=some ⟨ki,Ah,.func (W.fnOf "fill" "Tongue.fill" (aK kO) (aI kO) (aj kO) (.ref Pa) Hh Fi di Vd Mb zi),ie⟩)
 (aC:W.codeIn K Mb "Tongue.fill"=true)
 (jB:W.keepIn K (.ref ta)=true)
 (JC:K.lookup Pa=some ⟨cc,ua,.seq ([.int 0 da]:List Value).toArray Ha,fc⟩)
 (zG:W.findIn K (.ref ca) "look"=some (some (.ref na)))
 (wA:W.isFn K (.ref na)=true)
 (iC:K.lookup na=some ⟨Ki,dj,.func (W.fnOf "look" "Tongue.look" (aK kN) (aI kN) (aj kN) (.ref ib) fh Af jj Gj ub dh),kf⟩)
 (HD:W.codeIn K ub "Tongue.look"=true)
 (rA:W.keepIn K (.ref na)=true)
 (zE:K.lookup ib=some ⟨Ab,Jb,.seq ([.int 0 fa]:List Value).toArray ic,Xb⟩)
 (vD:W.findIn K (.ref ca) "spots"=some (some (.ref vb)))
 (gG:W.isFn K (.ref vb)=true)
 (eG:K.lookup vb=some ⟨Uf,ik,.func (W.fnOf "spots" "Tongue.spots" (aK kM) (aI kM) (aj kM) .none rj Zh he ei Ja ej),Pc⟩)
 (JD:W.codeIn K Ja "Tongue.spots"=true)
 (cB:W.keepIn K (.ref vb)=true)
 (jF:W.nsIn K mainGlobals "places_in"=some (some (.ref pc)))
 (cC:K.lookup pc=some ⟨Uc,Ge,.func (W.fnOf "places_in" "places_in" (aK kh) (aI kh) (aj kh) .none Ve xh mh vf pa og),Re⟩)
 (lC:W.codeIn K pa "places_in"=true)
 (pJ:W.keepIn K (.ref pc)=true)
 (uU:W.nsIn K mainGlobals "ShiftTongue"=some (some (.ref aa)))
 (pU:W.plainGet K aa Str.empty=true)
 (qf:W.hasDictIn K aa=true)
 (p0:W.plainOver K aa=true)
 (pQ:W.findIn K (.ref aa) "__setattr__"=some (some (.builtin "object.__setattr__")))
 (uL:W.makesIn K aa=true)
 (uQ:W.keepIn K (.ref aa)=true)
 (uB:W.findIn K (.ref aa) "__class__"=some (some (.builtin "object.__class__")))
 (ux:W.specialIn K (.builtin "object.__class__") "__get__"=some (some (.builtin "getset_descriptor.__get__")))
 (uu:W.takesIn K (.builtin "object.__class__")=some true)
 (lA:W.mroIn K aa (.type "object")=some true)
 (uI:W.findIn K (.ref aa) "lists"=some none)
 (uH:W.findIn K (.ref aa) "places"=some none)
 (uG:W.findIn K (.ref aa) "shifted"=some none)
 (nD:W.findIn K (.ref aa) "__init__"=some (some (.ref wb)))
 (JG:W.isFn K (.ref wb)=true)
 (fD:K.lookup wb=some ⟨ue,Wc,.func (W.fnOf "__init__" "ShiftTongue.__init__" (aK kZ) (aI kZ) (aj kZ) .none gk xg lj vd Va sg),Nd⟩)
 (wI:W.codeIn K Va "ShiftTongue.__init__"=true)
 (wC:W.keepIn K (.ref wb)=true)
 (zF:W.findIn K (.ref aa) "row_beyond"=some (some (.ref nb)))
 (UG:W.isFn K (.ref nb)=true)
 (jG:K.lookup nb=some ⟨Zj,ci,.func (W.fnOf "row_beyond" "ShiftTongue.row_beyond" (aK kX) (aI kX) (aj kX) .none Qi Wd cg wk Ya dk),tk⟩)
 (fJ:W.codeIn K Ya "ShiftTongue.row_beyond"=true)
 (zB:W.keepIn K (.ref nb)=true)
 (lD:W.findIn K (.ref aa) "longest"=some (some (.ref Aa)))
 (cI:W.isFn K (.ref Aa)=true)
 (oH:K.lookup Aa=some ⟨kk,Cg,.func (W.fnOf "longest" "ShiftTongue.longest" (aK kY) (aI kY) (aj kY) .none Bh re Of Td Vb wi),hk⟩)
 (xF:W.codeIn K Vb "ShiftTongue.longest"=true)
 (bB:W.keepIn K (.ref Aa)=true)
 (pG:W.findIn K (.ref aa) "sign_of"=some (some (.ref rb)))
 (dJ:W.isFn K (.ref rb)=true)
 (pI:K.lookup rb=some ⟨Ye,df,.func (W.fnOf "sign_of" "ShiftTongue.sign_of" (aK kW) (aI kW) (aj kW) .none gg Vf ch Rg dc hh),ld⟩)
 (tC:W.codeIn K dc "ShiftTongue.sign_of"=true)
 (lB:W.keepIn K (.ref rb)=true)
 (rJ:W.findIn K (.ref aa) "whole"=some (some (.ref Ob)))
 (eF:W.isFn K (.ref Ob)=true)
 (dG:K.lookup Ob=some ⟨jh,Hf,.func (W.fnOf "whole" "ShiftTongue.whole" (aK kU) (aI kU) (aj kU) (.ref Oa) nf Id qk Dg Eb Di),pk⟩)
 (zH:W.codeIn K Eb "ShiftTongue.whole"=true)
 (fB:W.keepIn K (.ref Ob)=true)
 (dC:K.lookup Oa=some ⟨sa,Zb,.seq ([.int 0 ka]:List Value).toArray ra,cb⟩)
 (HH:W.findIn K (.ref aa) "fill"=some (some (.ref mb)))
 (rC:W.isFn K (.ref mb)=true)
 (yI:K.lookup mb=some ⟨fg,bi,.func (W.fnOf "fill" "ShiftTongue.fill" (aK lf) (aI lf) (aj lf) (.ref Qa) Dk eg Ig pf Ba Bi),zf⟩)
 (cD:W.codeIn K Ba "ShiftTongue.fill"=true)
 (wB:W.keepIn K (.ref mb)=true)
 (cF:K.lookup Qa=some ⟨Db,Ta,.seq ([.int 0 ha]:List Value).toArray Da,ya⟩)
 (YF:W.findIn K (.ref aa) "spots"=some (some (.ref ab)))
 (gF:W.isFn K (.ref ab)=true)
 (NB:K.lookup ab=some ⟨Qf,Zi,.func (W.fnOf "spots" "ShiftTongue.spots" (aK jc) (aI jc) (aj jc) .none Fk se Qj Ph pb oe),Fh⟩)
 (nF:W.codeIn K pb "ShiftTongue.spots"=true)
 (iB:W.keepIn K (.ref ab)=true)
 (VG:W.nsIn K mainGlobals "steps_of"=some (some (.ref Fc)))
 (mG:K.lookup Fc=some ⟨pj,xj,.func (W.fnOf "steps_of" "steps_of" (aK j6) (aI j6) (aj j6) .none Nj Eg lk Kj tb Ij),wj⟩)
 (lH:W.codeIn K tb "steps_of"=true)
 (rF:W.keepIn K (.ref Fc)=true)
 (tG:W.nsIn K mainGlobals "apart_behind"=some (some (.ref Hc)))
 (vG:K.lookup Hc=some ⟨Wj,ni,.func (W.fnOf "apart_behind" "apart_behind" (aK kI) (aI kI) (aj kI) .none Pg yj Tj Ke Rb wd),si⟩)
 (tE:W.codeIn K Rb "apart_behind"=true)
 (lF:W.keepIn K (.ref Hc)=true)
 (iI:W.nsIn K mainGlobals "apart_of"=some (some (.ref Ec)))
 (RC:K.lookup Ec=some ⟨Mi,te,.func (W.fnOf "apart_of" "apart_of" (aK kH) (aI kH) (aj kH) .none ph vh Yh Uj Cb Kf),Kh⟩)
 (JF:W.codeIn K Cb "apart_of"=true)
 (aJ:W.keepIn K (.ref Ec)=true)
 (bI:W.nsIn K mainGlobals "ahead_of"=some (some (.ref xc)))
 (xG:K.lookup xc=some ⟨He,lh,.func (W.fnOf "ahead_of" "ahead_of" (aK kJ) (aI kJ) (aj kJ) .none ck bj ye nk Kb Zc),qg⟩)
 (mD:W.codeIn K Kb "ahead_of"=true)
 (jH:W.keepIn K (.ref xc)=true)
 (qH:W.nsIn K mainGlobals "farthest"=some (some (.ref vc)))
 (fC:K.lookup vc=some ⟨od,Sg,.func (W.fnOf "farthest" "farthest" (aK iw) (aI iw) (aj iw) .none hg Dd wf lg Pb Lg),Wf⟩)
 (wH:W.codeIn K Pb "farthest"=true)
 (nC:W.keepIn K (.ref vc)=true)
 (xH:W.nsIn K mainGlobals "row_apart"=some (some (.ref zc)))
 (ZG:K.lookup zc=some ⟨Ed,Ue,.func (W.fnOf "row_apart" "row_apart" (aK ke) (aI ke) (aj ke) .none Si Gg Vi Fd Ma Sd),Yd⟩)
 (XD:W.codeIn K Ma "row_apart"=true)
 (VH:W.keepIn K (.ref zc)=true)
 (GD:W.nsIn K mainGlobals "trip_from"=some (some (.ref Kc)))
 (RB:K.lookup Kc=some ⟨fd,Ih,.func (W.fnOf "trip_from" "trip_from" (aK i7) (aI i7) (aj i7) .none Vj yk jg Vg Nb ij),hd⟩)
 (OD:W.codeIn K Nb "trip_from"=true)
 (jJ:W.keepIn K (.ref Kc)=true)
 (rE:W.nsIn K mainGlobals "witness"=some (some (.ref mc)))
 (QC:K.lookup mc=some ⟨Fj,Kd,.func (W.fnOf "witness" "witness" (aK j5) (aI j5) (aj j5) .none mj Oj rg Ld xa Tf),Rd⟩)
 (JH:W.codeIn K xa "witness"=true)
 (MF:W.keepIn K (.ref mc)=true)
 (cH:W.nsIn K mainGlobals "slack"=some (some (.ref Nc)))
 (rB:K.lookup Nc=some ⟨ng,cf,.func (W.fnOf "slack" "slack" (aK gT) (aI gT) (aj gT) .none be vi Wh Yf (.ref 388) Ud),yd⟩)
 (aB:W.codeIn K (.ref 388) "slack"=true)
 (oA:W.codeHdIn K 388 386=true)
 (yE:W.keepIn K (.ref Nc)=true)
 (rI:W.nsIn K mainGlobals "is_entry"=some (some (.ref Ic)))
 (sJ:K.lookup Ic=some ⟨zd,Xe,.func (W.fnOf "is_entry" "is_entry" (aK kB) (aI kB) (aj kB) .none sh Pj bh Fe Hb cd),Ti⟩)
 (eE:W.codeIn K Hb "is_entry"=true)
 (CG:W.keepIn K (.ref Ic)=true)
 (mF:W.nsIn K mainGlobals "collide"=some (some (.ref Gc)))
 (xJ:K.lookup Gc=some ⟨qh,oj,.func (W.fnOf "collide" "collide" (aK kE) (aI kE) (aj kE) .none gi Dj Vc wh qb eh),Gh⟩)
 (gD:W.codeIn K qb "collide"=true)
 (YC:W.keepIn K (.ref Gc)=true)
 (vI:W.nsIn K mainGlobals "check_table"=some (some (.ref lc)))
 (KC:K.lookup lc=some ⟨Ck,ug,.func (W.fnOf "check_table" "check_table" (aK kF) (aI kF) (aj kF) .none Li vj Mf Xi Ka Ek),sd⟩)
 (gC:W.codeIn K Ka "check_table"=true)
 (jE:W.keepIn K (.ref lc)=true)
 (uT:W.nsIn K mainGlobals "TableTongue"=some (some (.ref ba)))
 (pT:W.plainGet K ba Str.empty=true)
 (qe:W.hasDictIn K ba=true)
 (pZ:W.plainOver K ba=true)
 (pP:W.findIn K (.ref ba) "__setattr__"=some (some (.builtin "object.__setattr__")))
 (uK:W.makesIn K ba=true)
 (uP:W.keepIn K (.ref ba)=true)
 (uA:W.findIn K (.ref ba) "__class__"=some (some (.builtin "object.__class__")))
 (uw:W.specialIn K (.builtin "object.__class__") "__get__"=some (some (.builtin "getset_descriptor.__get__")))
 (ur:W.takesIn K (.builtin "object.__class__")=some true)
 (jA:W.mroIn K ba (.type "object")=some true)
 (uF:W.findIn K (.ref ba) "rest_by_row"=some none)
 (uE:W.findIn K (.ref ba) "row_by_sign"=some none)
 (uD:W.findIn K (.ref ba) "sign_by_row"=some none)
 (dH:W.findIn K (.ref ba) "__init__"=some (some (.ref Ia)))
 (aF:W.isFn K (.ref Ia)=true)
 (QD:K.lookup Ia=some ⟨Ui,ai,.func (W.fnOf "__init__" "TableTongue.__init__" (aK kQ) (aI kQ) (aj kQ) .none ri Dh Ci Ch lb Wg),xf⟩)
 (GF:W.codeIn K lb "TableTongue.__init__"=true)
 (yC:W.keepIn K (.ref Ia)=true)
 (jD:W.findIn K (.ref ba) "enter"=some (some (.ref Ca)))
 (qI:W.isFn K (.ref Ca)=true)
 (fH:K.lookup Ca=some ⟨Sc,dg,.func (W.fnOf "enter" "TableTongue.enter" (aK kT) (aI kT) (aj kT) .none Se ce qi Df bc Lh),Lj⟩)
 (yG:W.codeIn K bc "TableTongue.enter"=true)
 (tB:W.keepIn K (.ref Ca)=true)
 (JB:W.findIn K (.ref ba) "rows"=some (some (.ref Tb)))
 (yF:W.isFn K (.ref Tb)=true)
 (oJ:K.lookup Tb=some ⟨xi,ti,.func (W.fnOf "rows" "TableTongue.rows" (aK jb) (aI jb) (aj jb) .none uk sk Yg Ik Ib Pd),If⟩)
 (VB:W.codeIn K Ib "TableTongue.rows"=true)
 (HB:W.keepIn K (.ref Tb)=true)
 (TG:W.findIn K (.ref ba) "whole"=some (some (.ref ec)))
 (tH:W.isFn K (.ref ec)=true)
 (mH:K.lookup ec=some ⟨Zg,rh,.func (W.fnOf "whole" "TableTongue.whole" (aK kP) (aI kP) (aj kP) (.ref yb) sf Hg jk Oe qa Hi),bk⟩)
 (dF:W.codeIn K qa "TableTongue.whole"=true)
 (gB:W.keepIn K (.ref ec)=true)
 (YB:K.lookup yb=some ⟨sb,eb,.seq ([.int 0 ea]:List Value).toArray Fa,Sa⟩)
 (fG:W.findIn K (.ref ba) "fill"=some (some (.ref kb)))
 (sI:W.isFn K (.ref kb)=true)
 (iJ:K.lookup kb=some ⟨Bf,Nh,.func (W.fnOf "fill" "TableTongue.fill" (aK kR) (aI kR) (aj kR) (.ref Ea) md Bj bd Od gc Ai),Qh⟩)
 (bJ:W.codeIn K gc "TableTongue.fill"=true)
 (zA:W.keepIn K (.ref kb)=true)
 (wD:K.lookup Ea=some ⟨Bb,Xa,.seq ([.int 0 ga]:List Value).toArray xb,zb⟩)
 (VF:W.findIn K (.ref ba) "spots"=some (some (.ref fb)))
 (dD:W.isFn K (.ref fb)=true)
 (XH:K.lookup fb=some ⟨Md,Jf,.func (W.fnOf "spots" "TableTongue.spots" (aK ja) (aI ja) (aj ja) .none Ad De Yi Xh Lb Ff),Mh⟩)
 (LC:W.codeIn K Lb "TableTongue.spots"=true)
 (dB:W.keepIn K (.ref fb)=true)
 (qC:W.nsIn K mainGlobals "_law_pick"=some (some (.ref qc)))
 (uC:K.lookup qc=some ⟨ok,Qg,.func (W.fnOf "_law_pick" "_law_pick" (aK jZ) (aI jZ) (aj jZ) .none kg Hd ff Be Ua Mg),ud⟩)
 (QH:W.codeIn K Ua "_law_pick"=true)
 (DG:W.keepIn K (.ref qc)=true)
 (TF:W.nsIn K mainGlobals "_law_plain"=some (some (.ref rc)))
 (WF:K.lookup rc=some ⟨Ze,Ie,.func (W.fnOf "_law_plain" "_law_plain" (aK jY) (aI jY) (aj jY) .none fe Lf uh Fg Yb Qd),pd⟩)
 (WD:W.codeIn K Yb "_law_plain"=true)
 (pH:W.keepIn K (.ref rc)=true)
 (aH:W.nsIn K mainGlobals "_law_rows"=some (some (.ref nc)))
 (pD:K.lookup nc=some ⟨Ae,Ri,.func (W.fnOf "_law_rows" "_law_rows" (aK ir) (aI ir) (aj ir) .none Ei Sj fk bf hb Xf),Oi⟩)
 (dI:W.codeIn K hb "_law_rows"=true)
 (lJ:W.keepIn K (.ref nc)=true)
 (ZF:W.nsIn K mainGlobals "_law_lists"=some (some (.ref Bc)))
 (YD:K.lookup Bc=some ⟨Pf,Bk,.func (W.fnOf "_law_lists" "_law_lists" (aK j3) (aI j3) (aj j3) .none Qe Me jf li Qb Ef),Eh⟩)
 (GC:W.codeIn K Qb "_law_lists"=true)
 (yD:W.keepIn K (.ref Bc)=true)
 (gJ:W.nsIn K mainGlobals "_law_pages"=some (some (.ref Jc)))
 (QG:K.lookup Jc=some ⟨xk,Xg,.func (W.fnOf "_law_pages" "_law_pages" (aK i5) (aI i5) (aj i5) .none Rh zg gd Nf za Uh),Qc⟩)
 (bG:W.codeIn K za "_law_pages"=true)
 (pF:W.keepIn K (.ref Jc)=true)
 (sE:W.nsIn K mainGlobals "_law_spots"=some (some (.ref yc)))
 (nG:K.lookup yc=some ⟨Ng,Je,.func (W.fnOf "_law_spots" "_law_spots" (aK jW) (aI jW) (aj jW) .none Cd zh Zf ak hc Sf),Cj⟩)
 (vJ:W.codeIn K hc "_law_spots"=true)
 (vH:W.keepIn K (.ref yc)=true)
 (yJ:W.nsIn K mainGlobals "_law_next"=some (some (.ref Dc)))
 (YH:K.lookup Dc=some ⟨Cf,nh,.func (W.fnOf "_law_next" "_law_next" (aK j1) (aI j1) (aj j1) .none Ni Ii Oc rk La fj),uf⟩)
 (sG:W.codeIn K La "_law_next"=true)
 (QF:W.keepIn K (.ref Dc)=true)
 (lE:W.nsIn K mainGlobals "_law_row"=some (some (.ref Ac)))
 (oG:K.lookup Ac=some ⟨Xd,Zd,.func (W.fnOf "_law_row" "_law_row" (aK jX) (aI jX) (aj jX) .none Bg jd Hj Yj db Og),Ee⟩)
 (KH:W.codeIn K db "_law_row"=true)
 (qF:W.keepIn K (.ref Ac)=true)
 (RG:W.nsIn K mainGlobals "_law_held_long"=some (some (.ref tc)))
 (PB:K.lookup tc=some ⟨nd,Gd,.func (W.fnOf "_law_held_long" "_law_held_long" (aK j4) (aI j4) (aj j4) .none ah Gk tj Le Na pg),Gf⟩)
 (lG:W.codeIn K Na "_law_held_long"=true)
 (qD:W.keepIn K (.ref tc)=true)
 (mJ:W.nsIn K mainGlobals "_law_walks"=some (some (.ref sc)))
 (YG:K.lookup sc=some ⟨Th,ui,.func (W.fnOf "_law_walks" "_law_walks" (aK jV) (aI jV) (aj jV) .none Ce ag nj Ug Ga yh),gh⟩)
 (iH:W.codeIn K Ga "_law_walks"=true)
 (qG:W.keepIn K (.ref sc)=true)
 (wG:W.nsIn K mainGlobals "_law_due"=some (some (.ref oc)))
 (gH:K.lookup oc=some ⟨Xc,Ej,.func (W.fnOf "_law_due" "_law_due" (aK i6) (aI i6) (aj i6) .none Vh uj pe Ji Wa Wi),Rf⟩)
 (QB:W.codeIn K Wa "_law_due"=true)
 (rG:W.keepIn K (.ref oc)=true)
 (eH:W.nsIn K mainGlobals "_law_right"=some (some (.ref Lc)))
 (bC:K.lookup Lc=some ⟨zk,dd,.func (W.fnOf "_law_right" "_law_right" (aK i4) (aI i4) (aj i4) .none ek Hk Ak tg gb yi),Rc⟩)
 (ZD:W.codeIn K gb "_law_right"=true)
 (zJ:W.keepIn K (.ref Lc)=true)
 (ZC:W.nsIn K mainGlobals "law"=some (some (.ref Mc)))
 (rH:K.lookup Mc=some ⟨Mj,td,.func (W.fnOf "law" "law" (aK iu) (aI iu) (aj iu) .none ig ad Aj gj Fb Xj),je⟩)
 (tD:W.codeIn K Fb "law"=true)
 (KD:W.keepIn K (.ref Mc)=true)
 (aA:W.findIn K (.ref aa) "unit"=some (some (.ref ma)))
 (bA:W.findIn K (.ref aa) "look"=some (some (.ref na)))
 (cA:W.findIn K (.ref ba) "unit"=some (some (.ref ma)))
 (gA:W.findIn K (.ref ba) "look"=some (some (.ref na)))
 (k0:W.nsIn K mainGlobals "FIRST_HEAD"=some (some (.int 55296 u0)))
 (k1:W.nsIn K mainGlobals "FIRST_SEEN"=some (some (.int 61184 u1)))
 (k2:W.nsIn K mainGlobals "FIRST_TAIL"=some (some (.int 56320 u2)))
 (k3:W.nsIn K mainGlobals "LAST_BYTE"=some (some (.int 255 u3)))
 (k4:W.nsIn K mainGlobals "LAST_SEEN"=some (some (.int 61439 u4)))
 (k5:W.nsIn K mainGlobals "LAST_SIGN"=some (some (.int 1114111 u5)))
 (k6:W.nsIn K mainGlobals "LAST_TAIL"=some (some (.int 57343 u6)))
 (k7:W.nsIn K mainGlobals "MOST_BYTES"=some (some (.int 6 u7)))
 (k8:W.nsIn K mainGlobals "MOST_SIGNS"=some (some (.int 250 u8)))
 (k9:W.nsIn K mainGlobals "MOST_TUPLES"=some (some (.int 64 u9)))
 (JK:W.nsIn K mainGlobals "SHIFTS"=some (some (.ref oa)))
 (pB:K.lookup oa=some ⟨.type "tuple",none,.seq la wg,Oh⟩)
 (cG:iD ([254,255]:List Int) la.toList=true)
 (aG:Nat.ble la.size 1000=true)
 (z0:W.nsIn K mainGlobals "all"=some none)
 (z1:W.nsIn K mainGlobals "bool"=some none)
 (z2:W.nsIn K mainGlobals "enumerate"=some none)
 (z3:W.nsIn K mainGlobals "int"=some none)
 (z4:W.nsIn K mainGlobals "isinstance"=some none)
 (z5:W.nsIn K mainGlobals "len"=some none)
 (z6:W.nsIn K mainGlobals "list"=some none)
 (z7:W.nsIn K mainGlobals "max"=some none)
 (z8:W.nsIn K mainGlobals "range"=some none)
 (z9:W.nsIn K mainGlobals "reversed"=some none)
 (bK:W.nsIn K mainGlobals "sum"=some none)
 (TJ:W.nsIn K mainGlobals "tuple"=some none):∃t,Txt K mg t:=by
  have F0:=aW (st:=j9) fK mK KJ;have b0:=F0.binds (ps:=["tongue", "spot", "unit"]) (λ_ _ _ _ _ _=>cY λ_ _ _=>rfl);have F1:=aW (st:=j7) gK BK vK;have b1:=F1.binds (ps:=["tongue", "spots", "unit"]) (λ_ _ _ _ _ _=>cY λ_ _ _=>rfl);have F2:=aW (st:=kj) iK DK XJ;have b2:=F2.binds (ps:=["tongue", "units"]) (λ_ _ _ _ _ _=>cJ λ_ _=>rfl);have F3:=aW (st:=j8) GJ PJ lK;have b3:=F3.binds (ps:=["layer", "spots"]) (λ_ _ _ _ _ _=>cJ λ_ _=>rfl);have F4:=aW (st:=i9) YJ HJ xK;have b4:=F4.binds (ps:=["tongue", "row"]) (λ_ _ _ _ _ _=>cJ λ_ _=>rfl);have F5:=aW (st:=kG) dK GK IK;have b5:=F5.binds (ps:=["one", "other"]) (λ_ _ _ _ _ _=>cJ λ_ _=>rfl);have F6:=aW (st:=kx) tK qK BJ;have b6:=F6.binds (ps:=["thing"]) (λ_ _ _ _ _ _=>bS λ_=>rfl);have F7:=aW (st:=kD) FJ QJ yK;have b7:=F7.binds (ps:=["thing"]) (λ_ _ _ _ _ _=>bS λ_=>rfl);have F8:=aW (st:=kz) jK UJ CJ;have b8:=F8.binds (ps:=["number"]) (λ_ _ _ _ _ _=>bS λ_=>rfl);have F9:=aW (st:=ko) oK CK MJ;have b9:=F9.binds (ps:=["number"]) (λ_ _ _ _ _ _=>bS λ_=>rfl);have wl:=aW (st:=ku) bD bF yH;have Zl:=wl.binds (ps:=["thing"]) (λ_ _ _ _ _ _=>bS λ_=>rfl);have Tk:=aW (st:=kr) oE oF rD;have Wn:=Tk.binds (ps:=["thing"]) (λ_ _ _ _ _ _=>bS λ_=>rfl);have Yk:=aW (st:=i8) sH vC jC;have Ml:=Yk.binds (ps:=["thing"]) (λ_ _ _ _ _ _=>bS λ_=>rfl);have Uk:=aW (st:=kL) XC aD pA;have Xn:=Uk.binds (ps:=["self"]) (λ_ _ _ _ _ _=>bS λ_=>rfl);have Jd:=jq (st:=kK) pC mC vB wJ;have ae:=Jd.binds (ps:=["self", "row", "page"]) (ds:=[.int 0 ia]) (λ_ _ _ _ _ _ _=>Ol λ_ _=>⟨_,rfl,rfl⟩);have tm:=Jd.binds (ps:=["self", "row", "page"]) (ds:=[]) (λ_ _ _ _ _ _ _=>Om λ_ _ _=>⟨_,rfl,rfl⟩);have Gi:=jq (st:=kO) qJ aC jB JC;have Tg:=Gi.binds (ps:=["self", "row", "page"]) (ds:=[.int 0 da]) (λ_ _ _ _ _ _ _=>Ol λ_ _=>⟨_,rfl,rfl⟩);have gm:=Gi.binds (ps:=["self", "row", "page"]) (ds:=[]) (λ_ _ _ _ _ _ _=>Om λ_ _ _=>⟨_,rfl,rfl⟩);have th:=jq (st:=kN) iC HD rA zE;have Jj:=th.binds (ps:=["self", "begun", "page"]) (ds:=[.int 0 fa]) (λ_ _ _ _ _ _ _=>Ol λ_ _=>⟨_,rfl,rfl⟩);have Nm:=th.binds (ps:=["self", "begun", "page"]) (ds:=[]) (λ_ _ _ _ _ _ _=>Om λ_ _ _=>⟨_,rfl,rfl⟩);have fl:=aW (st:=kM) eG JD cB;have Rl:=fl.binds (ps:=["self"]) (λ_ _ _ _ _ _=>bS λ_=>rfl);have kl:=aW (st:=kh) cC lC pJ;have xn:=kl.binds (ps:=["signs", "which"]) (λ_ _ _ _ _ _=>cJ λ_ _=>rfl);have hl:=aW (st:=kZ) fD wI wC;have bn:=hl.binds (ps:=["self", "first", "second"]) (λ_ _ _ _ _ _=>cY λ_ _ _=>rfl);have Zk:=aW (st:=kX) jG fJ zB;have dm:=Zk.binds (ps:=["self", "page"]) (λ_ _ _ _ _ _=>cJ λ_ _=>rfl);have al:=aW (st:=kY) oH xF bB;have wn:=al.binds (ps:=["self", "page"]) (λ_ _ _ _ _ _=>cJ λ_ _=>rfl);have Nk:=aW (st:=kW) pI tC lB;have Im:=Nk.binds (ps:=["self", "byte", "page"]) (λ_ _ _ _ _ _=>cY λ_ _ _=>rfl);have tf:=jq (st:=kU) dG zH fB dC;have kd:=tf.binds (ps:=["self", "row", "page"]) (ds:=[.int 0 ka]) (λ_ _ _ _ _ _ _=>Ol λ_ _=>⟨_,rfl,rfl⟩);have Jm:=tf.binds (ps:=["self", "row", "page"]) (ds:=[]) (λ_ _ _ _ _ _ _=>Om λ_ _ _=>⟨_,rfl,rfl⟩);have xd:=jq (st:=lf) yI cD wB cF;have sj:=xd.binds (ps:=["self", "row", "page"]) (ds:=[.int 0 ha]) (λ_ _ _ _ _ _ _=>Ol λ_ _=>⟨_,rfl,rfl⟩);have Dn:=xd.binds (ps:=["self", "row", "page"]) (ds:=[]) (λ_ _ _ _ _ _ _=>Om λ_ _ _=>⟨_,rfl,rfl⟩);have pl:=aW (st:=jc) NB nF iB;have vn:=pl.binds (ps:=["self"]) (λ_ _ _ _ _ _=>bS λ_=>rfl);have Wk:=aW (st:=j6) mG lH rF;have pn:=Wk.binds (ps:=["tongue"]) (λ_ _ _ _ _ _=>bS λ_=>rfl);have ul:=aW (st:=kI) vG tE lF;have Tm:=ul.binds (ps:=["steps", "one", "other"]) (λ_ _ _ _ _ _=>cY λ_ _ _=>rfl);have vl:=aW (st:=kH) RC JF aJ;have Sl:=vl.binds (ps:=["steps"]) (λ_ _ _ _ _ _=>bS λ_=>rfl);have Cl:=aW (st:=kJ) xG mD jH;have kn:=Cl.binds (ps:=["apart"]) (λ_ _ _ _ _ _=>bS λ_=>rfl);have Bl:=aW (st:=iw) fC wH nC;have sm:=Bl.binds (ps:=["apart"]) (λ_ _ _ _ _ _=>bS λ_=>rfl);have nl:=aW (st:=ke) ZG XD VH;have Un:=nl.binds (ps:=["apart", "far", "pair"]) (λ_ _ _ _ _ _=>cY λ_ _ _=>rfl);have el:=aW (st:=i7) RB OD jJ;have Sm:=el.binds (ps:=["apart", "far", "pair"]) (λ_ _ _ _ _ _=>cY λ_ _ _=>rfl);have cl:=aW (st:=j5) QC JH MF;have vm:=cl.binds (ps:=["pair", "row"]) (λ_ _ _ _ _ _=>cJ λ_ _=>rfl);have Qk:=aW (st:=gT) rB aB yE;have Vm:=Qk.binds (ps:=["tongue"]) (λ_ _ _ _ _ _=>bS λ_=>rfl);have Fl:=aW (st:=kB) sJ eE CG;have Nn:=Fl.binds (ps:=["thing"]) (λ_ _ _ _ _ _=>bS λ_=>rfl);have sl:=aW (st:=kE) xJ gD YC;have Dm:=sl.binds (ps:=["one", "other"]) (λ_ _ _ _ _ _=>cJ λ_ _=>rfl);have bl:=aW (st:=kF) KC gC jE;have Xl:=bl.binds (ps:=["rows"]) (λ_ _ _ _ _ _=>bS λ_=>rfl);have El:=aW (st:=kQ) QD GF yC;have Tn:=El.binds (ps:=["self", "rows"]) (λ_ _ _ _ _ _=>cJ λ_ _=>rfl);have Al:=aW (st:=kT) fH yG tB;have Qm:=Al.binds (ps:=["self", "sign", "row"]) (λ_ _ _ _ _ _=>cY λ_ _ _=>rfl);have xl:=aW (st:=jb) oJ VB HB;have En:=xl.binds (ps:=["self"]) (λ_ _ _ _ _ _=>bS λ_=>rfl);have gf:=jq (st:=kP) mH dF gB YB;have Te:=gf.binds (ps:=["self", "row", "page"]) (ds:=[.int 0 ea]) (λ_ _ _ _ _ _ _=>Ol λ_ _=>⟨_,rfl,rfl⟩);have Nl:=gf.binds (ps:=["self", "row", "page"]) (ds:=[]) (λ_ _ _ _ _ _ _=>Om λ_ _ _=>⟨_,rfl,rfl⟩);have Yc:=jq (st:=kR) iJ bJ zA wD;have qj:=Yc.binds (ps:=["self", "row", "page"]) (ds:=[.int 0 ga]) (λ_ _ _ _ _ _ _=>Ol λ_ _=>⟨_,rfl,rfl⟩);have zn:=Yc.binds (ps:=["self", "row", "page"]) (ds:=[]) (λ_ _ _ _ _ _ _=>Om λ_ _ _=>⟨_,rfl,rfl⟩);have il:=aW (st:=ja) XH LC dB;have Pl:=il.binds (ps:=["self"]) (λ_ _ _ _ _ _=>bS λ_=>rfl);have ll:=aW (st:=jZ) uC QH DG;have nm:=ll.binds (ps:=["_law_script", "_law_k"]) (λ_ _ _ _ _ _=>cJ λ_ _=>rfl);have dl:=aW (st:=jY) WF WD pH;have io:=dl.binds (ps:=["_law_found"]) (λ_ _ _ _ _ _=>bS λ_=>rfl);have zl:=aW (st:=ir) pD dI lJ;have Cn:=zl.binds (ps:=["_law_cells"]) (λ_ _ _ _ _ _=>bS λ_=>rfl);have Kk:=aW (st:=j3) YD GC yD;have on:=Kk.binds (ps:=["_law_cells"]) (λ_ _ _ _ _ _=>bS λ_=>rfl);have Vk:=aW (st:=i5) QG bG pF;have zm:=Vk.binds (ps:=["_law_lists_here"]) (λ_ _ _ _ _ _=>bS λ_=>rfl);have ql:=aW (st:=jW) nG vJ vH;have Tl:=ql.binds (ps:=["_law_pages_here"]) (λ_ _ _ _ _ _=>bS λ_=>rfl);have Mk:=aW (st:=j1) YH sG QF;have Rm:=Mk.binds (ps:=["_law_pages_here", "_law_spot", "_law_byte"]) (λ_ _ _ _ _ _=>cY λ_ _ _=>rfl);have Jk:=aW (st:=jX) oG KH qF;have Vn:=Jk.binds (ps:=["_law_pages_here", "_law_cells", "_law_way"]) (λ_ _ _ _ _ _=>cY λ_ _ _=>rfl);have jl:=aW (st:=j4) PB lG qD;have An:=jl.binds (ps:=["_law_witness", "_law_row_here", "_law_many"]) (λ_ _ _ _ _ _=>cY λ_ _ _=>rfl);have Rk:=aW (st:=jV) YG iH qG;have Qn:=Rk.binds (ps:=["_law_pages_here", "_law_row_here"]) (λ_ _ _ _ _ _=>cJ λ_ _=>rfl);have gl:=aW (st:=i6) gH QB rG;have Um:=gl.binds (ps:=["_law_pages_here", "_law_row_here"]) (λ_ _ _ _ _ _=>cJ λ_ _=>rfl);have rl:=aW (st:=i4) bC ZD zJ;have Pm:=rl.binds (ps:=["_law_tongue", "_law_pages_here", "_law_row_here"]) (λ_ _ _ _ _ _=>cY λ_ _ _=>rfl);have Xk:=aW (st:=iu) rH tD KD;have Gm:=Xk.binds (ps:=["_law_script"]) (λ_ _ _ _ _ _=>bS λ_=>rfl)
  exact⟨⟨a0,_,a1,_,a2,_,a3,_,a4,_,a5,_,a6,_,a7,_,a8,_,a9,_,Cc,_,wc,_,uc,_,ma,_,Ra,_,ia,ta,_,da,na,_,fa,vb,_,pc,_,wb,_,nb,_,Aa,_,rb,_,Ob,_,ka,mb,_,ha,ab,_,Fc,_,Hc,_,Ec,_,xc,_,vc,_,zc,_,Kc,_,mc,_,Nc,_,Ic,_,Gc,_,lc,_,Ia,_,Ca,_,Tb,_,ec,_,ea,kb,_,ga,fb,_,qc,_,rc,_,nc,_,Bc,_,Jc,_,yc,_,Dc,_,Ac,_,tc,_,sc,_,oc,_,Lc,_,Mc,_,ca,aa,ba,u0,u1,u2,u3,u4,u5,u6,u7,u8,u9,oa⟩,⟨F0,b0,W.mg_of X G SJ,F1,b1,W.mg_of X G wK,F2,b2,W.mg_of X G VJ,F3,b3,W.mg_of X G LK,F4,b4,W.mg_of X G zK,F5,b5,W.mg_of X G pK,F6,b6,W.mg_of X G RJ,F7,b7,W.mg_of X G OJ,F8,b8,W.mg_of X G ZJ,F9,b9,W.mg_of X G rK,wl,Zl,W.mg_of X G iG,Tk,Wn,W.mg_of X G bH,Yk,Ml,W.mg_of X G HF,Uk,Xn,Jd,ae,tm,Gi,Tg,gm,th,Jj,Nm,fl,Rl,kl,xn,W.mg_of X G jF,hl,bn,Zk,dm,al,wn,Nk,Im,tf,kd,Jm,xd,sj,Dn,pl,vn,Wk,pn,W.mg_of X G VG,ul,Tm,W.mg_of X G tG,vl,Sl,W.mg_of X G iI,Cl,kn,W.mg_of X G bI,Bl,sm,W.mg_of X G qH,nl,Un,W.mg_of X G xH,el,Sm,W.mg_of X G GD,cl,vm,W.mg_of X G rE,Qk,KF (st:=gT) rB aB oA,Vm,W.mg_of X G cH,Fl,Nn,W.mg_of X G rI,sl,Dm,W.mg_of X G mF,bl,Xl,W.mg_of X G vI,El,Tn,Al,Qm,xl,En,gf,Te,Nl,Yc,qj,zn,il,Pl,ll,nm,W.mg_of X G qC,dl,io,W.mg_of X G TF,zl,Cn,W.mg_of X G aH,Kk,on,W.mg_of X G ZF,Vk,zm,W.mg_of X G gJ,ql,Tl,W.mg_of X G sE,Mk,Rm,W.mg_of X G yJ,Jk,Vn,W.mg_of X G lE,jl,An,W.mg_of X G RG,Rk,Qn,W.mg_of X G mJ,gl,Um,W.mg_of X G wG,rl,Pm,W.mg_of X G eH,Xk,Gm,W.mg_of X G ZC,W.mg_of X G uS,⟨pR,qd,pY,pO⟩,⟨uJ,uR,uO⟩,⟨wF,vA,pA⟩,⟨XF,nJ,vB⟩,⟨nH,VD,jB⟩,⟨zG,wA,rA⟩,⟨vD,gG,cB⟩,λH a dx fs e=>.ins e ⟨pR,qd,pY,pO⟩ uz uv uo nA,W.mg_of X G uU,⟨pU,qf,p0,pQ⟩,⟨uL,nD,JG,uQ⟩,⟨zF,UG,zB⟩,⟨lD,cI,bB⟩,⟨pG,dJ,lB⟩,⟨rJ,eF,fB⟩,⟨HH,rC,wB⟩,⟨YF,gF,iB⟩,⟨aA,vA,pA⟩,⟨bA,wA,rA⟩,uI,uH,uG,λH a dx fs e=>.ins e ⟨pU,qf,p0,pQ⟩ uB ux uu lA,W.mg_of X G uT,⟨pT,qe,pZ,pP⟩,⟨uK,dH,aF,uP⟩,⟨jD,qI,tB⟩,⟨JB,yF,HB⟩,⟨TG,tH,gB⟩,⟨fG,sI,zA⟩,⟨VF,dD,dB⟩,⟨cA,vA,pA⟩,⟨gA,wA,rA⟩,uF,uE,uD,λH a dx fs e=>.ins e ⟨pT,qe,pZ,pP⟩ uA uw ur jA,W.mg_of X G k0,W.mg_of X G k1,W.mg_of X G k2,W.mg_of X G k3,W.mg_of X G k4,W.mg_of X G k5,W.mg_of X G k6,W.mg_of X G k7,W.mg_of X G k8,W.mg_of X G k9,W.mg_of X G JK,B7 pB cG (RD aG),⟨_,pB,Z,Z⟩,W.mg_none_of X G z0,W.mg_none_of X G z1,W.mg_none_of X G z2,W.mg_none_of X G z3,W.mg_none_of X G z4,W.mg_none_of X G z5,W.mg_none_of X G z6,W.mg_none_of X G z7,W.mg_none_of X G z8,W.mg_none_of X G z9,W.mg_none_of X G bK,W.mg_none_of X G TJ⟩⟩
def walk {l:PySem.W.OpenLaw} {q:Program} {b:List Str} {v:(Str->Option Value)->Heap->Prop} {o:World->Heap->Prop} {d:DefRec} {K:Params->PySem.W.Frag} (y:l.most=some 63) (m:d.params.defaults=[]) (j:d.name = "law")
 (hY:∀(w:World) (h:Heap),o w h->(K w.params).In h/\h.get? 386=some (PySem.W.tabObj #[])) (hKP:∀w:World,(K w.params).lookup 386=none) (g:∀w:World,PySem.W.codeHdIn (K w.params) 388 386=true)
 (F:∀(w:World) (mg:Str->Option Value) (h:Heap),(K w.params).In h->h.Ns mainGlobals mg->∃t,Txt (K w.params) mg t) :
 PySem.W.WalkO q b v o l.row.toRowW d [] (λf vs=>PySem.call f vs):=by
 refine L2.walk_ofT (n:=63) (k:=11) (x := "_law_script") (Pt:=386) (c:=388) (CX:=λ_=>bQ) (sp:=λw=>qT (K w.params)) y (by decide) m ⟨rfl,by decide,by decide⟩ hY hKP g (λw mg M h p G i=>?_) (λ_ _ a ns C hO hS=>⟨a,rfl,ns,hS,C,hO,λ_=>rfl⟩) λ_ _ _ _ _ z=>z;obtain⟨t,T⟩:=F w mg h p G;rw[j]at i;have e:=i.symm.trans T.zI;cases e;obtain⟨N,J,kV,B,O,R,D,ct,I,r,L,g⟩:=T.wC.ex;refine⟨t.pD,λs u=>?_,λbase _ _ hB=>(IS (P:=l.prog) (w:=w) (base:=base) T hB).ok⟩;rw[r];exact .of_eq Z
end My
structure PySem.W.Fast:Prop where
 (tw10068408562605794352 tw1008136508144890965 tw10084886531891996703 tw10519495874976331488 tw1058928712679370095 tw10875896219437454644 tw11024308752913334526 tw11126028066810746392 tw11144935628324757680 tw11213094331978720717 tw11311278922803932383 tw11392685839376695005 tw11410531415879079689 tw11462682604889855836 tw12001531757982616445 tw12024858082866967591 tw12041411694301025993 tw12052661747372300651 tw12099694816336760259 tw12114089074134363707 tw12175631479756341113 tw12291568117034340626 tw12334664432164262858 tw12372512345594084370 tw12483613596544714154 tw12588513528813585313 tw12626093047493086920 tw12670314249969660829 tw12715210343793251261 tw12739780055977766806 tw12789057347006549590 tw1279375826099658321 tw12801339642012796922 tw12920592236482270399 tw12949264559040185993 tw13056368989097548501 tw13065854377574267405 tw13118458850979112808 tw13171801731121440008 tw13511978405292943777 tw13594238017339895272 tw1361782543563530873 tw13682625698369101826 tw13733751171194595171 tw13762233645511367279 tw13764831933383112599 tw13945553552537448955 tw13990047255394948530 tw14054612958903122891 tw14175192952754246914 tw14372652386482404533 tw14762656524143831565 tw14787147824703613777 tw14864706492033485415 tw15039249961862150326 tw15083152251874388201 tw15141110580875530817 tw15161536312479838560 tw15235354527431146822 tw15414671680923787778 tw15586794280859398761 tw15611706497900216859 tw15616553492616373294 tw15644059071907917523 tw15718666760502544027 tw15763565747799081944 tw15903627835005603652 tw16141964295846667141 tw16152888148667237946 tw1631452749617436347 tw16404020664490658504 tw16636528207082301650 tw16740177262558843920 tw16778624164472625328 tw16843869290431972728 tw16921329887967880859 tw16960013302909305802 tw17061616517875097984 tw17121513877311480621 tw172291993018336473 tw17347620971600744289 tw1738187251443692264 tw17465327836545584873 tw17630974795048394162 tw17829520306720180972 tw17872557950252473638 tw18066720972533552569 tw1824945749894206332 tw18310542988696875854 tw1903012596793395992 tw2003407336296598633 tw2259242896626043726 tw2403710032535553562 tw2414198808534688101 tw2464787022271509279 tw2724481945680190470 tw2953333526612800222 tw3243795829619688883 tw3298733345655257638 tw333955498095215967 tw3340418198111010553 tw3596426246066876632 tw391870870456096360 tw4087158717013866030 tw4101878579615702713 tw4123356268312293408 tw4142953458573609600 tw4205249894614322770 tw4331146258591623072 tw4417285943438325166 tw4448386910605473520 tw4641615628992611643 tw4690224484268780426 tw4793268796765695528 tw4796325830414906190 tw4849677605758204659 tw5216471208644631600 tw5230237261802571974 tw5389904650095030542 tw5434907609773407719 tw5473556502208820683 tw5724259893369597345 tw5737045461120212290 tw5788033457140936375 tw580123743555776428 tw5934666309000478332 tw6034444672514081630 tw6073577237092988178 tw6101465918057296615 tw6270510704655676394 tw6443442089394463640 tw6485757951893318951 tw6506845250631778182 tw6549197315786566347 tw6673339935746757399 tw6736391905888598159 tw6867943254131154814 tw687849533740506647 tw7144584080872625249 tw7187438439975593006 tw7437036931888299999 tw7692864598306351550 tw7752992035325186949 tw8005209205035034820 tw8025242878282774181 tw8046734898817149625 tw8075724376829183256 tw8100233835077151138 tw8130636348687742747 tw8175887283969062890 tw8192088691565681485 tw8611982692323107538 tw8785197151945923810 tw9131703723924297514 tw9138108989402950199 tw9245382865359572175 tw9327951301192041527 tw9338708442866231548 tw9494186052619026135 tw9600598272785709374 tw9636496756157394312 tw9965536378075280065:True)
open PySem PySem.W PyProof.Rows
set_option maxRecDepth 100000 in
set_option maxHeartbeats 0 in
theorem PySem.Challenge.cw_bytetongue_k83_whole_in_step_from_all_sp_holds : PySem.Challenge.rw_bytetongue_k83_whole_in_step_from_all_sp.Holds := by
 w_on;o_law;k_head;(case hw=>w_witness2)
 k_fill
 refine My.walk (l:=PySem.Challenge.rw_bytetongue_k83_whole_in_step_from_all_sp) rfl rfl rfl (λw h Y=>⟨PySem.W.km_in_of Y,PySem.W.km_tabs_of Y 386 (by simp)⟩) (λw=>by kernel_rfl) (λw=>by kernel_rfl) ?F
 case F =>
  intro w mg h KX G
  refine' My.txt_mk KX G ?SJ ?fK ?mK ?KJ ?wK ?gK ?BK ?vK ?VJ ?iK ?DK ?XJ ?LK ?GJ ?PJ ?lK ?zK ?YJ ?HJ ?xK ?pK ?dK ?GK ?IK ?RJ ?tK ?qK ?BJ ?OJ ?FJ ?QJ ?yK ?ZJ ?jK ?UJ ?CJ ?rK ?oK ?CK ?MJ ?iG ?bD ?bF ?yH ?bH ?oE ?oF ?rD ?HF ?sH ?vC ?jC ?uS ?pR ?qd ?pY ?pO ?uJ ?uO ?uR ?uz ?uv ?uo ?nA ?wF ?vA ?XC ?aD ?pA ?XF ?nJ ?pC ?mC ?vB ?wJ ?nH ?VD ?qJ ?aC ?jB ?JC ?zG ?wA ?iC ?HD ?rA ?zE ?vD ?gG ?eG ?JD ?cB ?jF ?cC ?lC ?pJ ?uU ?pU ?qf ?p0 ?pQ ?uL ?uQ ?uB ?ux ?uu ?lA ?uI ?uH ?uG ?nD ?JG ?fD ?wI ?wC ?zF ?UG ?jG ?fJ ?zB ?lD ?cI ?oH ?xF ?bB ?pG ?dJ ?pI ?tC ?lB ?rJ ?eF ?dG ?zH ?fB ?dC ?HH ?rC ?yI ?cD ?wB ?cF ?YF ?gF ?NB ?nF ?iB ?VG ?mG ?lH ?rF ?tG ?vG ?tE ?lF ?iI ?RC ?JF ?aJ ?bI ?xG ?mD ?jH ?qH ?fC ?wH ?nC ?xH ?ZG ?XD ?VH ?GD ?RB ?OD ?jJ ?rE ?QC ?JH ?MF ?cH ?rB ?aB ?oA ?yE ?rI ?sJ ?eE ?CG ?mF ?xJ ?gD ?YC ?vI ?KC ?gC ?jE ?uT ?pT ?qe ?pZ ?pP ?uK ?uP ?uA ?uw ?ur ?jA ?uF ?uE ?uD ?dH ?aF ?QD ?GF ?yC ?jD ?qI ?fH ?yG ?tB ?JB ?yF ?oJ ?VB ?HB ?TG ?tH ?mH ?dF ?gB ?YB ?fG ?sI ?iJ ?bJ ?zA ?wD ?VF ?dD ?XH ?LC ?dB ?qC ?uC ?QH ?DG ?TF ?WF ?WD ?pH ?aH ?pD ?dI ?lJ ?ZF ?YD ?GC ?yD ?gJ ?QG ?bG ?pF ?sE ?nG ?vJ ?vH ?yJ ?YH ?sG ?QF ?lE ?oG ?KH ?qF ?RG ?PB ?lG ?qD ?mJ ?YG ?iH ?qG ?wG ?gH ?QB ?rG ?eH ?bC ?ZD ?zJ ?ZC ?rH ?tD ?KD ?aA ?bA ?cA ?gA ?k0 ?k1 ?k2 ?k3 ?k4 ?k5 ?k6 ?k7 ?k8 ?k9 ?JK ?pB ?cG ?aG ?z0 ?z1 ?z2 ?z3 ?z4 ?z5 ?z6 ?z7 ?z8 ?z9 ?bK ?TJ
  case SJ|fK|mK|KJ|wK|gK|BK|vK|VJ|iK|DK|XJ|LK|GJ|PJ|lK|zK|YJ|HJ|xK|pK|dK|GK|IK|RJ|tK|qK|BJ|OJ|FJ|QJ|yK|ZJ|jK|UJ|CJ|rK|oK|CK|MJ|iG|bD|bF|yH|bH|oE|oF|rD|HF|sH|vC|jC|uS|pR|qd|pY|pO|uJ|uO|uR=>k_is
  case uz|uv|uo|nA|wF|vA|XC|aD|pA|XF|nJ|pC|mC|vB|wJ|nH|VD|qJ|aC|jB|JC|zG|wA|iC|HD|rA|zE|vD|gG|eG|JD|cB|jF|cC|lC|pJ|uU|pU|qf|p0|pQ|uL|uQ|uB|ux|uu|lA|uI|uH|uG|nD|JG|fD|wI|wC|zF|UG|jG|fJ|zB=>k_is
  case lD|cI|oH|xF|bB|pG|dJ|pI|tC|lB|rJ|eF|dG|zH|fB|dC|HH|rC|yI|cD|wB|cF|YF|gF|NB|nF|iB|VG|mG|lH|rF|tG|vG|tE|lF|iI|RC|JF|aJ|bI|xG|mD|jH|qH|fC|wH|nC|xH|ZG|XD|VH|GD|RB|OD|jJ|rE|QC|JH|MF|cH=>k_is
  case rB|aB=>k_is
  (case oA=>kernel_rfl)
  case yE|rI|sJ|eE|CG|mF|xJ|gD|YC|vI|KC|gC|jE|uT|pT|qe|pZ|pP|uK|uP|uA|uw|ur|jA|uF|uE|uD|dH|aF|QD|GF|yC|jD|qI|fH|yG|tB|JB|yF|oJ|VB|HB|TG|tH|mH|dF|gB|YB|fG|sI|iJ|bJ|zA|wD|VF|dD|XH|LC|dB|qC=>k_is
  case uC|QH|DG|TF|WF|WD|pH|aH|pD|dI|lJ|ZF|YD|GC|yD|gJ|QG|bG|pF|sE|nG|vJ|vH|yJ|YH|sG|QF|lE|oG|KH|qF|RG|PB|lG|qD|mJ|YG|iH|qG|wG|gH|QB|rG|eH|bC|ZD|zJ|ZC|rH|tD|KD|aA|bA|cA|gA|k0|k1|k2|k3|k4=>k_is
  case k5|k6|k7|k8|k9|JK|pB=>k_is
  (case cG=>rfl)
  (case aG=>rfl)
  case z0|z1|z2|z3|z4|z5|z6|z7|z8|z9|bK|TJ=>k_is
