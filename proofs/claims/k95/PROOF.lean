import PyProof.Rows.All
import Wide.All
import Wide.FinOn
import KE.KDictOf
import KE.RegKIsAll
import KE.KEqDeep
import KE.KRevIter
import KE.KEqDict
import KE.RegKTryMore
import KE.KItem
import KE.KTurns
import KE.KFromBytes
import KE.KEqText
import PySem.Challenge.RW_bytetongue_k95_whole_any_bytes_in_all
set_option Elab.async false
set_option linter.all false
set_option maxRecDepth 100000
theorem Z{α:Sort _}{a:α}:a=a:=rfl
def WA:=@List.length_map
def WB:=@Nat.le_refl
def WC:=@List.length_append
def WD:=@PySem.Heap.lt_size
def WE:=@Nat.lt_of_lt_of_le
def WF:=@List.getElem?_eq_some_iff
def WG:=@PySem.Heap.get?_push_of_some
def WH:=@List.size_toArray
def WI:=@List.map_append
def WJ:=@List.getElem?_map
def WK:=@List.mem_singleton
def WL:=@Nat.ne_of_lt
def WM:=@List.append_nil
def WN:=@PySem.boot_len
def WO:=@List.length_take
def WP:=@Nat.le_trans
def WQ:=@List.mem_append
def WR:=@Bool.false_ne_true
def WS:=@PySem.F.plainAttrs_list
def WT:=@Nat.zero_le
def WU:=@List.mem_cons
def WV:=@List.mem_range
def WW:=@Nat.lt_succ_self
def WX:=@Nat.le_of_ble_eq_true
def WY:=@List.take_length
def WZ:=@Option.some.inj
def W0:=@List.length_cons
def W3:=@List.mem_cons_self
def W4:=@List.mem_cons_of_mem
def W5:=@PySem.Heap.get?_push_size
def W6:=@List.mem_append_right
def W7:=@List.map_cons
def W8:=@List.mem_of_getElem?
def W9:=@List.getElem?_eq_getElem
def Xa:=@PyProof.Rows.boot_list
def Xb:=@Nat.lt_irrefl
def Xc:=@List.mem_append_left
def Xd:=@Bool.and_eq_true
def Xe:=@List.append_assoc
def Xf:=@List.find?_cons
def Xg:=@List.lookup_cons
def Xh:=@PySem.W.ke_shaped_ints
def Xi:=@Nat.succ.inj
def Xj:=@List.getD_eq_getElem?_getD
def Xk:=@PySem.F.slot_list_append
def Xl:=@PySem.F.type_list_append
def Xm:=@List.take_append_drop
def Xn:=@PySem.F.slot_list_extend
def Xo:=@PySem.F.type_list_extend
def Xp:=@Nat.le_succ
def Xq:=@Option.map_eq_some_iff
def Xr:=@List.length_drop
def Xs:=@List.mem_map
def Xt:=@List.range_succ
def Xu:=@PySem.Heap.get?_update_other
def Xv:=@List.take_of_length_le
def Xw:=@Nat.not_lt_zero
def Xx:=@List.map_congr_left
def Xy:=@PyProof.Rows.callWith_type1
def Xz:=@PySem.Heap.size_push
def XA:=@List.getElem?_append_right
def XB:=@List.replicate_succ
def XC:=@Int.toNat_natCast
def XD:=@List.getElem?_eq_none
def XE:=@List.map_map
def XF:=@Nat.zero_add
def XG:=@Bool.eq_iff_iff
def XH:=@Nat.le_of_eq
def XI:=@List.getElem?_append_left
def XJ:=@List.any_cons
def XM:=@Option.map_some
def XQ:=@PyProof.Rows.slot_tuple_getitem
def XR:=@Nat.succ_le_succ
def XS:=@List.nil_append
def XT:=@Nat.add_sub_cancel_left
def XU:=@PySem.Heap.get?_update_self
def XV:=@List.mem_of_mem_take
def XW:=@List.find?_eq_none
def XX:=@List.pairwise_iff_getElem
def XY:=@Int.emod_nonneg
def XZ:=@Int.emod_lt_of_pos
def X3:=@PySem.Heap.get?_none_of_le
def X7:=@Nat.ne_of_gt
def X8:=@List.nodup_cons
def X9:=@PySem.mem_of_lookup
def Ya:=@List.length_nil
def Yb:=@PySem.F.slot_dict_get
def Yc:=@List.flatten_cons
def Yd:=@List.foldl_cons
def Ye:=@List.all_eq_true
def Yf:=@List.map_take
def Yg:=@Int.le_of_lt
def Yh:=@Option.bind_eq_some_iff
def Yi:=@List.getElem_mem
def Yj:=@PyProof.Rows.boot_isinstance
def Yk:=@List.not_mem_nil
def Yl:=@Int.zero_add
def Ym:=@Int.natCast_add
def Yn:=@List.filterMap_cons
def Yo:=@List.getElem?_set_self
def Yp:=@List.getElem?_set_ne
def Yq:=@Array.length_toList
def Yr:=@List.getElem?_take_of_lt
def Ys:=@Option.isSome_map
def Yt:=@Bool.false_eq_true
def Yu:=@Array.getElem?_eq_some_iff
def Yv:=@Nat.min_eq_left
def Yw:=@List.drop_eq_nil_of_le
def Yx:=@List.take_add_one
def Yy:=@PySem.Heap.size_after_update
def Yz:=@List.exists_cons_of_length_eq_add_one
def YA:=@List.length_range
def YB:=@Nat.zero_lt_one
def YC:=@List.mem_iff_getElem
def YD:=@PyProof.Rows.boot_tuple
def YE:=@List.find?_some
def YF:=@List.flatMap_append
def YG:=@Nat.mod_one
def YH:=@Nat.le_of_lt
def YI:=@List.of_mem_zip
def YJ:=@Option.isSome_iff_exists
def YK:=@List.getElem?_replicate
def YL:=@List.length_replicate
def YM:=@PySem.F.entry_dict_get
def YN:=@Option.getD_none
def YO:=@List.length_reverse
def YQ:=@Nat.add_comm
def YR:=@List.map_drop
def YS:=@List.drop_zero
def YT:=@Nat.min_eq_right
def YU:=@List.drop_length
def YV:=@List.take_nil
def YW:=@Array.getElem?_eq_getElem
def YX:=@Nat.div_le_self
def YY:=@Nat.lt_succ_of_lt
def YZ:=@Nat.mul_succ
def Y0:=@Int.pow_add
def Y1:=@Int.add_mul
def Y2:=@Int.mul_comm
def Y3:=@List.mem_of_mem_drop
def Y4:=@PySem.F.slot_list_index
def Y5:=@List.getElem?_range
def Y6:=@Int.natAbs_of_nonneg
def Y7:=@Int.natCast_pow
def Y8:=@Int.ofNat_lt
def Y9:=@Nat.lt_trichotomy
def Za:=@List.mem_of_find?_eq_some
def Zb:=@Nat.lt_or_ge
def Zc:=@Nat.mod_eq_of_lt
def Zd:=@Int.natCast_emod
def Ze:=@Nat.le_succ_of_le
def Zf:=@List.take_zero
def Zg:=@List.drop_eq_getElem_cons
def Zh:=@List.pairwise_map
def Zi:=@List.nodup_range
def Zj:=@Int.fdiv_eq_ediv_of_nonneg
def Zk:=@PyProof.noPylong_small
def Zl:=@PySem.F.slot_dict_getitem
def Zm:=@PySem.F.args_dict_get_2
def Zn:=@PySem.F.plainAttrs_dict
def Zo:=@PySem.F.type_dict_get
def Zp:=@Array.getElem?_toList
def Zq:=@List.getElem?_reverse
def Zr:=@Nat.ble_eq_true_of_le
def Zt:=@Array.mem_toList_iff
def Zu:=@PySem.F.excBase_ValueError
def Zv:=@Array.getElem?_setIfInBounds
def Zw:=@PySem.Heap.get?_update_ne
def Zx:=@List.getElem?_of_mem
def Zy:=@PyProof.Rows.boot_int
def Zz:=@List.filter_eq_nil_iff
def ZA:=@Int.toNat_of_nonneg
def ZB:=@List.length_pos_iff
def ZC:=@List.getElem?_eq_none_iff
def ZD:=@List.Nodup.length_le_of_subset
def ZE:=@PySem.F.type_list_index
def ZF:=@List.flatten_append
def ZG:=@PySem.F.slot_list_insert
def ZH:=@PySem.F.type_list_insert
def ZI:=@List.Sublist.append
def ZJ:=@List.sublist_append_left
def ZK:=@PySem.W.ke_canLayAll0
def ZL:=@PySem.W.ke_depthAll
def ZM:=@Nat.add_right_cancel
def ZN:=@List.forall_mem_cons
def kb:=@PySem.wpAny_bind
def ZO:=@PySem.wpAny_pure
def ZP:=@if_neg
def ZQ:=@if_pos
def ZR:=@absurd
def ZS:=@of_decide_eq_true
def ZT:=@decide_eq_true
def ZU:=@decide_eq_false
abbrev e7:=List Int
abbrev fv:=PySem.Shared
namespace L2
open PySem PySem.Spec PyProof.Rows
abbrev aQ:=Sum Int Str
def l7:aQ->Value->Bool
 | .inl k,v=>Value.isInt k v
 | .inr x,v=>Value.isStrOf x v
def O6(w:World):aQ->Int
 | .inl k=>hashInt k
 | .inr x=>hashStr w x
theorem jp:∀ {k:aQ} {v:Value},l7 k v=true->(∃i t,k=Sum.inl i/\v=Value.int i t)\/(∃x t,k=Sum.inr x/\v=Value.str x t)
 | .inl i,v,h=>by
  obtain⟨t,e⟩:=Value.isInt_shape (k:=i) (v:=v) h;exact .inl ⟨i,t,Z,e⟩
 | .inr x,v,h=>by
  obtain⟨t,e⟩:=Value.isStrOf_shape (x:=x) (v:=v) h;exact .inr ⟨x,t,Z,e⟩
def O5(i:Int)(t:Tok):l7 (.inl i) (.int i t)=true:=by simp[l7,Value.isInt]
def O4(x:Str)(t:Tok):l7 (.inr x) (.str x t)=true:=by simp[l7,Value.isStrOf]
def O3(a b:Int):decide ((Sum.inl a:aQ)=Sum.inl b)=(a == b):=by
 by_cases e:a=b
 ·subst e;simp
 ·have h:¬(Sum.inl a:aQ)=Sum.inl b:=λq=>e (Sum.inl.inj q);rw[ZU h];exact (beq_eq_false_iff_ne.mpr e).symm
def O0(a b:Str):decide ((Sum.inr a:aQ)=Sum.inr b)=decide (a=b):=by
 by_cases e:a=b
 ·subst e;simp
 ·have h:¬(Sum.inr a:aQ)=Sum.inr b:=λq=>e (Sum.inr.inj q);rw[ZU h,ZU e]
def O2(a:Int)(b:Str):decide ((Sum.inl a:aQ)=Sum.inr b)=false:=ZU (λq=>nomatch q)
def O1(a:Str)(b:Int):decide ((Sum.inr a:aQ)=Sum.inl b)=false:=ZU (λq=>nomatch q)
def cz(prog:Program)(w:World):PySem.KeyKind prog w aQ where
 is:=l7
 hash:=O6 w
 inj:=λv a b d hb=>by
  rcases jp d with ⟨i,t,rfl,rfl⟩|⟨x,t,rfl,rfl⟩
  ·rcases jp hb with ⟨j,u,rfl,e⟩|⟨y,u,rfl,e⟩
   ·injection e with e1 _;rw[e1]
   ·exact nomatch e
  ·rcases jp hb with ⟨j,u,rfl,e⟩|⟨y,u,rfl,e⟩
   ·exact nomatch e
   ·injection e with e1 _;rw[e1]
 byValue:=λk v h=>by
  rcases jp h with ⟨i,t,rfl,rfl⟩|⟨x,t,rfl,rfl⟩<;>rfl
 pyHash:=λc h=>by
  rcases jp c with ⟨i,t,rfl,rfl⟩|⟨x,t,rfl,rfl⟩
  ·exact wpAny_pyHash_int h
  ·exact wpAny_pyHash_str h
 eqBool:=λf c h=>by
  rcases jp f with ⟨i,t,rfl,rfl⟩|⟨x,t,rfl,rfl⟩
  ·rcases jp c with ⟨j,u,rfl,rfl⟩|⟨y,u,rfl,rfl⟩
   ·rw[O3]at h;exact wpAny_eqBool_int h
   ·rw[O2]at h;exact SeqAt.EqAt.int_str i t y u _ _ _ _ h
  ·rcases jp c with ⟨j,u,rfl,rfl⟩|⟨y,u,rfl,rfl⟩
   ·rw[O1]at h;exact SeqAt.EqAt.str_int x t j u _ _ _ _ h
   ·rw[O0]at h;exact wpAny_eqBool_str h
 «strs»:=λk x t v h=>by
  rcases jp h with ⟨i,u,rfl,e⟩|⟨y,u,rfl,e⟩
  ·exact nomatch e
  ·injection e with e1 _
   subst e1;cases v<;>rfl
def D7(prog:Program)(w:World)(i:Int)(t:Tok):(cz prog w).is (.inl i) (.int i t)=true:=O5 i t
def D6(prog:Program)(w:World)(x:Str)(t:Tok):(cz prog w).is (.inr x) (.str x t)=true:=O4 x t
inductive V where
 | non|bl (b:Bool)|int (i:Int)|str (x:Str)|byt (b:Array UInt8)|flt (b:UInt64)|ref (a:Addr)|ty (n:String)
 deriving DecidableEq
def aP:V->Value->Prop
 | .non,u=>u=Value.none
 | .bl b,u=>u=Value.bool b
 | .int i,u=>∃t,u=Value.int i t
 | .str x,u=>∃t,u=Value.str x t
 | .byt b,u=>∃t,u=Value.bytes b t
 | .flt b,u=>∃t,u=Value.float b t
 | .ref a,u=>u=Value.ref a
 | .ty n,u=>u=Value.type n
abbrev ay:List V->List Value->Prop:=Paired aP
def ay.length{xs:List V}{us:List Value}(r:ay xs us):xs.length=us.length:=Paired.length r
theorem ay.get:∀ {xs:List V} {us:List Value} {i:Nat} {x:V},ay xs us->xs[i]? = some x->∃u,us[i]? = some u/\aP x u
 | _,_,_,_,.nil,e=>by simp at e
 | _,_,0,_,.cons r _,e=>by simp at e;subst e;exact⟨_,Z,r⟩
 | _,_,i+1,x,.cons _ t,e=>by
  obtain⟨u,b,a⟩:=ay.get (i:=i) (x:=x) t (by simpa using e);exact⟨u,by simpa using b,a⟩
theorem ay.append:∀ {xs ys:List V} {us ws:List Value},ay xs us->ay ys ws->ay (xs++ys) (us++ws)
 | _,_,_,_,.nil,s=>s
 | _,_,_,_,.cons r t,s=>.cons r (ay.append t s)
theorem ay.take:∀ {xs:List V} {us:List Value} (n:Nat),ay xs us->ay (xs.take n) (us.take n)
 | _,_,0,_=>.nil
 | _,_,_+1,.nil=>.nil
 | _,_,n+1,.cons r t=>.cons r (ay.take n t)
theorem ay.drop:∀ {xs:List V} {us:List Value} (n:Nat),ay xs us->ay (xs.drop n) (us.drop n)
 | _,_,0,r=>r
 | _,_,_+1,.nil=>.nil
 | _,_,n+1,.cons _ t=>ay.drop n t
def cZ:Option V->Option Value->Prop
 | some v,some u=>aP v u
 | none,none=>True
 | _,_=>False
def KV{κ:Type}:List (κ × V)->List (κ × Value)->Prop:=Paired λ(p:κ × V) (q:κ × Value)=>p.1=q.1/\aP p.2 q.2
def kV:aQ->V
 | .inl i=>.int i
 | .inr x=>.str x
inductive HO where
 | lst (xs:List V)
 | tup (xs:List V)
 | dK (kvs:List (aQ × V))|dT (kvs:List (List aQ × V))
 | set (S:Int->Bool) (n:Nat)
 | ins (C dx:Addr) (fs:List (Str × V))
 | own (x:Addr)
 | xd (fs:List (Str × V))
 | met (f x:Addr)
 | rng (lo hi:Int)
 | frz (o:Obj) (u:HO)
 | tbl (ps:Array Value)
 | ext (φ:Heap->Prop)
abbrev Hp:=Addr->Option HO
def upd(H:Hp)(a:Addr)(o:HO):Hp:=λb=>if b=a then some o else H b
def aF{H:Hp}{a:Addr}{o:HO}:upd H a o a=some o:=by unfold upd;rw[ZQ rfl]
def ap{H:Hp}{a b:Addr}{o:HO}(h:b≠a):upd H a o b=H b:=by unfold upd;rw[ZP h]
def Oi{H:Hp}{a b:Addr}{o u:HO}(h:H a=some o)(h':H b=some u)(d:o≠u):a≠b:=by
 intro e;subst e;rw[h]at h';exact d (WZ h')
def aB{H:Hp}{a b:Addr}{o:HO}(h:H a=some o)(h':H b=none):a≠b:=by
 intro e;subst e;rw[h]at h';cases h'
section
variable (P:Program)(w:World)
def bt(H:Hp)(h:Heap)(a:Addr):HO->Prop
 | .lst xs=>xs.length<=sizeLine/\∃(b:List Value) (n:Nat),ay xs b/\h.get? a=some { cls:=.type "list",data:=.seq b.toArray n }
 | .tup xs=>xs.length<=sizeLine/\∃b:List Value,ay xs b/\IsTup h a b.toArray
 | .dK kvs=>kvs.length<=sizeLine/\(a == sysModules)=false/\∃vs,KV kvs vs/\h.DictOf (cz P w) a vs
 | .dT kvs=>kvs.length<=sizeLine/\(a == sysModules)=false/\∃xs:List (List aQ × Addr × Value),
  Paired (λ(p:List aQ × V) (q:List aQ × Addr × Value)=>p.1=q.1/\H q.2.1=some (.tup (p.1.map kV))/\aP p.2 q.2.2) kvs xs /\
  ∃o es ep,h.get? a=some o/\o.ExactDict/\o.data=.dict es ep/\es.toList=xs.map (entryOfKey (tupleKind (cz P w)))/\(xs.map (·.1)).Nodup
 | .set S n=>h.SetOf (intKind P w) a S n
 | .ins C dx fs=>H dx=some (.own a)/\fs.length<=1000/\dx≠a/\h.get? a=some (W.instObj C dx) /\
  ∃mA,h.Ns1 dx mA/\(∀f,cZ (fs.lookup f) (mA f))/\PySem.Within mA (fs.map (·.1))
 | .own _=>∃o,h.get? a=some o
 | .xd fs=>∃mA,h.Ns1 a mA/\∀f,cZ (fs.lookup f) (mA f)
 | .rng lo hi=>∃t u v,h.get? a=some { cls:=.type "range",data:=.fields #[.int lo t,.int hi u,.int 1 v] }
 | .frz o u=>h.get? a=some o/\bt H h a u
 | .tbl ps=>h.get? a=some { cls:=.none,data:=.fields ps }
 | .met f x=>h.get? a=some (W.methodObj (.ref f) (.ref x))
 | .ext φ=>φ h/\(∃o,h.get? a=some o)/\∀h1 h2:Heap,φ h1->(∀o,h1.get? a=some o->h2.get? a=some o)->φ h2
def bC(H:Hp)(h:Heap):Prop:=∀a o,H a=some o->bt P w H h a o
end
section
variable {P:Program}{w:World}{H H':Hp}{h h':Heap}{a:Addr}{o:HO}
def bt.lt(x:bt P w H h a o):a<h.objs.size:=by
 cases o with
 | lst xs=>obtain⟨_,_,_,_,e⟩:=x;exact WD e
 | tup xs=>obtain⟨_,_,_,p⟩:=x;exact p.lt
 | dK kvs=>obtain⟨_,_,_,_,o,_,_,e,_⟩:=x;exact WD e
 | dT kvs=>obtain⟨_,_,_,_,o,_,_,e,_⟩:=x;exact WD e
 | set S n=>obtain⟨o,_,_,_,e,_⟩:=x;exact WD e
 | ins C dx fs=>obtain⟨_,_,_,e,_⟩:=x;exact WD e
 | own y=>obtain⟨_,e⟩:=x;exact WD e
 | xd fs=>obtain⟨_,⟨_,_,_,e,_⟩,_⟩:=x;exact WD e
 | rng lo hi=>obtain⟨_,_,_,e⟩:=x;exact WD e
 | frz ob u=>obtain⟨e,_⟩:=x;exact WD e
 | tbl ps=>exact WD (show h.get? a=some _ from x)
 | met f y=>exact WD (show h.get? a=some _ from x)
 | ext φ=>obtain⟨_,⟨_,e⟩,_⟩:=x;exact WD e
theorem Paired.mapP{α β:Type}{F G:α->β->Prop}:∀ {l₁:List α} {l₂:List β},Paired F l₁ l₂->(∀a b,F a b->G a b)->Paired G l₁ l₂
 | _,_,.nil,_=>.nil
 | _,_,.cons r t,f=>.cons (f _ _ r) (Paired.mapP t f)
def bt.stay(x:bt P w H h a o)(k:∀b u,(b=a\/H b=some (.own a))->h.get? b=some u->h'.get? b=some u)
 (s:∀b,H b=some (.own a)->H' b=some (.own a)) (m:∀b xs,H b=some (.tup xs)->H' b=some (.tup xs)):bt P w H' h' a o:=by
 induction o with
 | lst xs=>obtain⟨z,j,n,r,e⟩:=x;exact⟨z,j,n,r,k _ _ (.inl Z) e⟩
 | tup xs=>obtain⟨z,j,r,g,e,c⟩:=x;exact⟨z,j,r,g,k _ _ (.inl Z) e,c⟩
 | dK kvs=>obtain⟨z,y,vs,r,g,es,i,e,c⟩:=x;exact⟨z,y,vs,r,g,es,i,k _ _ (.inl Z) e,c⟩
 | dT kvs =>
  obtain⟨z,y,xs,r,g,es,i,e,c⟩:=x;exact⟨z,y,xs,Paired.mapP r λp q z=>⟨z.1,m _ _ z.2.1,z.2.2⟩,g,es,i,k _ _ (.inl Z) e,c⟩
 | set S n=>obtain⟨g,es,i,t,e,c⟩:=x;exact⟨g,es,i,t,k _ _ (.inl Z) e,c⟩
 | ins C dx fs =>
  obtain⟨d,z,ne,e,mA,⟨l,es,i,B,c⟩,r⟩:=x;exact⟨s _ d,z,ne,k _ _ (.inl Z) e,mA,⟨l,es,i,k _ _ (.inr d) B,c⟩,r⟩
 | own y=>obtain⟨g,e⟩:=x;exact⟨g,k _ _ (.inl Z) e⟩
 | xd fs=>obtain⟨mA,⟨l,es,i,e,c⟩,r⟩:=x;exact⟨mA,⟨l,es,i,k _ _ (.inl Z) e,c⟩,r⟩
 | rng lo hi=>obtain⟨t,u,v,e⟩:=x;exact⟨t,u,v,k _ _ (.inl Z) e⟩
 | frz g u ih=>obtain⟨e,q⟩:=x;exact⟨k _ _ (.inl Z) e,ih q⟩
 | tbl ps =>
  have e:h.get? a=some { cls:=.none,data:=.fields ps }:=x;show h'.get? a=some { cls:=.none,data:=.fields ps };exact k a _ (.inl Z) e
 | met f y =>
  have e:h.get? a=some (W.methodObj (.ref f) (.ref y)):=x;show h'.get? a=some (W.methodObj (.ref f) (.ref y));exact k a _ (.inl Z) e
 | ext φ=>obtain⟨p,⟨o,e⟩,st⟩:=x;exact⟨st _ _ p λo q=>k _ _ (.inl Z) q,⟨o,k _ _ (.inl Z) e⟩,st⟩
def bC.lt(x:bC P w H h)(e:H a=some o):a<h.objs.size:=(x a o e).lt
def bC.fresh(x:bC P w H h)(e:h.objs.size<=a):H a=none:=by
 cases q:H a with
 | none=>rfl
 | some u=>exact ZR (WE (x.lt q) e) (Xb _)
def bC.kept(x:bC P w H h)(k:∀b u,h.get? b=some u->h'.get? b=some u):bC P w H h':=λa o e =>
 (x a o e).stay (λb u _ q=>k b u q) (λ_ q=>q) λ_ _ q=>q
def bC.laid(x:bC P w H h)(k:∀b u,h.get? b=some u->h'.get? b=some u)(f:h.objs.size<=a)(new:bt P w (upd H a o) h' a o):bC P w (upd H a o) h':=λb u e=>by
 have d:=x.fresh f;by_cases hb:b=a
 ·subst hb;rw[aF]at e;cases e;exact new
 ·rw[ap hb]at e;exact (x b u e).stay (λc v _ q=>k c v q) (λc q=>by rw[ap (aB q d)];exact q) λc xs q=>by rw[ap (aB q d)];exact q
end
def Rd(H:Hp)(a:Addr)(u:HO):Prop:=H a=some u\/∃o,H a=some (.frz o u)
def Rd.ok{P:Program}{w:World}{H:Hp}{h:Heap}{a:Addr}{u:HO}(r:Rd H a u)(x:bC P w H h):bt P w H h a u:=by
 rcases r with r|⟨o,r⟩
 ·exact x a u r
 ·obtain⟨_,q⟩:=x a _ r;exact q
def qt:Option HO->Prop
 | some (.lst _)=>True
 | some (.dK _)=>True
 | some (.dT _)=>True
 | some (.set _ _)=>True
 | some (.ins _ _ _)=>True
 | some (.ext _)=>True
 | _=>False
section
variable {P:Program}{w:World}{H:Hp}{h h':Heap}{x e:Addr}{o':HO}
def bC.write(ok:bC P w H h)(g:qt (H x))(j:e=x\/H e=some (.own x))(k:∀b u,b≠e->h.get? b=some u->h'.get? b=some u)(i:∃u,h'.get? e=some u)
 (new:bt P w (upd H x o') h' x o'):bC P w (upd H x o') h':=λb u q=>by
 have a:∀c y,H c=some (.own y)->c≠x:=λc y r z=>by subst z;rw[r]at g;exact g
 have d:∀c xs,H c=some (.tup xs)->c≠x:=λc xs r z=>by subst z;rw[r]at g;exact g
 by_cases hb:b=x
 ·subst hb;rw[aF]at q;cases q;exact new
 ·rw[ap hb]at q;by_cases hbe:b=e
  ·have l:H b=some (.own x):=by
    rcases j with z|z
    ·exact ZR (hbe.trans z) hb
    ·rw[hbe];exact z
   rw[q]at l;cases l;obtain⟨v,m⟩:=i;exact⟨v,by rw[hbe];exact m⟩
  ·refine (ok b u q).stay (λc v f r=>k c v ?_ r) (λc r=>by rw[ap (a c b r)];exact r) λc xs r=>by rw[ap (d c xs r)];exact r
   rcases f with rfl|f
   ·exact hbe
   ·rintro rfl;rcases j with z|z
    ·exact a c b f z
    ·rw[f]at z;cases z;exact hb Z
end
structure Un (fs ex:List Addr) (H H':Hp) (h h':Heap):Prop where
 keep:∀b o,h.get? b=some o->H b=none->b∉fs->b∉ex->h'.get? b=some o
 slot:∀b o,h.get? b=some o->H b=none->b∈fs->b∉ex->∃sl,h'.get? b=some { o with slots:=sl }
 free:∀b o,h.get? b=some o->H b=none->b∉ex->H' b=none
 there:∀b o,h.get? b=some o->b∉ex->∃o',h'.get? b=some o'
 tups:∀b xs,H b=some (.tup xs)->H' b=some (.tup xs)
 frzs:∀b o u,H b=some (.frz o u)->H' b=some (.frz o u)
 tbls:∀b ps,H b=some (.tbl ps)->∃more,H' b=some (.tbl (ps++more))
section
variable {fs fs' ex ex':List Addr}{H H1 H2:Hp}{h h1 h2 h':Heap}{a x e:Addr}{o:HO}
def Un.any(u:Un fs ex H H1 h h1){b:Addr}{a:Obj}(q:h.get? b=some a)(n:H b=none)(hx:b∉ex):∃sl,h1.get? b=some { a with slots:=sl }:=by
 by_cases hb:b∈fs
 ·exact u.slot b a q n hb hx
 ·exact⟨a.slots,u.keep b a q n hb hx⟩
def Un.kept(k:∀b u,h.get? b=some u->h'.get? b=some u):Un fs ex H H h h' :=
 ⟨λb a q _ _ _=>k b a q,λb a q _ _ _=>⟨a.slots,k b a q⟩,λ_ _ _ n _=>n,λb a q _=>⟨a,k b a q⟩,λ_ _ q=>q,λ_ _ _ q=>q,λ_ ps q=>⟨#[],by rw[q];simp⟩⟩
def Un.refl:Un fs ex H H h h:=Un.kept λ_ _ q=>q
def Un.laid(k:∀b u,h.get? b=some u->h'.get? b=some u)(d:h.objs.size<=a)(c:H a=none):Un fs ex H (upd H a o) h h' where
 keep:=λb u q _ _ _=>k b u q
 slot:=λb u q _ _ _=>⟨u.slots,k b u q⟩
 free:=λb u q n _=>by rw[ap (WL (WE (WD q) d))];exact n
 there:=λb u q _=>⟨u,k b u q⟩
 tups:=λb xs q=>by rw[ap (aB q c)];exact q
 frzs:=λb u xs q=>by rw[ap (aB q c)];exact q
 tbls:=λb ps q=>⟨#[],by rw[ap (aB q c),q];simp⟩
def Un.write(a:qt (H x))(f:e=x\/H e=some (.own x))(k:∀b u,b≠e->h.get? b=some u->h'.get? b=some u)(c:∃u,h'.get? e=some u):Un fs ex H (upd H x o) h h':=by
 have hx:∀b,H b=none->b≠x:=λb n z=>by subst z;rw[n]at a;exact a
 have hb:∀b,H b=none->b≠e:=λb n z=>by
  subst z;rcases f with r|r
  ·exact hx b n r
  ·rw[n]at r;cases r
 have d:∀b u,H b=some u->¬qt (some u)->b≠x:=λb u q nm z=>by subst z;rw[q]at a;exact nm a
 refine⟨λb u q n _ _=>k b u (hb b n) q,λb u q n _ _=>⟨u.slots,k b u (hb b n) q⟩,λb u q n _=>by rw[ap (hx b n)];exact n,λb u q _=>?_,
  λb xs q=>by rw[ap (d b _ q λz=>z)];exact q,λb u xs q=>by rw[ap (d b _ q λz=>z)];exact q,λb ps q=>⟨#[],by rw[ap (d b _ q λz=>z),q];simp⟩⟩
 by_cases hbe:b=e
 ·subst hbe;exact c
 ·exact⟨u,k b u hbe q⟩
end
def qH(h:Heap)(H:Hp):List Addr:=(List.range h.objs.size).filter λa=>(H a).isSome
def js(h:Heap)(H:Hp):Heap:=W.hideAll h (qH h H)
def Pz(h:Heap)(H:Hp):(js h H).objs.size=h.objs.size:=W.hideAll_size _ _
def PB{h:Heap}{H:Hp}{b:Addr}{o:Obj}(e:h.get? b=some o)(n:H b=none):(js h H).get? b=some o :=
 W.hideAll_get _ e λa=>by
  have q:(H b).isSome=true:=(List.mem_filter.mp a).2;rw[n]at q;simp at q
def Og{h:Heap}{H:Hp}{b:Addr}{o:Obj}(e:(js h H).get? b=some o):h.get? b=some o/\H b=none:=by
 have a:h.get? b=some o:=W.of_hideAll (qH h H) e;refine⟨a,?_⟩;cases q:H b with
 | none=>rfl
 | some x =>
  have c:b∈qH h H:=List.mem_filter.mpr ⟨WV.mpr (WD a),by simp[q]⟩;have z:(js h H).get? b=none:=W.hideAll_none (qH h H) c;rw[z]at e;cases e
def Vn(g h:Heap)(L:Addr):List (Addr × Obj):=(List.range h.objs.size).filterMap λa=>if a=L\/(g.get? a).isSome=true then none else (h.get? a).map λo=>(a,o)
def bv(g h:Heap)(L d:Addr):List (Addr × Obj):=(Vn g h L).filter λp=>decide (p.1≠d)
structure Mod (K:W.Frag) (mg:Str->Option Value) (base:Heap):Prop where
 kin:K.In base
 glob:base.Ns mainGlobals mg
 blt:∃mb,base.Ns builtinsNs mb/\∀x:Str,x ≠ "__name__"->mb x=bootBuiltins x
 nolimit:base.NoLimit
structure Cx where
 prog:Program
 w:World
 K:W.Frag
 mg:Str->Option Value
 base:Heap
 A:Around
 N:List Str
 s₀:fv
 H₀:Hp
 env:Env
 outer:List Env
 stack:List Env
 ex:List Addr
 fn:Str->Bool
 calm:Bool
 pn:List (Addr × Obj)
 xe:Value->fv->Prop
def cJ(l:List Env):List Addr:=l.filterMap (·.frame)
abbrev Cx.fs(X:Cx):List Addr:=cJ X.outer
def uc(a:Scope)(x:Str):Prop:=a.names.lookup x=some .local\/a.names.lookup x=some .cell\/a.names.lookup x=some .free
def kh(a:Scope)(x:Str):Prop:=a.names.lookup x=some .local\/a.names.lookup x=some .cell
def Vv(env:Env)(h:Heap)(m:Str->Option Value)(x:Str)(u:Value):Prop :=
 (env.kindOf x=some .local/\m x=some u)\/((env.kindOf x=some .cell\/env.kindOf x=some .free)/\∃c,env.cells.lookup x=some c/\h.IsCell c (some u))
structure Cx.Ok (X:Cx):Prop where
 mod:Mod X.K X.mg X.base
 kind:X.env.scope.kind=.function
 glob:X.env.globals=mainGlobals
 blt:X.env.builtins=builtinsNs
 above:X.s₀.heap.objs.size<=X.env.locals
 inj:∀x y c,X.env.cells.lookup x=some c->X.env.cells.lookup y=some c->x=y
 has:∀x,(X.env.kindOf x=some .cell\/X.env.kindOf x=some .free)->∃c,X.env.cells.lookup x=some c
 cab:∀x c,X.fn x=true->X.env.cells.lookup x=some c->X.s₀.heap.objs.size<=c
 hd:X.calm=true->X.A.handled=none
 frames:X.A.frames=some X.stack
 stk:X.stack=X.outer\/(X.stack=X.env::X.outer/\X.env.frame=some X.env.locals)
 exf:∀b∈X.ex,b≠X.env.locals/\∀x c,X.env.cells.lookup x=some c->c≠b
 bs:∀b o,X.base.get? b=some o->X.s₀.heap.get? b=some o/\X.H₀ b=none
 bsz:X.base.objs.size<=X.s₀.heap.objs.size
 noex:∀b o,X.base.get? b=some o->b∉X.ex
 exfs:∀b∈X.ex,b∉X.fs
 funs:X.s₀.heap.FunFrames X.base X.outer
 frf:∀b∈X.fs,X.H₀ b=none
structure ag (X:Cx) (pins:List (Addr × Obj)) (σ:List (Option V)) (H:Hp) (s:fv):Prop where
 ok:X.Ok
 os:s.os=X.s₀.os
 bare:AllBare s.gens
 base:Un X.fs X.ex X.H₀ H X.s₀.heap s.heap
 loc:∃m,s.heap.Ns X.env.locals m/\∀(i:Nat) (x:Str) (v:V),X.N[i]? = some x->σ[i]? = some (some v)->uc X.env.scope x->∃u,aP v u/\Vv X.env s.heap m x u
 cell:∀x c,X.env.cells.lookup x=some c->∃v,s.heap.IsCell c v
 free:H X.env.locals=none
 freeC:∀x c,X.env.cells.lookup x=some c->H c=none
 pin:∀p∈X.pn++pins,s.heap.get? p.1=some p.2/\H p.1=none/\p.1≠X.env.locals/\p.1∉X.fs/\∀v,p.2.data ≠ .cell v
 hok:bC X.prog X.w H s.heap
 len:σ.length=X.N.length
section
variable {X:Cx}{pins:List (Addr × Obj)}{σ:List (Option V)}{H H':Hp}{s:fv}{h':Heap}
def Cx.Ok.nofr(ok:X.Ok){b:Addr}{o:Obj}(e:X.base.get? b=some o):b∉X.fs:=λhb=>by
 have:=(ok.funs.mem hb).1;rw[e]at this;cases this
def ag.bs(I:ag X pins σ H s):∀b o,X.base.get? b=some o->s.heap.get? b=some o/\H b=none:=λb o e =>
 ⟨I.base.keep b o (I.ok.bs b o e).1 (I.ok.bs b o e).2 (I.ok.nofr e) (I.ok.noex b o e),I.base.free b o (I.ok.bs b o e).1 (I.ok.bs b o e).2 (I.ok.noex b o e)⟩
def ag.bk(I:ag X pins σ H s):∀b o,X.base.get? b=some o->s.heap.get? b=some o:=λb o e=>(I.bs b o e).1
def ag.mod(I:ag X pins σ H s):Mod X.K X.mg X.base:=I.ok.mod
def ag.kIn(I:ag X pins σ H s):X.K.In s.heap:=I.ok.mod.kin.keeps I.bk
def ag.lt(I:ag X pins σ H s):X.env.locals<s.heap.objs.size:=let ⟨_,hn,_⟩:=I.loc;hn.lt
def ag.sz(I:ag X pins σ H s):X.s₀.heap.objs.size<=s.heap.objs.size:=WP I.ok.above (YH I.lt)
def ag.nofs(I:ag X pins σ H s){a:Addr}(h:s.heap.objs.size<=a):a∉X.fs:=λhb=>by
 obtain⟨_,o,b,_⟩:=I.ok.funs.mem hb;exact ZR (WE (WD b) (WP I.sz h)) (Xb _)
def ag.cne(I:ag X pins σ H s):∀x c,X.env.cells.lookup x=some c->c≠X.env.locals:=λx c e z=>by
 obtain⟨v,o,d,hd⟩:=I.cell x c e;obtain⟨m,⟨f,es,g,a,b,_⟩,_⟩:=I.loc;rw[z,a]at d;cases d;rw[b]at hd;cases hd
def ag.funs(I:ag X pins σ H s):s.heap.FunFrames X.base X.outer:=by
 have all:∀(l:List Env),(∀b∈cJ l,b∈X.fs)->X.s₀.heap.FunFrames X.base l->s.heap.FunFrames X.base l:=by
  intro l
  induction l with
  | nil=>intro _ _;trivial
  | cons env r ih =>
   intro hs d;obtain⟨f,⟨L,o,a,c,g,hd⟩,h⟩:=d;have hL:L∈X.fs:=hs L (by unfold cJ;rw[Yn,a];exact W3);obtain⟨i,e⟩:=I.base.slot L o g (I.ok.frf L hL) hL λz=>I.ok.exfs L z hL;exact⟨f,⟨L,_,a,c,e,hd⟩,ih (λb hb=>hs b (by unfold cJ;rw[Yn,a];exact W4 _ hb)) h⟩
 exact all X.outer (λ_ hb=>hb) I.ok.funs
def ag.stack(I:ag X pins σ H s):s.heap.FunFrames X.base X.stack:=by
 rcases I.ok.stk with e|⟨e,hf⟩
 ·rw[e];exact I.funs
 ·rw[e];obtain⟨m,a,_⟩:=I.loc;refine .cons (by rw[I.ok.kind];decide) hf a ?_ I.funs;exact X3 (WP I.ok.bsz I.ok.above)
def ag.stkSub(I:ag X pins σ H s):∀b∈cJ X.stack,b∈X.env.locals::X.fs:=λb hb=>by
 rcases I.ok.stk with e|⟨e,hf⟩
 ·rw[e]at hb;exact W4 _ hb
 ·rw[e]at hb;unfold cJ at hb;rw[Yn,hf]at hb;exact hb
def ag.stkFree(I:ag X pins σ H s):∀b∈cJ X.stack,H b=none:=λb hb=>by
 rcases WU.mp (I.stkSub b hb) with e|hb
 ·rw[e];exact I.free
 ·obtain⟨_,o,a,_⟩:=I.ok.funs.mem hb;exact I.base.free b o a (I.ok.frf b hb) λz=>I.ok.exfs b z hb
def ag.step{g':Array GenState}{t':Nat}{d':Drawn}{ch:List Addr}(I:ag X pins σ H s)
 (f:∀b∈ch,(b∈X.ex\/X.s₀.heap.objs.size<=b)/\b≠X.env.locals/\(∀x c,X.env.cells.lookup x=some c->c≠b)/\∀p∈X.pn++pins,p.1≠b)
 (keep:∀b o,b≠X.env.locals->b∉X.fs->b∉ch->s.heap.get? b=some o->H b=none->h'.get? b=some o)
 (slot:∀b o,b≠X.env.locals->b∈X.fs->b∉ch->s.heap.get? b=some o->H b=none->∃C,h'.get? b=some { o with slots:=C }) (free:∀b o,b∉ch->s.heap.get? b=some o->H b=none->H' b=none)
 (there:∀b o,b∉ch->s.heap.get? b=some o->∃j,h'.get? b=some j)
 (tups:∀b xs,H b=some (.tup xs)->H' b=some (.tup xs)) (frzs:∀b o u,H b=some (.frz o u)->H' b=some (.frz o u)) (tbls:∀b ps,H b=some (.tbl ps)->∃more,H' b=some (.tbl (ps++more)))
 (ns:∀m,s.heap.Ns X.env.locals m->h'.Ns X.env.locals m) (hok:bC X.prog X.w H' h') (N:AllBare g') :
 ag X pins σ H' { s with heap:=h',gens:=g',drawn:=d',toks:=t' }:=by
 have neL:∀b o,X.s₀.heap.get? b=some o->b≠X.env.locals:=λb o e=>WL (WE (WD e) I.ok.above);have neC:∀b o,X.s₀.heap.get? b=some o->b∉X.ex->b∉ch:=λb o e hx hb=>by
  rcases (f b hb).1 with z|z
  ·exact hx z
  ·exact ZR (WE (WD e) z) (Xb _)
 have cellK:∀x c,X.env.cells.lookup x=some c->∀v,s.heap.IsCell c v->h'.IsCell c v:=λx c e v ⟨o,h,hd⟩=>by
  have a:c∉ch:=λz=>(f c z).2.2.1 x c e rfl;by_cases hc:c∈X.fs
  ·obtain⟨C,q⟩:=slot c o (I.cne x c e) hc a h (I.freeC x c e);exact⟨_,q,hd⟩
  ·exact⟨o,keep c o (I.cne x c e) hc a h (I.freeC x c e),hd⟩
 refine⟨I.ok,I.os,N,⟨λb o e n hb hx=>?_,λb o e n hb hx=>?_,λb o e n hx=>?_,λb o e hx=>?_,λb xs e=>tups b xs (I.base.tups b xs e),λb o xs e=>frzs b o xs (I.base.frzs b o xs e),λb ps e=>?_⟩,?_,λx c e=>?_,?_,λx c e=>?_,λp D=>?_,hok,I.len⟩
 ·exact keep b o (neL b o e) hb (neC b o e hx) (I.base.keep b o e n hb hx) (I.base.free b o e n hx)
 ·obtain⟨C,g⟩:=I.base.slot b o e n hb hx;obtain⟨B,y⟩:=slot b _ (neL b o e) hb (neC b o e hx) g (I.base.free b o e n hx);exact⟨B,y⟩
 ·obtain⟨j,g⟩:=I.base.there b o e hx;exact free b j (neC b o e hx) g (I.base.free b o e n hx)
 ·obtain⟨j,g⟩:=I.base.there b o e hx;exact there b j (neC b o e hx) g
 ·obtain⟨O,g⟩:=I.base.tbls b ps e;obtain⟨M,y⟩:=tbls b _ g;exact⟨O++M,by rw[y,Array.append_assoc]⟩
 ·obtain⟨m,G,J⟩:=I.loc;refine⟨m,ns m G,λi x v g y L=>?_⟩;obtain⟨u,r,l⟩:=J i x v g y L;refine⟨u,r,?_⟩;rcases l with l|⟨k,c,e,z⟩
  ·exact .inl l
  ·exact .inr ⟨k,c,e,cellK x c e _ z⟩
 ·obtain⟨v,z⟩:=I.cell x c e;exact⟨v,cellK x c e v z⟩
 ·obtain⟨m,⟨o,_,_,h,_⟩,_⟩:=I.loc;exact free _ o (λz=>(f _ z).2.1 Z) h I.free
 ·obtain⟨v,o,h,hd⟩:=I.cell x c e;exact free c o (λz=>(f c z).2.2.1 x c e Z) h (I.freeC x c e)
 ·obtain⟨e,n,ne,F,d⟩:=I.pin p D;have a:p.1∉ch:=λz=>(f p.1 z).2.2.2 p D rfl;exact⟨keep p.1 p.2 ne F a e n,free p.1 p.2 a e n,ne,F,d⟩
def ag.un{t':Nat}(I:ag X pins σ H s)(u:Un X.fs [] H H' s.heap h')(hok:bC X.prog X.w H' h'):ag X pins σ H' { s with heap:=h',toks:=t' }:=by
 obtain⟨m,⟨o,es,j,f,r⟩,_⟩:=id I.loc;obtain⟨k,hL⟩:=u.any f I.free (by simp);exact I.step (g':=s.gens) (d':=s.drawn) (ch:=[]) (λ_ z=>nomatch z) (λb o _ hb _ e n=>u.keep b o e n hb (by simp)) (λb o _ hb _ e n=>u.slot b o e n hb (by simp)) (λb o _ e n=>u.free b o e n (by simp)) (λb o _ e=>u.there b o e (by simp)) u.tups u.frzs u.tbls (λl h=>by
  obtain⟨i,c,d,a,g⟩:=h;rw[f]at a;cases a;exact⟨_,c,d,hL,g⟩) hok I.bare
def ag.call{g':Array GenState}{t':Nat}{d':Drawn}{ch:List Addr}(I:ag X pins σ H s)(u:Un (cJ X.stack) ch H H' s.heap h')(hok:bC X.prog X.w H' h')(l:AllBare g')
 (f:∀b∈ch,(b∈X.ex\/X.s₀.heap.objs.size<=b)/\b≠X.env.locals/\(∀x c,X.env.cells.lookup x=some c->c≠b)/\∀p∈X.pn++pins,p.1≠b) :
 ag X pins σ H' { s with heap:=h',gens:=g',drawn:=d',toks:=t' }:=by
 obtain⟨m,⟨o,es,v,i,r⟩,_⟩:=id I.loc;obtain⟨y,hL⟩:=u.any i I.free λz=>(f _ z).2.1 rfl;exact I.step (ch:=ch) f (λb o hL hb a e n=>u.keep b o e n (λz=>(WU.mp (I.stkSub b z)).elim hL hb) a) (λb o _ _ a e n=>u.any e n a) (λb o a e n=>u.free b o e n a) (λb o a e=>u.there b o e a) u.tups u.frzs u.tbls (λB k=>by
  obtain⟨q,g,h,d,j⟩:=k;rw[i]at d;cases d;exact⟨_,g,h,hL,j⟩) hok l
def ag.turned{t':Nat}{it:Addr}(I:ag X pins σ H s)(k:∀b o,b≠it->s.heap.get? b=some o->h'.get? b=some o)(g:H it=none)(hL:it≠X.env.locals)
 (j:it∈X.ex\/X.s₀.heap.objs.size<=it) (f:∀x c,X.env.cells.lookup x=some c->c≠it) (i:∀p∈X.pn++pins,p.1≠it):ag X pins σ H { s with heap:=h',toks:=t' }:=by
 have d:∀b u,H b=some u->b≠it:=λb u e z=>by rw[z,g]at e;cases e
 refine I.step (g':=s.gens) (d':=s.drawn) (ch:=[it]) (λb hb=>?_) (λb o _ _ a e _=>k b o (λz=>a (by simp[z])) e) (λb o _ _ a e _=>⟨o.slots,k b o (λz=>a (by simp[z])) e⟩) (λ_ _ _ _ n=>n)
  (λb o a e=>⟨o,k b o (λz=>a (by simp[z])) e⟩) (λ_ _ e=>e) (λ_ _ _ e=>e) (λb ps e=>⟨#[],by rw[e];simp⟩) (λm y=>?_) (λb u e=>?_) I.bare
 ·have e:b=it:=by simpa using hb
  subst e;exact⟨j,hL,f,i⟩
 ·obtain⟨o,es,h,l,r⟩:=y;exact⟨o,es,h,k _ o (Ne.symm hL) l,r⟩
 ·refine (I.hok b u e).stay (λc v a q=>k c v ?_ q) (λ_ q=>q) λ_ _ q=>q;rcases a with z|z
  ·rw[z];exact d b u e
  ·exact d c _ z
def ag.tok(I:ag X pins σ H s)(t:Nat):ag X pins σ H { s with toks:=t }:=I.un (h':=s.heap) (t':=t) Un.refl I.hok
def ag.kept{t':Nat}(I:ag X pins σ H s)(k:∀b u,s.heap.get? b=some u->h'.get? b=some u):ag X pins σ H { s with heap:=h',toks:=t' }:=I.un (Un.kept k) (I.hok.kept k)
def ag.laid{a:Addr}{o:HO}{t':Nat}(I:ag X pins σ H s)(k:∀b u,s.heap.get? b=some u->h'.get? b=some u)(c:s.heap.objs.size<=a)(new:bt X.prog X.w (upd H a o) h' a o) :
 ag X pins σ (upd H a o) { s with heap:=h',toks:=t' }:=I.un (Un.laid k c (I.hok.fresh c)) (I.hok.laid k c new)
def ag.write{x e:Addr}{o:HO}{t':Nat}(I:ag X pins σ H s)(d:qt (H x))(c:e=x\/H e=some (.own x))(k:∀b u,b≠e->s.heap.get? b=some u->h'.get? b=some u)(a:∃u,h'.get? e=some u)
 (new:bt X.prog X.w (upd H x o) h' x o):ag X pins σ (upd H x o) { s with heap:=h',toks:=t' }:=I.un (Un.write d c k a) (I.hok.write d c k a new)
def ag.pins_of{a:List (Addr × Obj)}(I:ag X pins σ H s)(h:∀p∈a,s.heap.get? p.1=some p.2/\H p.1=none/\p.1≠X.env.locals/\p.1∉X.fs/\∀v,p.2.data ≠ .cell v):ag X a σ H s :=
 ⟨I.ok,I.os,I.bare,I.base,I.loc,I.cell,I.free,I.freeC,λp b=>(WQ.mp b).elim (λz=>I.pin p (Xc _ z)) (h p),I.hok,I.len⟩
def xm{N:List Str}(hN:N.Nodup){i j:Nat}{x:Str}(a:N[i]? = some x)(b:N[j]? = some x):i=j:=by
 obtain⟨f,c⟩:=WF.mp a;obtain⟨e,d⟩:=WF.mp b;exact (List.getElem_inj hN).mp (c.trans d.symm)
def Ch{M:Model}{A:Around}{E:Value->fv->Prop}{i:Nat}{x:Str}{v:V}{u:Value}{Q:Unit->fv->Prop}(I:ag X pins σ H s)(hN:X.N.Nodup)(L:X.N[i]? = some x)(hx:kh X.env.scope x)(r:aP v u)
 (h:∀s',ag X pins (σ.set i (some v)) H s'->(∃a,Heap.SameBut a s.heap s'.heap/\(a=X.env.locals\/X.env.cells.lookup x=some a))->Q () s') (hf:X.fn x=true\/X.env.scope.names.lookup x=some .local:=by first|exact .inl rfl|exact .inr rfl|assumption):wpAny M A (storeName X.env x u) Q E s:=by
 obtain⟨m,W,hl⟩:=id I.loc;have F:(X.env.scope.kind == .class || (X.env.scope.kind == .module && X.env.locals != X.env.globals))=false:=by rw[I.ok.kind];rfl
 have J:i<σ.length:=by rw[I.len];exact (WF.mp L).1
 have cne:=I.cne;have g:∀ {a:Addr} {h':Heap},(∃o,s.heap.get? a=some o/\H a=none)->Heap.SameBut a s.heap h'->bC X.prog X.w H h':=λ{a h'} ha hs b ob e=>by
  obtain⟨_,_,B⟩:=ha;refine (I.hok b ob e).stay (λc S l q=>(hs.2 c ?_).trans q) (λ_ q=>q) λ_ _ q=>q;rintro rfl;rcases l with rfl|l
  ·rw[B]at e;cases e
  ·rw[B]at l;cases l
 rcases hx with hk|hk
 ·refine wpAny_storeName_local hk W (λh' a6 hs=>?_) F;obtain⟨oL,_,_,hoL,_⟩:=id W;refine h _ ⟨I.ok,I.os,I.bare,⟨λb o e n hb hx=>?_,λb o e n hb hx=>?_,I.base.free,λb o e hx=>?_,I.base.tups,I.base.frzs,I.base.tbls⟩,⟨_,a6,λj y Y f C e3=>?_⟩,λy c e=>?_,I.free,I.freeC,λp hp=>?_,g ⟨oL,hoL,I.free⟩ hs,by simpa using I.len⟩ ⟨_,hs,.inl rfl⟩
  ·exact (hs.2 b (WL (WE (WD e) I.ok.above))).trans (I.base.keep b o e n hb hx)
  ·obtain⟨sl,f⟩:=I.base.slot b o e n hb hx;exact⟨sl,(hs.2 b (WL (WE (WD e) I.ok.above))).trans f⟩
  ·obtain⟨o',f⟩:=I.base.there b o e hx;exact⟨o',(hs.2 b (WL (WE (WD e) I.ok.above))).trans f⟩
  ·by_cases hj:j=i
   ·subst hj;rw[L]at f;cases f;rw[Yo J]at C;cases C;exact⟨u,r,.inl ⟨hk,by simp⟩⟩
   ·rw[Yp (Ne.symm hj)]at C;obtain⟨u',U,q⟩:=hl j y Y f C e3;refine⟨u',U,?_⟩;rcases q with ⟨k,e⟩|⟨k,c,e,z⟩
    ·refine .inl ⟨k,?_⟩;have:y≠x:=λe=>hj (xm hN f (e ▸ L));simp[this,e]
    ·exact .inr ⟨k,c,e,z.sameBut hs (cne y c e)⟩
  ·obtain⟨S,z⟩:=I.cell y c e;exact⟨S,z.sameBut hs (cne y c e)⟩
  ·obtain⟨e,n,ne,nf,d⟩:=I.pin p hp;exact⟨(hs.2 p.1 ne).trans e,n,ne,nf,d⟩
 ·have D:X.fn x=true:=by
   rcases hf with z|z
   ·exact z
   ·rw[z]at hk;cases hk
  obtain⟨c,l⟩:=I.ok.has x (.inl hk);obtain⟨S,z⟩:=I.cell x c l;refine wpAny_storeName_cell I.ok.kind hk l z (λh' G hs=>?_);obtain⟨oc,R,O⟩:=id z;refine h { s with heap:=h' } ⟨I.ok,I.os,I.bare,⟨λb o e n hb hx=>?_,λb o e n hb hx=>?_,I.base.free,λb o e hx=>?_,I.base.tups,I.base.frzs,I.base.tbls⟩,⟨m,W.sameBut hs (Ne.symm (cne x c l)),λj y Y f C e3=>?_⟩,λy c' e=>?_,I.free,I.freeC,λp hp=>?_,g ⟨oc,R,I.freeC x c l⟩ hs,by simpa using I.len⟩ ⟨c,hs,.inr l⟩
  ·exact (hs.2 b (WL (WE (WD e) (I.ok.cab x c D l)))).trans (I.base.keep b o e n hb hx)
  ·obtain⟨sl,f⟩:=I.base.slot b o e n hb hx;exact⟨sl,(hs.2 b (WL (WE (WD e) (I.ok.cab x c D l)))).trans f⟩
  ·obtain⟨o',f⟩:=I.base.there b o e hx;exact⟨o',(hs.2 b (WL (WE (WD e) (I.ok.cab x c D l)))).trans f⟩
  ·by_cases hj:j=i
   ·subst hj;rw[L]at f;cases f;rw[Yo J]at C;cases C;exact⟨u,r,.inr ⟨.inl hk,c,l,G⟩⟩
   ·rw[Yp (Ne.symm hj)]at C;obtain⟨u',U,q⟩:=hl j y Y f C e3;refine⟨u',U,?_⟩;rcases q with q|⟨k,c',e,z'⟩
    ·exact .inl q
    ·refine .inr ⟨k,c',e,z'.sameBut hs ?_⟩;rintro rfl;exact hj (xm hN f (I.ok.inj _ _ _ e l ▸ L))
  ·by_cases hcc:c'=c
   ·subst hcc;exact⟨_,G⟩
   ·obtain⟨w2,z2⟩:=I.cell y c' e;exact⟨w2,z2.sameBut hs hcc⟩
  ·obtain⟨e,n,ne,nf,d⟩:=I.pin p hp;refine⟨(hs.2 p.1 ?_).trans e,n,ne,nf,d⟩;intro q;rw[q,R]at e;have q':oc=p.2:=WZ e;exact d S (by rw[<- q'];exact O)
def qM{M:Model}{A:Around}{E:Value->fv->Prop}{i:Nat}{x:Str}{v:V}{u:Value}{Q:Unit->fv->Prop}(I:ag X pins σ H s)(hN:X.N.Nodup)(c:X.N[i]? = some x)(hx:kh X.env.scope x)(r:aP v u)
 (h:∀a,ag X pins (σ.set i (some v)) H a->Q () a) (d:X.fn x=true\/X.env.scope.names.lookup x=some .local:=by first|exact .inl rfl|exact .inr rfl|assumption):wpAny M A (storeName X.env x u) Q E s :=
 Ch I hN c hx r (λa b _=>h a b) d
def ag.call'{a:fv}{ch:List Addr}(I:ag X pins σ H s)(g:a.os=s.os)(u:Un (cJ X.stack) ch H H' s.heap a.heap)(hok:bC X.prog X.w H' a.heap)(h:AllBare a.gens)
 (d:∀b∈ch,(b∈X.ex\/X.s₀.heap.objs.size<=b)/\b≠X.env.locals/\(∀x c,X.env.cells.lookup x=some c->c≠b)/\∀p∈X.pn++pins,p.1≠b):ag X pins σ H' a:=by
 obtain⟨h',g',d',t',f⟩:=a;have e:f=s.os:=g;subst e;exact I.call (g':=g') (t':=t') (d':=d') u hok h d
end
abbrev XK:=Value->Option Addr->Hp->Prop
abbrev St:=List (Option V)
abbrev VK:=V->Hp->Prop
abbrev TE:=St->Hp->VK->Prop
abbrev TT:=St->Hp->(Bool->Hp->Prop)->Prop
abbrev TA:=St->Hp->(List V->Hp->Prop)->Prop
structure dZ where
 nx:St->Hp->Prop
 rt:VK
 bk:St->Hp->Prop:=λ_ _=>False
 ct:St->Hp->Prop:=λ_ _=>False
abbrev TS:=dZ->St->Hp->Prop
def EP(X:Cx)(a:List (Addr × Obj))(σ:St)(Q:VK)(u:Value)(b:fv):Prop:=∃v H',ag X a σ H' b/\aP v u/\Q v H'
def TP(X:Cx)(a:List (Addr × Obj))(σ:St)(Q:Bool->Hp->Prop)(b:Bool)(c:fv):Prop:=∃H',ag X a σ H' c/\Q b H'
def AP(X:Cx)(a:List (Addr × Obj))(σ:St)(Q:List V->Hp->Prop)(us:List Value)(b:fv):Prop:=∃vs H',ag X a σ H' b/\ay vs us/\Q vs H'
def SP(X:Cx)(a:List (Addr × Obj))(D:dZ)(f:Flow)(b:fv):Prop :=
 match f with
 | .next=>∃σ' H',ag X a σ' H' b/\D.nx σ' H'
 | .brk=>∃σ' H',ag X a σ' H' b/\D.bk σ' H'
 | .cont=>∃σ' H',ag X a σ' H' b/\D.ct σ' H'
 | .ret u=>∃v σ' H',ag X a σ' H' b/\aP v u/\D.rt v H'
def PE(X:Cx)(e:Expr)(t:TE):Prop :=
 ∀(a:List (Addr × Obj)) (s:fv) (σ:St) (H:Hp) (Q:VK),ag X a σ H s->t σ H Q->wpAny (model X.prog X.w) X.A (eval e X.env) (EP X a σ Q) X.xe s
def PT(X:Cx)(e:Expr)(t:TT):Prop :=
 ∀(a:List (Addr × Obj)) (s:fv) (σ:St) (H:Hp) (Q:Bool->Hp->Prop),ag X a σ H s->t σ H Q->wpAny (model X.prog X.w) X.A (isTrue e X.env (eval e X.env)) (TP X a σ Q) X.xe s
def PW(X:Cx)(e:Expr)(t:TT):Prop :=
 ∀(b:Sem Value) (a:List (Addr × Obj)) (s:fv) (σ:St) (H:Hp) (Q:Bool->Hp->Prop),ag X a σ H s->t σ H Q->wpAny (model X.prog X.w) X.A (isTrue e X.env b) (TP X a σ Q) X.xe s
def PW.pt{X:Cx}{e:Expr}{t:TT}(h:PW X e t):PT X e t:=h _
def PA(X:Cx)(es:List Expr)(t:TA):Prop :=
 ∀(pos:Pos) (a:List (Addr × Obj)) (s:fv) (σ:St) (H:Hp) (Q:List V->Hp->Prop),ag X a σ H s->t σ H Q->wpAny (model X.prog X.w) X.A (spliced (backTo pos (starEach es X.env))) (AP X a σ Q) X.xe s
def PS(X:Cx)(st:Stmt)(t:TS):Prop :=
 ∀(a:List (Addr × Obj)) (s:fv) (σ:St) (H:Hp) (D:dZ),ag X a σ H s->t D σ H->wpAny (model X.prog X.w) X.A (exec st X.env) (SP X a D) X.xe s
def gv(X:Cx)(st:List Stmt)(t:TS):Prop :=
 ∀(a:List (Addr × Obj)) (s:fv) (σ:St) (H:Hp) (D:dZ),ag X a σ H s->t D σ H->wpAny (model X.prog X.w) X.A (execs st X.env) (SP X a D) X.xe s
def aw{α:Type}{t:Sem α}{Q b:α->fv->Prop}{M:Model}{A:Around}{E:Value->fv->Prop}{s:fv}(h:wpAny M A t Q E s)(hQ:∀a s,Q a s->b a s):wpAny M A t b E s:=wpAny_mono h hQ λ_ _ x=>x
section
variable {X:Cx}
def Jl(i:Nat):TE:=λσ H Q=>∃v,σ[i]? = some (some v)/\Q v H
def tC(v:V):TE:=λ_ H Q=>Q v H
def Ni {i:Nat} {x:Str} {pos:Pos} (hN:X.N[i]? = some x) (j:uc X.env.scope x) (hd:(x == ("__debug__" : Str))=false:=by decide) (d:(x == ("__classdict__" : Str))=false:=by decide):PE X (.Name x pos) (Jl i):=by
 intro b s σ H Q I h;obtain⟨v,e,h⟩:=h;obtain⟨m,f,g⟩:=I.loc;obtain⟨u,r,l⟩:=g i x v hN e j;have a:EP X b σ Q u s:=⟨v,H,I,r,h⟩;rcases l with ⟨hk,hm⟩|⟨hk,c,hc,hcell⟩
 ·exact wpAny_Name (wpAny_loadName_local I.ok.kind hk f hm a) hd
 ·rcases hk with hk|hk
  ·exact wpAny_Name (wpAny_loadName_cell I.ok.kind hk hc hcell a) hd
  ·exact wpAny_Name (wpAny_loadName_free I.ok.kind hk hc hcell a d) hd
def rm{i j pos}:PE X (.Constant (.int i) j pos) (tC (.int i)):=λ_ _ _ H _ I h=>wpAny_Constant_int ⟨.int i,H,I.tok _,⟨_,rfl⟩,h⟩
def DI{b j pos}:PE X (.Constant (.bool b) j pos) (tC (.bl b)):=λ_ _ _ H _ I h=>Constant_bool ⟨.bl b,H,I,rfl,h⟩
def DF{j pos}:PE X (.Constant .none j pos) (tC .non):=λ_ _ _ H _ I h=>Constant_none ⟨.non,H,I,rfl,h⟩
def DE{x j pos}:PE X (.Constant (.str x) j pos) (tC (.str x)):=λ_ _ _ H _ I h=>Calls.Constant_str ⟨.str x,H,I.tok _,⟨_,rfl⟩,h⟩
def Gl(X:Cx)(x:Str):Prop:=X.env.kindOf x=some .globalImplicit
def kN{E:Value->fv->Prop}{a:List (Addr × Obj)}{s:fv}{σ:St}{H:Hp}{x:Str}{u:Value}{pos:Pos}{Q:Value->fv->Prop}(I:ag X a σ H s)(b:Gl X x)(c:X.mg x=some u)(h:Q u s)
 (hd:(x == ("__debug__" : Str))=false:=by decide):wpAny (model X.prog X.w) X.A (eval (.Name x pos) X.env) Q E s :=
 Calls.Name_function_global I.ok.kind b (Calls.loadGlobal_global (by rw[I.ok.glob];exact I.mod.glob.keeps I.bk) c h) hd
def jo{E:Value->fv->Prop}{a:List (Addr × Obj)}{s:fv}{σ:St}{H:Hp}{x:Str}{u:Value}{pos:Pos}{Q:Value->fv->Prop}(I:ag X a σ H s)(g:Gl X x)(f:X.mg x=none)(d:bootBuiltins x=some u)(h:Q u s)
 (c:x ≠ "__name__":=by decide) (hd:(x == ("__debug__" : Str))=false:=by decide):wpAny (model X.prog X.w) X.A (eval (.Name x pos) X.env) Q E s:=by
 obtain⟨i,e,b⟩:=I.mod.blt;exact Calls.Name_function_global I.ok.kind g (Calls.loadGlobal_builtin (by rw[I.ok.glob];exact I.mod.glob.keeps I.bk) f (by rw[I.ok.blt];exact e.keeps I.bk) ((b x c).trans d) h) hd
def DH {x:Str} {v:V} {u:Value} {pos:Pos} (a:Gl X x) (b:X.mg x=some u) (r:aP v u) (hd:(x == ("__debug__" : Str))=false:=by decide):PE X (.Name x pos) (tC v) :=
 λ_ _ _ H _ I h=>kN I a b ⟨v,H,I,r,h⟩ hd
def NG {x:Str} {v:V} {u:Value} {pos:Pos} (b:Gl X x) (d:X.mg x=none) (c:bootBuiltins x=some u) (r:aP v u) (a:x ≠ "__name__":=by decide) (hd:(x == ("__debug__" : Str))=false:=by decide):PE X (.Name x pos) (tC v) :=
 λ_ _ _ H _ I h=>jo I b d c ⟨v,H,I,r,h⟩ a hd
variable {a b:Expr}{ta tb:TE}{pos:Pos}
variable {tA tB':TT}{bv:List Expr}
def Cf(t u:TT):TT:=λσ H Q=>t σ H λc a=>if c=true then u σ a Q else Q false a
def B1(t u:TT):TT:=λσ H Q=>t σ H λc a=>if c=true then Q true a else u σ a Q
def B2(t:TT):TT:=λσ H Q=>t σ H λc a=>Q (!c) a
def Mz(d:PT X a tA):PW X (.BoolOp .And [a] pos) tA:=by
 intro f b s σ H Q I h;refine isTrue_and (aw (d b s σ H Q I h) λc s1 e=>?_);cases c with
 | true=>exact isTrue_and_nil e
 | false=>exact e
def Mw(d:PT X a tA):PW X (.BoolOp .Or [a] pos) tA:=by
 intro f b s σ H Q I h;refine isTrue_or (aw (d b s σ H Q I h) λc s1 e=>?_);cases c with
 | false=>exact isTrue_or_nil e
 | true=>exact e
def MA(i:PT X a tA)(hb:PW X (.BoolOp .And (b::bv) pos) tB'):PW X (.BoolOp .And (a::b::bv) pos) (Cf tA tB'):=by
 intro j d s σ H Q I h;refine isTrue_and (aw (i d s σ H _ I h) λc s1 ⟨e,f,g⟩=>?_);cases c with
 | true=>exact hb j d s1 σ e Q f g
 | false=>exact⟨e,f,g⟩
def Mx(i:PT X a tA)(hb:PW X (.BoolOp .Or (b::bv) pos) tB'):PW X (.BoolOp .Or (a::b::bv) pos) (B1 tA tB'):=by
 intro j d s σ H Q I h;refine isTrue_or (aw (i d s σ H _ I h) λc s1 ⟨e,f,g⟩=>?_);cases c with
 | true=>exact⟨e,f,g⟩
 | false=>exact hb j d s1 σ e Q f g
def ME(d:PT X a tA):PT X (.UnaryOp .Not a pos) (B2 tA):=by
 intro b s σ H Q I h;exact isTrue_not (d b s σ H (λc e=>Q (!c) e) I h)
def Nm{op}{t:TE}(h:PE X a t):PE X (.BoolOp op [a] pos) t:=λb s σ H Q I hw=>BoolOp_one (h b s σ H Q I hw)
def B7(t:TT)(b tb:TE):TE:=λσ H Q=>t σ H λc a=>if c=true then b σ a Q else tb σ a Q
def Nq{c:Expr}(k:PT X c tA)(j:PE X a ta)(hb:PE X b tb):PE X (.IfExp c a b pos) (B7 tA ta tb):=by
 intro e s σ H Q I h;refine wpAny_IfExp (aw (k e s σ H _ I h) λd s1 ⟨f,i,g⟩=>?_);cases d with
 | true=>exact j e s1 σ f Q i g
 | false=>exact hb e s1 σ f Q i g
end
def aE(K:W.Frag)(H:Hp)(a:Addr)(xs:List V):Prop :=
 Rd H a (.lst xs) \/
  ∃(o:Obj) (b:Array Value) (n:Nat),K.lookup a=some o/\o.cls=.type "list"/\o.dict=none/\o.data=.seq b n/\b.size<=sizeLine/\ay xs b.toList
def be(K:W.Frag)(H:Hp)(a:Addr)(xs:List V):Prop :=
 Rd H a (.tup xs) \/
  ∃(o:Obj) (b:Array Value) (n:Nat),K.lookup a=some o/\o.cls=.type "tuple"/\o.data=.seq b n/\b.size<=sizeLine/\ay xs b.toList
def Vp:Value->Option V
 | .none=>some .non
 | .bool b=>some (.bl b)
 | .int i _=>some (.int i)
 | .str x _=>some (.str x)
 | .bytes b _=>some (.byt b)
 | .float b _=>some (.flt b)
 | .ref a=>some (.ref a)
 | .type n=>some (.ty n)
 | _=>none
def aP.abs{x:V}{u:Value}(r:aP x u):Vp u=some x:=by
 cases x with
 | non=>cases r;rfl
 | bl _=>cases r;rfl
 | int _=>obtain⟨t,rfl⟩:=r;rfl
 | str _=>obtain⟨t,rfl⟩:=r;rfl
 | byt _=>obtain⟨t,rfl⟩:=r;rfl
 | flt _=>obtain⟨t,rfl⟩:=r;rfl
 | ref _=>cases r;rfl
 | ty _=>cases r;rfl
def aP.inj{x y:V}{u:Value}(r:aP x u)(q:aP y u):x=y:=WZ (r.abs.symm.trans q.abs)
theorem ay.inj:∀ {xs ys:List V} {us:List Value},ay xs us->ay ys us->xs=ys
 | _,_,_,.nil,.nil=>rfl
 | _,_,_,.cons r t,.cons r' t'=>by rw[r.inj r',ay.inj t t']
section
variable {X:Cx}{pins:List (Addr × Obj)}{σ:St}{H:Hp}{s:fv}{a:Addr}{xs ys:List V}
def aE.of{K:W.Frag}(h:H a=some (.lst xs)):aE K H a xs:=.inl (.inl h)
def be.of{K:W.Frag}(h:H a=some (.tup xs)):be K H a xs:=.inl (.inl h)
def ag.list(I:ag X pins σ H s)(h:aE X.K H a xs):∃b:List Value,ay xs b/\PlainL s.heap a b.toArray/\xs.length<=sizeLine:=by
 rcases h with h|⟨o,b,n,hk,hc,hd,hs,hz,r⟩
 ·obtain⟨z,b,n,r,e⟩:=h.ok I.hok;exact⟨b,r,⟨_,n,e,Z,Z,Z⟩,z⟩
 ·refine⟨b.toList,r,⟨o,n,I.kIn a o hk,hc,hd,by simpa using hs⟩,?_⟩;have e:=r.length;simp only [Yq]at e;omega
def ag.tuple(I:ag X pins σ H s)(h:be X.K H a xs):∃b:List Value,ay xs b/\IsTup s.heap a b.toArray/\xs.length<=sizeLine:=by
 rcases h with h|⟨o,b,n,hk,hc,hs,hz,r⟩
 ·obtain⟨z,b,r,p⟩:=h.ok I.hok;exact⟨b,r,p,z⟩
 ·refine⟨b.toList,r,⟨o,I.kIn a o hk,hc,n,by simpa using hs⟩,?_⟩;have e:=r.length;simp only [Yq]at e;omega
def ag.list_inj(I:ag X pins σ H s)(h:aE X.K H a xs)(h':aE X.K H a ys):xs=ys:=by
 obtain⟨b,r,⟨o,n,e,_,_,d⟩,_⟩:=I.list h;obtain⟨its',f,⟨g,i,c,_,_,d'⟩,_⟩:=I.list h';rw[e]at c;cases c;rw[d]at d'
 injection d' with d1 _
 have:b=its':=by simpa using congrArg Array.toList d1
 subst this;exact r.inj f
def ag.tuple_inj(I:ag X pins σ H s)(h:be X.K H a xs)(h':be X.K H a ys):xs=ys:=by
 obtain⟨b,r,⟨o,e,_,n,d⟩,_⟩:=I.tuple h;obtain⟨its',f,⟨g,c,_,i,d'⟩,_⟩:=I.tuple h';rw[e]at c;cases c;rw[d]at d'
 injection d' with d1 _
 have:b=its':=by simpa using congrArg Array.toList d1
 subst this;exact r.inj f
end
abbrev Cx.wish(X:Cx)(E:Value->fv->Prop):Cx:={ X with xe:=E }
abbrev Cx.nox(X:Cx):Cx:=X.wish λ_ _=>False
def Cx.Ok.wish{X:Cx}(ok:X.Ok)(E:Value->fv->Prop):(X.wish E).Ok :=
 ⟨ok.mod,ok.kind,ok.glob,ok.blt,ok.above,ok.inj,ok.has,ok.cab,ok.hd,ok.frames,ok.stk,ok.exf,ok.bs,ok.bsz,ok.noex,ok.exfs,ok.funs,ok.frf⟩
def Cx.Ok.unwish{X:Cx}{E:Value->fv->Prop}(ok:(X.wish E).Ok):X.Ok :=
 ⟨ok.mod,ok.kind,ok.glob,ok.blt,ok.above,ok.inj,ok.has,ok.cab,ok.hd,ok.frames,ok.stk,ok.exf,ok.bs,ok.bsz,ok.noex,ok.exfs,ok.funs,ok.frf⟩
section
variable {X:Cx}{pins:List (Addr × Obj)}{σ:St}{H:Hp}{s:fv}{E:Value->fv->Prop}
def ag.wish(I:ag X pins σ H s)(E:Value->fv->Prop):ag (X.wish E) pins σ H s:=⟨I.ok.wish E,I.os,I.bare,I.base,I.loc,I.cell,I.free,I.freeC,I.pin,I.hok,I.len⟩
def ag.unwish(I:ag (X.wish E) pins σ H s):ag X pins σ H s:=⟨I.ok.unwish,I.os,I.bare,I.base,I.loc,I.cell,I.free,I.freeC,I.pin,I.hok,I.len⟩
def SP.unwish{D:dZ}{f:Flow}{c:fv}(h:SP (X.wish E) pins D f c):SP X pins D f c:=by
 cases f with
 | next=>obtain⟨b,a,I,q⟩:=h;exact⟨b,a,I.unwish,q⟩
 | brk=>obtain⟨b,a,I,q⟩:=h;exact⟨b,a,I.unwish,q⟩
 | cont=>obtain⟨b,a,I,q⟩:=h;exact⟨b,a,I.unwish,q⟩
 | ret u=>obtain⟨v,b,a,I,r,q⟩:=h;exact⟨v,b,a,I.unwish,r,q⟩
def gv.nox{st:List Stmt}{t:TS}(h:gv X.nox st t):gv X st t:=λa s σ H D I hw =>
 wpAny_mono (h a s σ H D (I.wish _) hw) (λ_ _ q=>q.unwish) λ_ _ z=>False.elim z
end
section
variable {X:Cx}{st:Stmt}{bv:List Stmt}{t u:TS}{e:Expr}{te:TE}{pos:Pos}
def jI:TS:=λD σ H=>D.nx σ H
def mM(t u:TS):TS:=λD σ H=>t { D with nx:=u D } σ H
def MG:gv X [] jI:=λ_ _ σ H _ I h=>wpAny_execs_nil ⟨σ,H,I,h⟩
def MH(c:PS X st t)(b:gv X bv u):gv X (st::bv) (mM t u):=by
 intro a s σ H D I h;refine wpAny_execs_cons (aw (c a s σ H { D with nx:=u D } I h) λf s1 q=>?_);cases f with
 | next =>
  obtain⟨g,d,e,q⟩:=q;exact b a s1 g d D e q
 | ret v=>exact q
 | brk=>exact q
 | cont=>exact q
def MF(b:PS X st t):gv X [st] t:=by
 intro a s σ H D I h;refine wpAny_execs_cons (aw (b a s σ H D I h) λf s1 q=>?_);cases f with
 | next=>exact wpAny_execs_nil q
 | ret v=>exact q
 | brk=>exact q
 | cont=>exact q
def Cd:TS:=λD σ H=>D.bk σ H
def MT:PS X (.Break pos) Cd:=λ_ _ σ H _ I h=>wpAny_Break ⟨σ,H,I,h⟩
def ag.quiet{a:List (Addr × Obj)}{σ:St}{H:Hp}{s:fv}(I:ag X a σ H s):interactive X.env=false:=by simp[interactive,I.ok.kind]
def lK(b:TE):TS:=λD σ H=>b σ H λ_ a=>D.nx σ a
def MR(b:PE X e te)(hs:swapsWith e none pos.line X.env=pure false:=by rfl):PS X (.Expr e pos) (lK te):=by
 intro a s σ H D I h;exact wpAny_Expr_any (aw (b a s σ H _ I h) λv s1 ⟨x,c,f,g,d⟩=>⟨σ,c,f,d⟩) I.quiet hs
def BZ(a:TE):TS:=λD σ H=>a σ H D.rt
def ML(b:PE X e te):PS X (.Return (some e) pos) (BZ te):=by
 intro a s σ H D I h;exact wpAny_Return_some (aw (b a s σ H _ I h) λv s1 ⟨x,c,g,d,f⟩=>⟨x,σ,c,g,d,f⟩)
def iq(c:TT)(t u:TS):TS:=λD σ H=>c σ H λb a=>if b=true then t D σ a else u D σ a
def MN{c:Expr}{a b:List Stmt}{i:TT}(l:PT X c i)(k:gv X a t)(hb:gv X b u):PS X (.If c a b pos) (iq i t u):=by
 intro e s σ H D I h;refine wpAny_If (aw (l e s σ H _ I h) λd s1 ⟨f,j,g⟩=>?_);cases d with
 | true=>exact k e s1 σ f D j g
 | false=>exact hb e s1 σ f D j g
def B4:TS:=λ_ _ _=>False
def MM:PS X st B4:=λ_ _ _ _ _ _ h=>h.elim
end
abbrev TG:=V->St->Hp->(St->Hp->Prop)->Prop
abbrev i8:=List V->St->Hp->(St->Hp->Prop)->Prop
def PG(X:Cx)(a:Expr)(t:TG):Prop :=
 ∀(b:List (Addr × Obj)) (s:fv) (σ:St) (H:Hp) (v:V) (u:Value) (Q:St->Hp->Prop),ag X b σ H s->aP v u->t v σ H Q ->
  wpAny (model X.prog X.w) X.A (assign a X.env u) (λ_ c=>∃σ' H',ag X b σ' H' c/\Q σ' H') X.xe s
def qr(X:Cx)(b:List Expr)(t:i8):Prop :=
 ∀(a:List (Addr × Obj)) (s:fv) (σ:St) (H:Hp) (vs:List V) (us:List Value) (Q:St->Hp->Prop),ag X a σ H s->ay vs us->t vs σ H Q ->
  wpAny (model X.prog X.w) X.A (assignInOrder ((assignEach b X.env).map (·.2)) us) (λ_ c=>∃σ' H',ag X a σ' H' c/\Q σ' H') X.xe s
section
variable {X:Cx}{pos:Pos}
def cO(i:Nat):TG:=λv σ H Q=>Q (σ.set i (some v)) H
def Nh{i:Nat}{x:Str}(hN:X.N.Nodup)(b:X.N[i]? = some x)(hx:kh X.env.scope x)(c:X.fn x=true\/X.env.scope.names.lookup x=some .local:=by first|exact .inl rfl|exact .inr rfl|assumption):PG X (.Name x pos) (cO i):=by
 intro a s σ H v u Q I r h;exact wpAny_assign_Name (qM I hN b hx r (λe d=>⟨_,H,d,h⟩) c)
def pv:i8:=λvs σ H Q=>vs=[]/\Q σ H
def jX(t:TG)(u:i8):i8:=λvs σ H Q=>∃v r,vs=v::r/\t v σ H λb a=>u r b a Q
def Nd:qr X [] pv:=by
 intro a s σ H vs us Q I r h;obtain⟨e,h⟩:=h;subst e;cases r;exact assignInOrder_nil ⟨σ,H,I,h⟩
def Nf{e:Expr}{es:List Expr}{t:TG}{u:i8}(d:PG X e t)(b:qr X es u)
 (hs:(assignEach (e::es) X.env).map (·.2)=assign e X.env::(assignEach es X.env).map (·.2):=by rfl):qr X (e::es) (jX t u):=by
 intro a s σ H vs us Q I r h;obtain⟨v,k,g,h⟩:=h;subst g;cases r with
 | cons r rr =>
  rw[hs];refine assignInOrder_cons (aw (d a s σ H _ _ _ I r h) λ_ s1 ⟨i,c,j,f⟩=>?_);exact b a s1 i c _ _ Q j rr f
def ml(K:W.Frag)(n:Nat)(t:i8):TG:=λv σ H Q=>∃a xs,v=.ref a/\be K H a xs/\xs.length=n/\t xs σ H Q
def Ng{es:List Expr}{k:Nat}{t:i8}{n:Nat}(l:X.calm=true)(h:qr X es t)
 (g:(assignEach es X.env).length=n:=by rfl) (d:(assignEach es X.env).findIdx? (·.1)=none:=by rfl):PG X (.Tuple es k pos) (ml X.K n t):=by
 intro c s σ H v u Q I r hw;obtain⟨a,xs,p,hq,i,hw⟩:=hw;subst p;cases r;obtain⟨m,f,j,hz⟩:=I.tuple hq;refine assign_Tuple_tuple (I.ok.hd l) j (by simp[g,<- i,f.length]) d λh' hx=>?_;have q:ag X c σ H { s with heap:=h' }:=I.kept (t':=s.toks) λb o e=>hx b o (WL (WD e)) e;exact h c _ σ H xs _ Q q (by simpa using f) hw
def qL(b:TE)(g:TG):TS:=λD σ H=>b σ H λx a=>g x σ a D.nx
def MK{i:Nat}{x:Str}{e:Expr}{c:TE}{a:Pos}(hN:X.N.Nodup)(d:X.N[i]? = some x)(hx:kh X.env.scope x)(f:PE X e c)(hs:swapsWith e (some (.Name x a)) pos.line X.env=pure false:=by rfl)(k:X.fn x=true\/X.env.scope.names.lookup x=some .local:=by first|exact .inl rfl|exact .inr rfl|assumption) :
 PS X (.Assign [.Name x a] e pos) (qL c (cO i)):=by
 intro b s σ H D I h;refine wpAny_Assign_Name (aw (f b s σ H _ I h) λv s1 ⟨y,j,n,g,m⟩=>?_) hs;exact qM n hN d hx g (λo l=>⟨_,j,l,m⟩) k
end
section
variable {X:Cx}{pos:Pos}
def BU(c:TT)(tb:TS):TS:=λD σ H=>∃W:Nat->St->Hp->Prop,(∃m,W m σ H)/\∀m σ H,W m σ H ->
 c σ H λb a=>if b=true then ∃N:St->Hp->Prop,(∀σ' H',N σ' H'->∃m',m'<m/\W m' σ' H')/\tb { D with nx:=N,ct:=N,bk:=D.nx } σ a else D.nx σ a
def MI{c:Expr}{body:List Stmt}{z:TT}{tb:TS}(r:PassesOwn (model X.prog X.w) X.A X.env X.xe)(G:PT X c z)(hb:gv X body tb):PS X (.While c body [] pos) (BU z tb):=by
 intro a s σ H D I h;obtain⟨W,⟨L,B⟩,d⟩:=h;refine wpAny_While (codeAny_whileLoop (λn M=>∃σ' H',ag X a σ' H' M/\W n σ' H') ?_ L ⟨σ,H,I,B⟩);rintro n s1 ⟨k,u,F,C⟩;refine wpAny_passesOwn r (aw (G a s1 k u _ F (d n k u C)) λb J ⟨y,x,i⟩=>?_);cases b with
 | true =>
  obtain⟨N,hN,i⟩:=i;rw[ZQ rfl];refine wpAny_passesOwn r (aw (hb a J k y _ x i) λf O j=>?_);cases f with
  | next =>
   obtain⟨e,g,m,q⟩:=j;obtain⟨p,o,l⟩:=hN e g q;exact⟨p,o,e,g,m,l⟩
  | cont =>
   obtain⟨e,g,m,q⟩:=j;obtain⟨p,o,l⟩:=hN e g q;exact⟨p,o,e,g,m,l⟩
  | brk=>exact j
  | ret v=>exact j
 | false =>
  rw[ZP WR];exact wpAny_execs_nil ⟨k,y,x,i⟩
end
structure It where
 go:Nat->Hp->Prop
 yld:Nat->Hp->V->Hp->Prop
 stop:Nat->Hp->Prop
def gT(X:Cx)(a:List (Addr × Obj))(H:Hp)(b:Addr):Prop :=
 H b=none/\b≠X.env.locals/\b∉X.fs/\(b∈X.ex\/X.s₀.heap.objs.size<=b)/\(∀x c,X.env.cells.lookup x=some c->c≠b)/\∀p∈X.pn++a,p.1≠b
def ag.fpOk{X:Cx}{a:List (Addr × Obj)}{σ:St}{H d:Hp}{s:fv}{b:Addr}(I:ag X a σ H s)(hb:s.heap.objs.size<=b)(f:d b=none):gT X a d b:=by
 refine⟨f,X7 (WE I.lt hb),I.nofs hb,.inr (WP I.sz hb),λx c e z=>?_,λp g z=>?_⟩
 ·obtain⟨v,q⟩:=I.cell x c e;exact ZR (WE q.lt (by rw[z];exact hb)) (Xb _)
 ·exact ZR (WE (WD (I.pin p g).1) (by rw[z];exact hb)) (Xb _)
structure lA (P:Program) (w:World) (K:W.Frag) (tg:Expr) (J:It) (fp:List Addr) (it:Addr) (tn:Nat->Heap->Prop):Prop where
 mem:it∈fp
 obj:∀i h,tn i h->∀b∈fp,∃o,h.get? b=some o/\∀v,o.data ≠ .cell v
 keep:∀i h h',tn i h->(∀b∈fp,∀o,h.get? b=some o->h'.get? b=some o)->tn i h'
 item:∀(X:Cx),X.prog=P->X.w=w->X.K=K->X.calm=true->∀(i:Nat) (pins:List (Addr × Obj)) (s:fv) (σ:St) (H:Hp) (E:Value->fv->Prop),ag X pins σ H s->(∀b∈fp,gT X pins H b)->tn i s.heap->J.go i H ->
  wpAny (model P w) X.A (pyNext (.ref it)) (λr s1=>∃u,r=some u /\
   wpAny (model P w) X.A (letOwnedTupleGo tg (.ref it) u) (λ_ s2=>∃x H',ag X pins σ H' s2/\aP x u/\J.yld i H x H'/\tn (i+1) s2.heap/\∀b∈fp,H' b=none) E s1) E s
 done:∀(X:Cx),X.prog=P->X.w=w->X.K=K->X.calm=true->∀(i:Nat) (pins:List (Addr × Obj)) (s:fv) (σ:St) (H:Hp) (E:Value->fv->Prop),ag X pins σ H s->(∀b∈fp,gT X pins H b)->tn i s.heap->J.stop i H ->
  wpAny (model P w) X.A (pyNext (.ref it)) (λr s1=>r=none/\ag X pins σ H s1) E s
 self:∀(A:Around) (i:Nat) (s:fv) (Q:Value->fv->Prop) (E:Value->fv->Prop),tn i s.heap->Q (.ref it) s->wpAny (model P w) A (pyIter (.ref it)) Q E s
abbrev TI:=St->Hp->(It->Hp->Prop)->Prop
def GV(X:Cx)(a:List (Addr × Obj))(σ:St)(f:Expr)(R:It->Hp->Prop)(c:Value)(e:fv):Prop :=
 ∃(it:Addr) (fp:List Addr) (tn:Nat->Heap->Prop) (J:It) (d:Hp),c=.ref it/\ag X a σ d e/\lA X.prog X.w X.K f J fp it tn/\tn 0 e.heap/\(∀b∈fp,gT X a d b)/\R J d
def PI(X:Cx)(d b:Expr)(c:TI):Prop :=
 ∀(a:List (Addr × Obj)) (s:fv) (σ:St) (H:Hp) (R:It->Hp->Prop),ag X a σ H s->c σ H R ->
  wpAny (model X.prog X.w) X.A (eval b X.env) (λv s1=>wpAny (model X.prog X.w) X.A (pyIter v) (GV X a σ d R) X.xe s1) X.xe s
def rT{M:Model}{A:Around}{E:Value->fv->Prop}{s:fv}{a:Expr}{it:Addr}{u:Value}{o:Obj}{n:String}{vs:Array Value}{Q:Unit->fv->Prop}(c:s.heap.get? it=some o)(d:o.cls=.type n)(hd:o.data=.fields vs)
 (b:["enumerate", "zip", "dict_itemiterator", "dict_reverseitemiterator", "odict_iterator", "itertools.zip_longest", "itertools.pairwise"].contains n=false) (hQ:Q () s):wpAny M A (letOwnedTupleGo a (.ref it) u) Q E s:=by
 unfold letOwnedTupleGo;cases a<;>first
  | exact ZO hQ
  | (cases u<;>first
      | exact ZO hQ
      | (refine kb (wpAny_load c ?_)
         rw[d,hd];show wpAny M A (if (["enumerate", "zip", "dict_itemiterator", "dict_reverseitemiterator", "odict_iterator", "itertools.zip_longest", "itertools.pairwise"].contains n && vs[0]? == some (rawInt _))=true then _ else _) Q E s;rw[ZP (by intro h;rw[b,Bool.false_and]at h;cases h)];exact ZO hQ))
def il(K:W.Frag)(a:Addr):It :=
 ⟨λi H=>∃xs x,aE K H a xs/\xs[i]? = some x,λi H x b=>b=H/\∀xs,aE K H a xs->xs[i]? = some x,λi H=>∃xs,aE K H a xs/\xs.length<=i⟩
def qu(K:W.Frag)(a:Addr):It :=
 ⟨λi H=>∃xs x,be K H a xs/\xs[i]? = some x,λi H x b=>b=H/\∀xs,be K H a xs->xs[i]? = some x,λi H=>∃xs,be K H a xs/\xs.length<=i⟩
def ik(lo:Int)(n:Nat):It:=⟨λi _=>i<n,λi H x a=>a=H/\x=.int (lo+i),λi _=>n<=i⟩
def Jd{P:Program}{w:World}{K:W.Frag}{L:Expr}(a it:Addr):lA P w K L (il K a) [it] it (λi h=>h.IsListIter it a i) where
 mem:=by simp
 obj:=λi h st b hb=>by
  have e:b=it:=by simpa using hb
  subst e;obtain⟨o,e,c,d⟩:=st;exact⟨o,e,λv z=>by rw[d]at z;cases z⟩
 keep:=λi h h' st k=>st.at λo e=>k it (by simp) o e
 item:=by
  intro X hP hw hK D i f s σ H E I j st r;subst hP hw hK;obtain⟨xs,x,hq,hx⟩:=r;obtain⟨q,B,p,hz⟩:=I.list hq;obtain⟨u,F,G⟩:=B.get hx;obtain⟨m,y,N,C,n,l⟩:=j it (by simp);refine wpAny_pyNext_list_item st p.isList (x:=u) (by simpa using F) λh' g sb=>?_;have J:ag X f σ H { s with heap:=h' }:=I.turned (t':=s.toks) (λb o hb e=>(sb.2 b hb).trans e) m y C n l;obtain⟨o,e,c,d⟩:=id g;exact⟨u,rfl,rT (s:={ s with heap:=h' }) e c d (by decide) ⟨x,H,J,G,⟨rfl,λys O=>by rw[I.list_inj O hq];exact hx⟩,g,λb hb=>(j b hb).1⟩⟩
 done:=by
  intro X hP hw hK D i f s σ H E I j st r;subst hP hw hK;obtain⟨xs,hq,hx⟩:=r;obtain⟨q,B,p,hz⟩:=I.list hq;obtain⟨m,y,N,C,n,l⟩:=j it (by simp);have R:=B.length;exact wpAny_pyNext_list_end (I.ok.hd D) st p.isList (by simp;omega) λh' M=>⟨rfl,I.turned (t':=s.toks) (λb o hb e=>M b o hb e) m y C n l⟩
 self:=λ_ _ _ _ _ st h=>wpAny_pyIter_listiter st h
def Ja{P:Program}{w:World}{K:W.Frag}{L:Expr}(a it:Addr):lA P w K L (qu K a) [it] it (λi h=>h.IsTupleIter it a i) where
 mem:=by simp
 obj:=λi h st b hb=>by
  have e:b=it:=by simpa using hb
  subst e;obtain⟨o,e,c,d⟩:=st;exact⟨o,e,λv z=>by rw[d]at z;cases z⟩
 keep:=λi h h' st k=>st.at λo e=>k it (by simp) o e
 item:=by
  intro X hP hw hK D i f s σ H E I l st r;subst hP hw hK;obtain⟨xs,x,hq,hx⟩:=r;obtain⟨g,B,p,hz⟩:=I.tuple hq;obtain⟨u,F,G⟩:=B.get hx;obtain⟨n,y,N,C,q,m⟩:=l it (by simp);refine wpAny_pyNext_tuple_item st (show s.heap.IsTuple a g.toArray from p) (x:=u) (by simpa using F) λh' j sb=>?_;have J:ag X f σ H { s with heap:=h' }:=I.turned (t':=s.toks) (λb o hb e=>(sb.2 b hb).trans e) n y C q m;obtain⟨o,e,c,d⟩:=id j;exact⟨u,rfl,rT (s:={ s with heap:=h' }) e c d (by decide) ⟨x,H,J,G,⟨rfl,λys O=>by rw[I.tuple_inj O hq];exact hx⟩,j,λb hb=>(l b hb).1⟩⟩
 done:=by
  intro X hP hw hK D i f s σ H E I l st r;subst hP hw hK;obtain⟨xs,hq,hx⟩:=r;obtain⟨g,B,p,hz⟩:=I.tuple hq;obtain⟨n,y,N,C,q,m⟩:=l it (by simp);have R:=B.length;exact wpAny_pyNext_tuple_end (I.ok.hd D) st (show s.heap.IsTuple a g.toArray from p) (by simp;omega) λh' M=>⟨rfl,I.turned (t':=s.toks) (λb o hb e=>M b o hb e) n y C q m⟩
 self:=λ_ _ _ _ _ st h=>wpAny_pyIter_tupleiter st h
def Jc{P:Program}{w:World}{K:W.Frag}{D:Expr}(it:Addr)(lo:Int)(n:Nat):lA P w K D (ik lo n) [it] it (λi h=>IsRangeIter h it (lo+(i:Nat)*1) ((n:Int)-(i:Nat)) 1) where
 mem:=by simp
 obj:=λi h st b hb=>by
  have e:b=it:=by simpa using hb
  subst e;exact⟨_,st,λv z=>by
   have y:Data.fields _=Data.cell v:=z;cases y⟩
 keep:=λi h h' st k=>k it (by simp) _ st
 item:=by
  intro X hP hw hK g i a s σ H E I d st q;subst hP hw hK;obtain⟨j,l,C,p,m,f⟩:=d it (by simp);have W:=Walks.range (prog:=X.prog) (w:=X.w) (I.ok.hd g) it lo 1 n;refine W.item i s _ _ q st λv h' r B c u=>?_;obtain⟨t,rfl⟩:=B;have F:ag X a σ H { s with heap:=h',toks:=r }:=I.turned (λb o hb e=>u b o (by simpa using hb) e) j l p m f;refine⟨_,rfl,rT (s:={ s with heap:=h',toks:=r }) (n := "range_iterator") c rfl rfl (by decide) ⟨.int (lo+i),H,F,⟨t,?_⟩,⟨rfl,rfl⟩,c,λb hb=>(d b hb).1⟩⟩;rw[Int.mul_one]
 done:=by
  intro X hP hw hK g i a s σ H E I d st q;subst hP hw hK;obtain⟨j,l,C,p,m,f⟩:=d it (by simp);exact wpAny_pyNext_range_end (I.ok.hd g) st (by have:n<=i:=q;omega) λh' x=>⟨rfl,I.turned (t':=s.toks) (λb o hb e=>x b o hb e) j l p m f⟩
 self:=λ_ _ _ _ _ st h=>wpAny_pyIter_rangeiter st h
section
variable {X:Cx}{tg:Expr}
def xH(K:W.Frag)(c:TE):TI:=λσ H R=>c σ H λx b=>∃a,x=.ref a/\(∃xs,aE K b a xs)/\R (il K a) b
def xG(K:W.Frag)(c:TE):TI:=λσ H R=>c σ H λx b=>∃a,x=.ref a/\(∃xs,be K b a xs)/\R (qu K a) b
def Na{l:Expr}{f:TE}(j:PE X l f):PI X tg l (xH X.K f):=by
 intro c s σ H R I h;refine aw (j c s σ H _ I h) λv s1 ⟨x,i,d,g,k⟩=>?_;obtain⟨a,e,⟨xs,hq⟩,q⟩:=k;subst e;cases g;obtain⟨m,n,p,hz⟩:=d.list hq;refine wpAny_pyIter_list p.isList ?_;refine⟨s1.heap.objs.size,[s1.heap.objs.size],_,_,i,Z,d.kept (t':=s1.toks) λb o e=>WG _ e,Jd a _,⟨_,W5 _ Z,Z,Z⟩,λb hb=>?_,q⟩;have e:b=s1.heap.objs.size:=by simpa using hb
 subst e;exact d.fpOk (WB _) (d.hok.fresh (WB _))
def M6{l:Expr}{g:TE}(k:PE X l g):PI X tg l (xG X.K g):=by
 intro c s σ H R I h;refine aw (k c s σ H _ I h) λv s1 ⟨x,j,d,i,m⟩=>?_;obtain⟨a,e,⟨xs,hq⟩,q⟩:=m;subst e;cases i;obtain⟨f,n,p,hz⟩:=d.tuple hq;refine wpAny_pyIter_tuple (show s1.heap.IsTuple a f.toArray from p) ?_;refine⟨s1.heap.objs.size,[s1.heap.objs.size],_,_,j,Z,d.kept (t':=s1.toks) λb o e=>WG _ e,Ja a _,⟨_,W5 _ Z,Z,Z⟩,λb hb=>?_,q⟩;have e:b=s1.heap.objs.size:=by simpa using hb
 subst e;exact d.fpOk (WB _) (d.hok.fresh (WB _))
def Dp{c:List (Addr × Obj)}{σ:St}{H:Hp}{s:fv}{R:It->Hp->Prop}{E:Value->fv->Prop}{lo a:Int}{t u v:Tok}{f:Nat}(I:ag X c σ H s)(j : -(2 ^ 62)<=lo)(h:lo<2 ^ 62)(i : -(2 ^ 62)<=a)(g:a<2 ^ 62)
 (q:R (ik lo (a-lo).toNat) H):wpAny (model X.prog X.w) X.A (pyIter (.ref s.heap.objs.size)) (GV X c σ tg R) E { s with heap:=s.heap.push { cls:=.type "range",data:=.fields #[.int lo t,.int a u,.int 1 v] },toks:=f }:=by
 refine wpAny_pyIter_range (IsRange.new ..) (small_one j h i g) ?_;have d:ag X c σ H { s with heap:=s.heap.push { cls:=.type "range",data:=.fields #[.int lo t,.int a u,.int 1 v] },toks:=f }:=I.kept λb o e=>WG _ e;refine⟨(s.heap.push { cls:=.type "range",data:=.fields #[.int lo t,.int a u,.int 1 v] }).objs.size,[(s.heap.push { cls:=.type "range",data:=.fields #[.int lo t,.int a u,.int 1 v] }).objs.size],_,_,H,Z,
  d.kept (t':=f) λb o e=>WG _ e,Jc _ lo (a-lo).toNat,?_,λb hb=>?_,q⟩
 ·have l:lo+((0:Nat):Int)*1=lo:=by simp
  have k:(((a-lo).toNat:Nat):Int)-((0:Nat):Int)=Builtin.Range.rangeSize lo a 1:=by rw[rangeSize_one];split<;>omega
  show IsRangeIter _ _ (lo+((0:Nat):Int)*1) ((((a-lo).toNat:Nat):Int)-((0:Nat):Int)) 1;rw[l,k];exact W5 _ Z
 ·have e:b=(s.heap.push { cls:=.type "range",data:=.fields #[.int lo t,.int a u,.int 1 v] }).objs.size:=by simpa using hb
  subst e;exact d.fpOk (WB _) (d.hok.fresh (WB _))
def ET(b:TA):TI:=λσ H R=>b σ H λvs a=>∃j:Int,vs=[.int j]/\-(2 ^ 62)<=j/\j<2 ^ 62/\R (ik 0 j.toNat) a
def ES(b:TA):TI:=λσ H R=>b σ H λvs a=>∃i j:Int,vs=[.int i,.int j]/\(-(2 ^ 62)<=i/\i<2 ^ 62/\-(2 ^ 62)<=j/\j<2 ^ 62)/\R (ik i (j-i).toNat) a
def M9 {a:Expr} {d:TA} {p pos:Pos} (m:Gl X "range") (i:X.mg "range" = none) (f:PA X [a] d) (hs:starEach [a] X.env=[(false,eval a X.env)]:=by rfl):PI X tg (.Call (.Name "range" p) [a] [] pos) (ET d):=by
 intro b s σ H R I h;refine Call_ (jo I m i boot_range (Xy (aw (f pos b s σ H _ I h) λus s1 ⟨vs,n,l,g,c⟩=>?_) hs Z));obtain⟨j,e,c,k,q⟩:=c;subst e;cases g with
 | cons r rr =>
  cases rr;obtain⟨t,rfl⟩:=r;exact call_range_1 (Dp l (by omega) (by omega) c k (by simpa using q))
def M8 {a b:Expr} {g:TA} {p pos:Pos} (x:Gl X "range") (o:X.mg "range" = none) (k:PA X [a,b] g) (hs:starEach [a,b] X.env=[(false,eval a X.env),(false,eval b X.env)]:=by rfl) (c:starEach [b] X.env=[(false,eval b X.env)]:=by rfl) :
 PI X tg (.Call (.Name "range" p) [a,b] [] pos) (ES g):=by
 intro d s σ H R I h;refine Call_ (jo I x o boot_range (Xy (aw (k pos d s σ H _ I h) λus s1 ⟨vs,y,v,l,f⟩=>?_) (by rw[hs,c]) (by rw[c];rfl)));obtain⟨i,j,e,⟨f,u,m,n⟩,q⟩:=f;subst e;cases l with
 | cons r rr =>
  cases rr with
  | cons r' rr =>
   cases rr;obtain⟨t,rfl⟩:=r;obtain⟨t',rfl⟩:=r';exact call_range_2 (Dp v f u m n q)
def B8(a:TI)(g:TG)(tb:TS):TS:=λD σ H=>a σ H λJ b=>∃W:Nat->Nat->St->Hp->Prop,(∃m,W 0 m σ b)/\∀i m σ H,W i m σ H ->
 (J.stop i H/\D.nx σ H)\/(J.go i H/\∃N:St->Hp->Prop,(∀σ' H',N σ' H'->∃m',m'<m/\W (i+1) m' σ' H')/\∀x H',J.yld i H x H'->g x σ H' λc d=>tb { D with nx:=N,ct:=N,bk:=D.nx } c d)
def m8(fp:List Addr)(h:Heap):List (Addr × Obj):=fp.filterMap λb=>(h.get? b).map λo=>(b,o)
def rE{fp:List Addr}{h:Heap}{b:Addr}{o:Obj}(hb:b∈fp)(e:h.get? b=some o):(b,o)∈m8 fp h:=List.mem_filterMap.mpr ⟨b,hb,by rw[e];rfl⟩
def Of{fp:List Addr}{h:Heap}{p:Addr × Obj}(c:p∈m8 fp h):p.1∈fp/\h.get? p.1=some p.2:=by
 obtain⟨b,hb,e⟩:=List.mem_filterMap.mp c;cases q:h.get? b with
 | none=>rw[q]at e;cases e
 | some o =>
  rw[q]at e;have a:(b,o)=p:=WZ e;subst a;exact⟨hb,q⟩
def ag.pinned{a:List (Addr × Obj)}{σ:St}{H:Hp}{s:fv}{fp:List Addr}(I:ag X a σ H s)(f:∀b∈fp,gT X a H b)(g:∀b∈fp,∃o,s.heap.get? b=some o/\∀v,o.data ≠ .cell v):ag X (a++m8 fp s.heap) σ H s :=
 I.pins_of λp j=>(WQ.mp j).elim (λz=>I.pin p (W6 _ z)) λz=>by
  obtain⟨hb,e⟩:=Of z;obtain⟨h,i,k,_⟩:=f p.1 hb;obtain⟨o,c,d⟩:=g p.1 hb;rw[e]at c;cases c;exact⟨e,h,i,k,d⟩
def ag.unpinned{a pl:List (Addr × Obj)}{σ:St}{H:Hp}{s:fv}(I:ag X (a++pl) σ H s):ag X a σ H s:=I.pins_of λp b=>I.pin p (W6 _ (Xc _ b))
def MO{c:Expr}{body:List Stmt}{wi:TI}{g:TG}{tb:TS}{pos:Pos}(C:PassesOwn (model X.prog X.w) X.A X.env X.xe)(hc:X.calm=true)(hi:PI X tg c wi)(hg:PG X tg g)(hb:gv X body tb)
 (hs:∀x,foldedSetIterable c X.env x=pure x:=by intro _;rfl):PS X (.For tg c body [] pos) (B8 wi g tb):=by
 intro a s σ H D I h;refine wpAny_For (aw (hi a s σ H _ I h) λv s1 h1=>aw h1 λaB s2 h2=>?_) hs;obtain⟨it,fp,tn,J,H2,e,I2,T,V,f2,W,⟨m0,w0⟩,G⟩:=h2;subst e;have p:∀ {q:Hp},(∀b∈fp,q b=none)->∀b∈fp,gT X a q b:=λhn b hb=>⟨hn b hb,(f2 b hb).2⟩;refine codeAny_forLoop_any (λn s'=>∃i σ' q,ag X a σ' q s'/\tn i s'.heap/\(∀b∈fp,q b=none)/\W i n σ' q) ?_ m0 ⟨0,σ,H2,I2,V,λb hb=>(f2 b hb).1,w0⟩;rintro n s3 ⟨i,L,O,I3,M,F,w3⟩;rcases G i n L O w3 with ⟨stop,qn⟩|⟨go,N,hN,step⟩
 ·refine wpAny_passesOwn C (aw (T.done X Z Z Z hc i a s3 L O X.xe I3 (p F) M stop) λr s4 ⟨Y,I4⟩=>?_);subst Y;exact wpAny_execs_nil ⟨L,O,I4,qn⟩
 ·refine wpAny_passesOwn C (aw (T.item X Z Z Z hc i a s3 L O X.xe I3 (p F) M go) λr s4 ⟨u,Y,h4⟩=>?_);subst Y;refine wpAny_passesOwn C (aw h4 λ_ s5 ⟨x,H5,I5,r5,y5,z,U⟩=>?_);have S:=I5.pinned (p U) (T.obj _ _ z);refine wpAny_passesOwn C (aw (hg _ s5 L H5 x u _ S r5 (step x H5 y5)) λ_ s6 ⟨σ6,H6,I6,q6⟩=>?_);refine wpAny_passesOwn C (aw (hb _ s6 σ6 H6 _ I6 q6) λf R y=>?_);have again:∀ {j:St} {k:Hp},ag X (a++m8 fp s5.heap) j k R->N j k->∃m,m<n/\∃i σ' q,ag X a σ' q R/\tn i R.heap/\(∀b∈fp,q b=none)/\W i m σ' q:=λ{j k} l B=>by
   obtain⟨m',hm,w7⟩:=hN j k B;refine⟨m',hm,i+1,j,k,l.unpinned,T.keep _ _ _ z λb hb o e=>(l.pin (b,o) (W6 _ (W6 _ (rE hb e)))).1,λb hb=>?_,w7⟩;obtain⟨o,e,d⟩:=T.obj _ _ z b hb;exact (l.pin (b,o) (W6 _ (W6 _ (rE hb e)))).2.1
  cases f with
  | next=>obtain⟨j,k,l,B⟩:=y;exact again l B
  | cont=>obtain⟨j,k,l,B⟩:=y;exact again l B
  | brk=>obtain⟨j,k,l,y⟩:=y;exact⟨j,k,l.unpinned,y⟩
  | ret v=>obtain⟨x7,j,k,l,r7,y⟩:=y;exact⟨x7,j,k,l.unpinned,r7,y⟩
end
def mv{K:W.Frag}{a:Addr}{xs:List V}{g:TG}{tb:TS}{D:dZ}{σ:St}{H:Hp}(b:Nat->St->Hp->Prop)(l:b 0 σ H)(k:∀i σ H,i<=xs.length->b i σ H->aE K H a xs)
 (hs:∀i x σ H,xs[i]? = some x->b i σ H->g x σ H λf d=>tb { D with nx:=b (i+1),ct:=b (i+1),bk:=D.nx } f d) (hd:∀σ H,b xs.length σ H->D.nx σ H) :
 ∃W:Nat->Nat->St->Hp->Prop,(∃m,W 0 m σ H)/\∀i m σ H,W i m σ H ->
  ((il K a).stop i H/\D.nx σ H)\/((il K a).go i H/\∃N:St->Hp->Prop,(∀h c,N h c->∃m',m'<m/\W (i+1) m' h c)/\∀x c,(il K a).yld i H x c->g x σ c λf d=>tb { D with nx:=N,ct:=N,bk:=D.nx } f d):=by
 refine⟨λi m σ H=>m=xs.length-i/\i<=xs.length/\b i σ H,⟨xs.length,by simp,WT _,l⟩,?_⟩;rintro i m σ H ⟨rfl,j,p⟩;have q:=k i σ H j p;by_cases hlt:i<xs.length
 ·refine .inr ⟨⟨xs,xs[i],q,by simp[hlt]⟩,b (i+1),λh c n=>⟨xs.length-(i+1),by omega,rfl,hlt,n⟩,λx c y=>?_⟩;obtain⟨e,y⟩:=y;subst e;exact hs i x σ _ (y xs q) p
 ·have e:i=xs.length:=by omega
  subst e;exact .inl ⟨⟨xs,q,WB _⟩,hd σ H p⟩
def Sd{K:W.Frag}{a:Addr}{xs:List V}{g:TG}{tb:TS}{D:dZ}{σ:St}{H:Hp}(b:Nat->St->Hp->Prop)(l:b 0 σ H)(k:∀i σ H,i<=xs.length->b i σ H->be K H a xs)
 (hs:∀i x σ H,xs[i]? = some x->b i σ H->g x σ H λf d=>tb { D with nx:=b (i+1),ct:=b (i+1),bk:=D.nx } f d) (hd:∀σ H,b xs.length σ H->D.nx σ H) :
 ∃W:Nat->Nat->St->Hp->Prop,(∃m,W 0 m σ H)/\∀i m σ H,W i m σ H ->
  ((qu K a).stop i H/\D.nx σ H)\/((qu K a).go i H/\∃N:St->Hp->Prop,(∀h c,N h c->∃m',m'<m/\W (i+1) m' h c)/\∀x c,(qu K a).yld i H x c->g x σ c λf d=>tb { D with nx:=N,ct:=N,bk:=D.nx } f d):=by
 refine⟨λi m σ H=>m=xs.length-i/\i<=xs.length/\b i σ H,⟨xs.length,by simp,WT _,l⟩,?_⟩;rintro i m σ H ⟨rfl,j,p⟩;have q:=k i σ H j p;by_cases hlt:i<xs.length
 ·refine .inr ⟨⟨xs,xs[i],q,by simp[hlt]⟩,b (i+1),λh c n=>⟨xs.length-(i+1),by omega,rfl,hlt,n⟩,λx c y=>?_⟩;obtain⟨e,y⟩:=y;subst e;exact hs i x σ _ (y xs q) p
 ·have e:i=xs.length:=by omega
  subst e;exact .inl ⟨⟨xs,q,WB _⟩,hd σ H p⟩
def mr{lo:Int}{n:Nat}{g:TG}{tb:TS}{D:dZ}{σ:St}{H:Hp}(a:Nat->St->Hp->Prop)(h:a 0 σ H)
 (hs:∀i σ H,i<n->a i σ H->g (.int (lo+i)) σ H λd c=>tb { D with nx:=a (i+1),ct:=a (i+1),bk:=D.nx } d c) (hd:∀σ H,a n σ H->D.nx σ H) :
 ∃W:Nat->Nat->St->Hp->Prop,(∃m,W 0 m σ H)/\∀i m σ H,W i m σ H ->
  ((ik lo n).stop i H/\D.nx σ H)\/((ik lo n).go i H/\∃N:St->Hp->Prop,(∀f b,N f b->∃m',m'<m/\W (i+1) m' f b)/\∀x b,(ik lo n).yld i H x b->g x σ b λd c=>tb { D with nx:=N,ct:=N,bk:=D.nx } d c):=by
 refine⟨λi m σ H=>m=n-i/\i<=n/\a i σ H,⟨n,by simp,WT _,h⟩,?_⟩;rintro i m σ H ⟨rfl,k,p⟩;by_cases hlt:i<n
 ·refine .inr ⟨hlt,a (i+1),λf b j=>⟨n-(i+1),by omega,rfl,hlt,j⟩,λx b y=>?_⟩;obtain⟨e,y⟩:=y;subst e y;exact hs i σ _ hlt p
 ·have e:i=n:=by omega
  subst e;exact .inl ⟨WB _,hd σ H p⟩
abbrev R2:=V->V->Hp->VK->Prop
def aV(X:Cx)(f:Value->Value->Sem Value)(r:R2):Prop :=
 ∀(a:List (Addr × Obj)) (s:fv) (σ:St) (H:Hp) (x y:V) (v u:Value) (Q:VK),ag X a σ H s->aP x v->aP y u->r x y H Q ->
  wpAny (model X.prog X.w) X.A (f v u) (EP X a σ Q) X.xe s
def qk(X:Cx)(f:Value->Sem Value)(r:V->Hp->VK->Prop):Prop :=
 ∀(a:List (Addr × Obj)) (s:fv) (σ:St) (H:Hp) (x:V) (v:Value) (Q:VK),ag X a σ H s->aP x v->r x H Q ->
  wpAny (model X.prog X.w) X.A (f v) (EP X a σ Q) X.xe s
def cK(X:Cx)(f:Value)(r:List V->Hp->VK->Prop):Prop :=
 ∀(a:List (Addr × Obj)) (s:fv) (σ:St) (H:Hp) (xs:List V) (us:List Value) (Q:VK),ag X a σ H s->ay xs us->r xs H Q ->
  wpAny (model X.prog X.w) X.A (call f us) (EP X a σ Q) X.xe s
def Vr(X:Cx)(r:V->Hp->(Bool->Hp->Prop)->Prop):Prop :=
 ∀(a:List (Addr × Obj)) (s:fv) (σ:St) (H:Hp) (x:V) (v:Value) (Q:Bool->Hp->Prop),ag X a σ H s->aP x v->r x H Q ->
  wpAny (model X.prog X.w) X.A (truthy v) (TP X a σ Q) X.xe s
def dR(r:R2)(c tb:TE):TE:=λσ H Q=>c σ H λx a=>tb σ a λy b=>r x y b Q
def BV(r:V->Hp->VK->Prop)(b:TE):TE:=λσ H Q=>b σ H λx a=>r x a Q
def rI(C:Int->Int->Prop)(g:Int->Int->V):R2:=λx y H Q=>∃i j,x=.int i/\y=.int j/\C i j/\Q (g i j) H
def jM(g:Int->Int->V):R2:=λx y H Q=>∃i j,x=.int i/\y=.int j/\Q (g i j) H
def rU(g:Int->V):V->Hp->VK->Prop:=λx H Q=>∃i,x=.int i/\Q (g i) H
section
variable {X:Cx}{a b c:Expr}{ta tb tc:TE}{pos:Pos}
def Ag(i:PE X a ta)(hb:PE X b tb){c:List (Addr × Obj)}{s:fv}{σ:St}{H:Hp}{R:V->V->Hp->Prop}(I:ag X c σ H s)
 (h:ta σ H λx g=>tb σ g λy d=>R x y d) {Q:Value->fv->Prop} {f:Value->Value->Sem Value}
 (m:∀v u e x y d,ag X c σ d e->aP x v->aP y u->R x y d->wpAny (model X.prog X.w) X.A (f v u) Q X.xe e) :
 wpAny (model X.prog X.w) X.A (eval a X.env) (λv n=>wpAny (model X.prog X.w) X.A (eval b X.env) (λu o=>wpAny (model X.prog X.w) X.A (f v u) Q X.xe o) X.xe n) X.xe s:=by
 refine aw (i c s σ H _ I h) λv s1 ⟨x,g,r,j,p⟩=>?_;refine aw (hb c s1 σ g _ r p) λu e ⟨y,d,l,k,q⟩=>?_;exact m v u e x y d l j k q
def Nl{d:Operator}{r:R2}(k:aV X (binaryOp d) r)(f:PE X a ta)(hb:PE X b tb):PE X (.BinOp a d b pos) (dR r ta tb):=by
 intro c s σ H Q I h;exact wpAny_BinOp (Ag f hb I h λv u e x y j g l i q=>k c e σ j x y v u Q g l i q)
def Nj{c:UnaryOp}{r:V->Hp->VK->Prop}(g:qk X (unaryOp c) r)(d:PE X a ta):PE X (.UnaryOp c a pos) (BV r ta):=by
 intro b s σ H Q I h;exact UnaryOp_ (aw (d b s σ H _ I h) λv s1 ⟨x,f,j,e,i⟩=>g b s1 σ f x v Q j e i)
def m9{f:Value->Value->Sem Value}{C:Int->Int->Prop}{g:Int->Int->Int}
 (a:∀(i j:Int) (t u:Tok) (s:fv) (Q:Value->fv->Prop) (E:Value->fv->Prop),C i j->Q (.int (g i j) s.toks) { s with toks:=s.toks+1 }->wpAny (model X.prog X.w) X.A (f (.int i t) (.int j u)) Q E s) :
 aV X f (rI C λi j=>.int (g i j)):=by
 intro b s σ H x y v u Q I e c h;obtain⟨i,j,rfl,rfl,d,q⟩:=h;obtain⟨t,rfl⟩:=e;obtain⟨t',rfl⟩:=c;exact a i j t t' s _ _ d ⟨.int (g i j),H,I.tok _,⟨_,Z⟩,q⟩
def DV{f:Value->Value->Sem Value}{g:Int->Int->Int}
 (a:∀(i j:Int) (t u:Tok) (s:fv) (Q:Value->fv->Prop) (E:Value->fv->Prop),Q (.int (g i j) s.toks) { s with toks:=s.toks+1 }->wpAny (model X.prog X.w) X.A (f (.int i t) (.int j u)) Q E s) :
 aV X f (jM λi j=>.int (g i j)):=by
 intro b s σ H x y v u Q I c d h;obtain⟨i,j,rfl,rfl,q⟩:=h;obtain⟨t,rfl⟩:=c;obtain⟨t',rfl⟩:=d;exact a i j t t' s _ _ ⟨.int (g i j),H,I.tok _,⟨_,Z⟩,q⟩
def xi{f:Value->Value->Sem Value}{g:Int->Int->Bool}
 (a:∀(i j:Int) (t u:Tok) (s:fv) (Q:Value->fv->Prop) (E:Value->fv->Prop),Q (.bool (g i j)) s->wpAny (model X.prog X.w) X.A (f (.int i t) (.int j u)) Q E s) :
 aV X f (jM λi j=>.bl (g i j)):=by
 intro b s σ H x y v u Q I c d h;obtain⟨i,j,rfl,rfl,q⟩:=h;obtain⟨t,rfl⟩:=c;obtain⟨t',rfl⟩:=d;exact a i j t t' s _ _ ⟨.bl (g i j),H,I,Z,q⟩
def Ih(i j:Int):Prop:=0<j/\j<1073741824
def ut(i j:Int):Prop:=(-(2 ^ 64)<i/\i<2 ^ 64)\/(-(2 ^ 64)<j/\j<2 ^ 64)
def ut.ok{i j:Int}(h:ut i j):IntMulOk i j:=by
 rcases h with ⟨h1,h2⟩|⟨h1,h2⟩
 ·exact .of_left (intBits_le_64 h1 h2)
 ·exact .of_right (intBits_le_64 h1 h2)
def IZ(k:Nat):(0:Int)<=2 ^ k:=by
 rw[two_pow_cast];exact Int.natCast_nonneg _
def NX:aV X (binaryOp .Add) (jM λi j=>.int (i+j)):=DV λ_ _ _ _ _ _ _ q=>add_int q
def NK:aV X (binaryOp .Sub) (jM λi j=>.int (i-j)):=DV λ_ _ _ _ _ _ _ q=>sub_int q
def NR:aV X (binaryOp .Mult) (rI ut λi j=>.int (i*j)):=m9 λ_ _ _ _ _ _ _ a q=>mul_int q a.ok
def DT:aV X (binaryOp .FloorDiv) (rI Ih λi j=>.int (i/j)):=m9 λi j _ _ _ _ _ a q=>by
 have c:(0:Int)<j:=a.1;have b:j<1073741824:=a.2;exact floordiv_int (by omega) (by rw[Zj i (by omega)];exact q) (.inl (Zk (by omega)))
def DS:aV X (binaryOp .Mod) (rI (λ_ j=>0<j) λi j=>.int (i%j)):=m9 λi j _ _ _ _ _ a q=>by
 have b:(0:Int)<j:=a;exact mod_int' (by omega) (by rw[Int.fmod_eq_emod_of_nonneg i (by omega)];exact q)
def NL:aV X (binaryOp .RShift) (rI (λ_ j=>0<=j) λi j=>.int (i/2 ^ j.toNat)):=m9 λi j _ _ _ _ _ a q =>
 rshift_int a (by rw[Zj i (IZ _)];exact q)
def IF{f:Value->Sem Value}{g:Int->Int}
 (a:∀(i:Int) (t:Tok) (s:fv) (Q:Value->fv->Prop) (E:Value->fv->Prop),Q (.int (g i) s.toks) { s with toks:=s.toks+1 }->wpAny (model X.prog X.w) X.A (f (.int i t)) Q E s) :
 qk X f (rU λi=>.int (g i)):=by
 intro b s σ H x v Q I c h;obtain⟨i,rfl,q⟩:=h;obtain⟨t,rfl⟩:=c;exact a i t s _ _ ⟨.int (g i),H,I.tok _,⟨_,Z⟩,q⟩
def IE:qk X (unaryOp .USub) (rU λi=>.int (-i)):=IF λ_ _ _ _ _ q=>neg_int q
end
def CS:V->V->Bool
 | .non,.non=>true|.non,.int _=>true|.int _,.non=>true|.non,.bl _=>true|.bl _,.non=>true|.non,.str _=>true|.str _,.non=>true
 | .int _,.int _=>true|.bl _,.bl _=>true|.str _,.str _=>true|.byt _,.byt _=>true
 | .int _,.str _=>true|.str _,.int _=>true|.bl _,.str _=>true|.str _,.bl _=>true
 | _,_=>false
def L7:R2:=λx y H Q=>CS x y=true/\Q (.bl (decide (x=y))) H
def LY:R2:=λx y H Q=>CS x y=true/\Q (.bl (!decide (x=y))) H
def Gf{i j:Int}:decide (V.int i=V.int j)=(i == j):=by
 rw[XG];simp
def sY{i j:Bool}:decide (V.bl i=V.bl j)=(i == j):=by
 rw[XG];simp
def Gd{i j:Str}:decide (V.str i=V.str j)=(i == j):=by
 rw[XG];simp
def Gg{i j:Array UInt8}:decide (V.byt i=V.byt j)=(i.toList == j.toList):=by
 rw[XG];cases i;cases j;simp
section
variable {X:Cx}{a b c:Expr}{ta tb tc:TE}{pos:Pos}
def bV{a:List (Addr × Obj)}{σ:St}{H:Hp}{s:fv}{Q:VK}{k b:Bool}(I:ag X a σ H s)(q:Q (.bl k) H)(e:k=b):EP X a σ Q (.bool b) s:=by
 subst e;exact⟨.bl k,H,I,Z,q⟩
def DU:aV X (compareOp .Eq) L7:=by
 intro c s σ H x y v u Q I b a h;obtain⟨hs,q⟩:=h;cases x with
 | non =>
  cases b;cases y with
  | non=>cases a;exact PySem.EqNone.eq_none_none (bV I q (by simp))
  | bl j=>cases a;exact PySem.EqNone.eq_none_bool (bV I q (by simp))
  | int j=>obtain⟨t',rfl⟩:=a;exact PySem.EqNone.eq_none_int (bV I q (by simp))
  | str j=>obtain⟨t',rfl⟩:=a;exact PySem.EqNone.eq_none_str (bV I q (by simp))
  | _=>exact ZR (show false=true from hs) WR
 | bl i =>
  cases b;cases y with
  | non=>cases a;exact PySem.EqNone.eq_bool_none (bV I q (by simp))
  | bl j=>cases a;exact eq_bool (bV I q sY)
  | str j=>obtain⟨t',rfl⟩:=a;exact PySem.EqMixed.eq_bool_str (bV I q (by simp))
  | _=>exact ZR (show false=true from hs) WR
 | int i =>
  obtain⟨t,rfl⟩:=b;cases y with
  | non=>cases a;exact PySem.EqNone.eq_int_none (bV I q (by simp))
  | int j=>obtain⟨t',rfl⟩:=a;exact eq_int (bV I q Gf)
  | str j=>obtain⟨t',rfl⟩:=a;exact PySem.EqMixed.eq_int_str (bV I q (by simp))
  | _=>exact ZR (show false=true from hs) WR
 | str i =>
  obtain⟨t,rfl⟩:=b;cases y with
  | non=>cases a;exact PySem.EqNone.eq_str_none (bV I q (by simp))
  | bl j=>cases a;exact PySem.EqMixed.eq_str_bool (bV I q (by simp))
  | int j=>obtain⟨t',rfl⟩:=a;exact PySem.EqMixed.eq_str_int (bV I q (by simp))
  | str j=>obtain⟨t',rfl⟩:=a;exact eq_str (bV I q Gd)
  | _=>exact ZR (show false=true from hs) WR
 | byt i =>
  obtain⟨t,rfl⟩:=b;cases y with
  | byt j=>obtain⟨t',rfl⟩:=a;exact W.eq_bytes (bV I q Gg)
  | _=>exact ZR (show false=true from hs) WR
 | _=>cases y<;>exact ZR (show false=true from hs) WR
def DR:aV X (compareOp .NotEq) LY:=by
 intro c s σ H x y v u Q I b a h;obtain⟨hs,q⟩:=h;cases x with
 | non =>
  cases b;cases y with
  | non=>cases a;exact PySem.EqNone.ne_none_none (bV I q (by simp))
  | bl j=>cases a;exact PySem.EqNone.ne_none_bool (bV I q (by simp))
  | int j=>obtain⟨t',rfl⟩:=a;exact PySem.EqNone.ne_none_int (bV I q (by simp))
  | str j=>obtain⟨t',rfl⟩:=a;exact PySem.EqNone.ne_none_str (bV I q (by simp))
  | _=>exact ZR (show false=true from hs) WR
 | bl i =>
  cases b;cases y with
  | non=>cases a;exact PySem.EqNone.ne_bool_none (bV I q (by simp))
  | bl j=>cases a;exact ne_bool (bV I q (congrArg not sY))
  | str j=>obtain⟨t',rfl⟩:=a;exact PySem.EqMixed.ne_bool_str (bV I q (by simp))
  | _=>exact ZR (show false=true from hs) WR
 | int i =>
  obtain⟨t,rfl⟩:=b;cases y with
  | non=>cases a;exact PySem.EqNone.ne_int_none (bV I q (by simp))
  | int j=>obtain⟨t',rfl⟩:=a;exact ne_int (bV I q (congrArg not Gf))
  | str j=>obtain⟨t',rfl⟩:=a;exact PySem.EqMixed.ne_int_str (bV I q (by simp))
  | _=>exact ZR (show false=true from hs) WR
 | str i =>
  obtain⟨t,rfl⟩:=b;cases y with
  | non=>cases a;exact PySem.EqNone.ne_str_none (bV I q (by simp))
  | bl j=>cases a;exact PySem.EqMixed.ne_str_bool (bV I q (by simp))
  | int j=>obtain⟨t',rfl⟩:=a;exact PySem.EqMixed.ne_str_int (bV I q (by simp))
  | str j=>obtain⟨t',rfl⟩:=a;exact ne_str (bV I q (congrArg not Gd))
  | _=>exact ZR (show false=true from hs) WR
 | byt i =>
  obtain⟨t,rfl⟩:=b;cases y with
  | byt j=>obtain⟨t',rfl⟩:=a;exact W.ne_bytes (bV I q (congrArg not Gg))
  | _=>exact ZR (show false=true from hs) WR
 | _=>cases y<;>exact ZR (show false=true from hs) WR
def NS:aV X (compareOp .Lt) (jM λi j=>.bl (decide (i<j))):=xi λ_ _ _ _ _ _ _ q=>lt_int q
def NT:aV X (compareOp .LtE) (jM λi j=>.bl (decide (i<=j))):=xi λ_ _ _ _ _ _ _ q=>le_int q
def NW:aV X (compareOp .Gt) (jM λi j=>.bl (decide (j<i))):=xi λ_ _ _ _ _ _ _ q=>gt_int q
def NU:aV X (compareOp .Is) (λx y H Q=>y=.non/\Q (.bl (decide (x=.non))) H):=by
 intro b s σ H x y v u Q I a c h;obtain⟨rfl,q⟩:=h;cases c;refine is_none_gen (bV I q ?_);cases x<;>first
  | (cases a;rfl)
  | (obtain⟨t,rfl⟩:=a;rfl)
def NP:aV X (compareOp .IsNot) (λx y H Q=>y=.non/\Q (.bl (!decide (x=.non))) H):=by
 intro b s σ H x y v u Q I a c h;obtain⟨rfl,q⟩:=h;cases c;refine isnot_none_gen (bV I q ?_);cases x<;>first
  | (cases a;rfl)
  | (obtain⟨t,rfl⟩:=a;rfl)
def aH(b:Expr){a:CmpOp}(h:a ≠ .In:=by decide)(d:a ≠ .NotIn:=by decide):behindInMarks a b=false:=by
 have c:(a == CmpOp.In)=false:=by cases a<;>first|rfl|exact ZR rfl h
 have e:(a == CmpOp.NotIn)=false:=by cases a<;>first|rfl|exact ZR rfl d
 cases b<;>simp[behindInMarks,c,e]
def NA{d:CmpOp}{r:R2}(k:aV X (compareOp d) r)(f:PE X a ta)(hb:PE X b tb)(l:behindInMarks d b=false):PE X (.Compare a [d] [b] pos) (dR r ta tb):=by
 intro c s σ H Q I h;exact wpAny_Compare1 (Ag f hb I h λv u e x y j g m i q=>k c e σ j x y v u Q g m i q) l
def Vq(K:W.Frag)(x:V)(H:Hp)(k:Bool):Prop :=
 match x with
 | .non=>k=false
 | .bl b=>k=b
 | .int i=>k=(i != 0)
 | .str y=>y.length<=sizeLine/\k=((y.length:Int) != 0)
 | .byt y=>y.size<=sizeLine/\k=((y.size:Int) != 0)
 | .ref p=>(∃xs,aE K H p xs/\k = !xs.isEmpty)\/(∃xs,be K H p xs/\k = !xs.isEmpty)\/∃kvs,H p=some (.dK kvs)/\k = !kvs.isEmpty
 | _=>False
def Pf{κ:Type}{a:List (κ × V)}{vs:List (κ × Value)}(r:KV a vs):(!vs.isEmpty) = !a.isEmpty:=by
 cases r<;>rfl
def EK{xs:List V}{a:List Value}(r:ay xs a):(!a.toArray.isEmpty) = !xs.isEmpty:=by
 cases r<;>simp
def rH:(sizeLine:Nat)<2 ^ 63:=by rw[sizeLine_eq];decide
def mL:Vr X (λx H Q=>∃k,Vq X.K x H k/\Q k H):=by
 intro g s σ H x v Q I d h;obtain⟨k,e,q⟩:=h;have l:=rH;have hs:sizeLine=16777216:=sizeLine_eq;cases x with
 | non =>
  cases d;have a:k=false:=e;subst a;exact truthy_none ⟨H,I,q⟩
 | bl b =>
  cases d;have a:k=b:=e;subst a;exact wpAny_truthy_bool ⟨H,I,q⟩
 | int i =>
  obtain⟨t,rfl⟩:=d;have a:k=(i != 0):=e;subst a;exact PySem.P.truthy_int ⟨H,I,q⟩
 | str y =>
  obtain⟨t,rfl⟩:=d;obtain⟨j,a⟩:y.length<=sizeLine/\k=((y.length:Int) != 0):=e;subst a;exact PySem.P.truthy_str (by omega) ⟨H,I.tok _,q⟩
 | byt y =>
  obtain⟨t,rfl⟩:=d;obtain⟨j,a⟩:y.size<=sizeLine/\k=((y.size:Int) != 0):=e;subst a;exact W.truthy_bytes (by omega) ⟨H,I.tok _,q⟩
 | ref p =>
  cases d;have a:(∃xs,aE X.K H p xs/\k = !xs.isEmpty)\/(∃xs,be X.K H p xs/\k = !xs.isEmpty)\/∃kvs,H p=some (.dK kvs)/\k = !kvs.isEmpty:=e;rcases a with ⟨xs,hx,a⟩|⟨xs,hx,a⟩|⟨kvs,hx,a⟩
  ·subst a;obtain⟨f,r,pl,hz⟩:=I.list hx;have c:=r.length;exact wpAny_truthy_list pl.isList (by simp only [WH];omega) ⟨H,I.tok _,by rw[EK r];exact q⟩
  ·subst a;obtain⟨f,r,pl,hz⟩:=I.tuple hx;have c:=r.length;exact truthy_tuple pl (by simp only [WH];omega) ⟨H,I.tok _,by rw[EK r];exact q⟩
  ·subst a;obtain⟨hz,hS,vs,r,m⟩:kvs.length<=sizeLine/\(p == sysModules)=false/\∃vs,KV kvs vs/\s.heap.DictOf (cz X.prog X.w) p vs:=I.hok p _ hx;have c:kvs.length=vs.length:=Paired.length r;exact wpAny_truthy_dict hS m (by omega) ⟨H,I.tok _,by rw[Pf r];exact q⟩
 | _=>exact (show False from e).elim
def jG{x:V}{us:List Value}(r:ay [x] us):∃u,us=[u]/\aP x u:=by
 cases r with
 | cons r1 r2=>cases r2;exact⟨_,Z,r1⟩
def uz{x y:V}{us:List Value}(r:ay [x,y] us):∃u w',us=[u,w']/\aP x u/\aP y w':=by
 cases r with
 | cons r1 r2 =>
  cases r2 with
  | cons r3 r4=>cases r4;exact⟨_,_,Z,r1,r3⟩
def Ta:cK X (.type "int") (λxs H Q=>(∃i,xs=[.int i]/\Q (.int i) H)\/∃k,xs=[.bl k]/\Q (.int (if k then 1 else 0)) H):=by
 intro a s σ H xs us Q I r h;rcases h with ⟨i,rfl,q⟩|⟨k,rfl,q⟩
 ·obtain⟨u,rfl,t,rfl⟩:=jG r;exact call_int_int ⟨.int i,H,I,⟨_,Z⟩,q⟩
 ·obtain⟨u,rfl,b⟩:=jG r;cases b;exact call_int_bool ⟨.int (if k then 1 else 0),H,I.tok _,⟨_,Z⟩,q⟩
end
structure lD (h:Heap) (x dx C:Addr) (mA:Str->Option Value):Prop where
 obj:h.get? x=some (W.instObj C dx)
 ns:h.Ns1 dx mA
 ne:dx≠x
def En{h:Heap}{dx:Addr}{mA:Str->Option Value}(n:h.Ns1 dx mA):∃od,h.get? dx=some od/\∀name,W.lookIn name od=some (mA name):=by
 obtain⟨o,es,j,d,hd,c,_,f⟩:=n;refine⟨o,d,λname=>?_⟩;have e:=f name;unfold nsFind findBy at e;rw[<- Array.find?_toList]at e;unfold W.lookIn;rw[hd];dsimp only
 split
 ·rename_i y q;rw[q]at e;exact congrArg some e
 ·rename_i q;rw[q]at e;have a:es.toList.any (·.refKey)=false:=by
   rw[List.any_eq_false];intro y i;obtain⟨z,t,b⟩:=c y (Zt.mp i);simp[DictEntry.refKey,b]
  have g:¬es.toList.any (·.refKey)=true:=by rw[a];exact WR
  rw[ZP g];exact congrArg some e
def lD.look{h:Heap}{x dx C:Addr}{mA:Str->Option Value}(I:lD h x dx C mA):∃od,W.InstAt h x (W.instObj C dx) C (some od)/\∀name,W.lookIn name od=some (mA name) :=
 let ⟨od,ho,hl⟩:=En I.ns
 ⟨od,⟨I.obj,rfl,rfl,ho⟩,hl⟩
section
variable {prog:Program}{w:World}{A:Around}{E:Value->fv->Prop}{s:fv}{K:W.Frag}{x dx C f:Addr}{mA:Str->Option Value}{name:Str}{v:Value}
def QP{a:Bool}{Q:Value->fv->Prop}(X:K.In s.heap)(I:lD s.heap x dx C mA)(g:W.plainGet K C name=true)(f:W.hasDictIn K C=true)
 (c:W.findIn K (.ref C) name=some none) (d:mA name=some v) (b:W.handedIn v=true) (h:Q v { s with toks:=s.toks+1 }) :
 wpAny (model prog w) A (getAttr (.ref x) name a) Q E s:=by
 obtain⟨i,J,e⟩:=I.look;exact W.get_value X J (W.plainGet_of g).1 (W.findObj_own f c rfl (by rw[e,d])) b h
def QN{pl:Sem Bool}{Q:Value × List Value->fv->Prop}(X:K.In s.heap)(I:lD s.heap x dx C mA)(a:W.plainGet K C name=true)
 (d:W.findIn K (.ref C) name=some (some (.ref f))) (e:W.isFn K (.ref f)=true) (b:mA name=none) (h:Q (.ref f,[.ref x]) s) :
 wpAny (model prog w) A (getMethod (.ref x) name pl) Q E s:=by
 obtain⟨g,J,c⟩:=I.look;exact W.method_fn X J (W.plainGet_of a).1 (W.plainGet_of a).2 d (beq_iff_eq.mp e) (by show (W.lookIn name g).map (·.isSome)=some false;rw[c,b];rfl) h
def KC{ns:List Str}{Q:Unit->fv->Prop}(X:K.In s.heap)(I:lD s.heap x dx C mA)
 (hs:W.findIn K (.ref C) "__setattr__" = some (some (.builtin "object.__setattr__"))) (j:W.plainOver K C=true) (f:W.takerIn K C name=some none) (i:W.hasDictIn K C=true)
 (hw:PySem.Within mA ns) (hsz:ns.length<=sizeLine)
 (h:∀h',lD h' x dx C (λy=>if y=name then some v else mA y)->Heap.SameBut dx s.heap h'->Q () { s with heap:=h',toks:=s.toks+2 }) :
 wpAny (model prog w) A (setAttr (.ref x) name v) Q E s:=by
 obtain⟨l,J,k⟩:=I.look;refine W.set_plain X J hs (W.osa_open (s:={ s with toks:=s.toks+1 }) (r:=none) X J j f λb=>?_);obtain⟨m,g,e⟩:=W.any_some i;have hx:s.heap.get? x=some ⟨.ref C,some dx,.plain,#[]⟩:=I.obj;refine kb (ZO (kb (kb (wpAny_loadPart hx (kb (W.Looks.here (s:={ s with toks:=s.toks+1 }) (W.looks_clsIn X g) ?_))))));rw[e];refine ZO (a:=some dx) (kb (ZO (kb ?_)));refine wpAny_nsSet1 (s:={ s with toks:=s.toks+1 }) I.ns λh' d c=>?_;obtain⟨oD,esD,epD,hoD,hdD,hcD⟩:=d.count (PySem.Within.cons name v hw);refine kb (wpAny_lookBehind hoD (by rw[hdD];exact pastItsLine_dict (WP hcD (by rw[W0];omega))) ?_);exact ZO (h _ ⟨(c.2 _ (Ne.symm I.ne)).trans I.obj,d,I.ne⟩ c)
def OL{R:Result->fv->Prop}{vs:List Value}{a:List (Str × Value)}(X:K.In s.heap)(e:W.makesIn K C=true)
 (b:W.findIn K (.ref C) "__init__" = some (some (.ref f))) (c:W.typeIn K (.ref f)=some (.type "function"))
 (h:codeAny (model prog w) (A.under (.builtin "type.__call__" ⟨.ref C::vs,a⟩)) (.call (.ref f) ⟨.ref (s.heap.objs.size+1)::vs,a⟩) (W.InitBack (s.heap.objs.size+1) R)
   { s with heap:=(s.heap.push W.emptyDict).push (W.instObj C s.heap.objs.size) }) :
 codeAny (model prog w) A (.call (.ref C) ⟨vs,a⟩) R s:=by
 obtain⟨i,g,d,t,os⟩:=s;exact W.make_core (W.makes_of X e) (W.looks_findIn X b) (λself=>W.bind_fn X self c) (.inl Z) h
def OK{R:Result->fv->Prop}(X:K.In s.heap)(b:W.makesIn K C=true)
 (a:W.findIn K (.ref C) "__init__" = some (some (.builtin "object.__init__")))
 (hb:∀self,W.Looks (model prog w) s.heap (bindSpecial (.builtin "object.__init__") self) (.builtin "object.__init__",[self]))
 (h:codeAny (model prog w) (A.under (.builtin "type.__call__" ⟨[.ref C],[]⟩)) (.call (.builtin "object.__init__") ⟨[.ref (s.heap.objs.size+1)],[]⟩) (W.InitBack (s.heap.objs.size+1) R)
   { s with heap:=(s.heap.push W.emptyDict).push (W.instObj C s.heap.objs.size) }) :
 codeAny (model prog w) A (.call (.ref C) ⟨[],[]⟩) R s:=by
 obtain⟨c,g,d,t,os⟩:=s;exact W.make_core (W.makes_of X b) (W.looks_findIn X a) hb (.inr ⟨rfl,rfl⟩) h
end
def cy(f:Str)(v:V):List (Str × V)->List (Str × V)
 | []=>[(f,v)]
 | (g,x)::r=>if g=f then (g,v)::r else (g,x)::cy f v r
theorem xv(f g:Str)(v:V):∀fs:List (Str × V),(cy f v fs).lookup g=if g=f then some v else fs.lookup g
 | []=>by
  show List.lookup g [(f,v)]=_;by_cases h:g=f
  ·have hb:(g == f)=true:=beq_iff_eq.mpr h;simp only [List.lookup,hb,ZQ h]
  ·have hb:(g == f)=false:=beq_eq_false_iff_ne.mpr h;simp only [List.lookup,hb,ZP h]
 | (k,x)::r=>by
  have ih:=xv f g v r;rw[show cy f v ((k,x)::r)=(if k=f then (k,v)::r else (k,x)::cy f v r) from rfl];by_cases hk:k=f
  ·rw[ZQ hk];by_cases h:g=k
   ·have hb:(g == k)=true:=beq_iff_eq.mpr h;simp only [List.lookup,hb,ZQ (h.trans hk)]
   ·have hb:(g == k)=false:=beq_eq_false_iff_ne.mpr h;simp only [List.lookup,hb,ZP (λe:g=f=>h (e.trans hk.symm))]
  ·rw[ZP hk];by_cases h:g=k
   ·have hb:(g == k)=true:=beq_iff_eq.mpr h;simp only [List.lookup,hb,ZP (λe:g=f=>hk (h.symm.trans e))]
   ·have hb:(g == k)=false:=beq_eq_false_iff_ne.mpr h;simp only [List.lookup,hb];exact ih
theorem xC(f:Str)(v:V):∀fs:List (Str × V),f∈(cy f v fs).map (·.1)/\∀g,g∈fs.map (·.1)->g∈(cy f v fs).map (·.1)
 | []=>⟨by simp[cy],λg h=>by simp at h⟩
 | (k,x)::r=>by
  obtain⟨b,a⟩:=xC f v r;rw[show cy f v ((k,x)::r)=(if k=f then (k,v)::r else (k,x)::cy f v r) from rfl];by_cases hk:k=f
  ·rw[ZQ hk];subst hk;exact⟨by simp,λg h=>by simpa using h⟩
  ·rw[ZP hk];refine⟨?_,λg h=>?_⟩
   ·rw[W7];exact W4 _ b
   ·rw[W7]at h ⊢;rcases WU.mp h with e|e
    ·exact WU.mpr (.inl e)
    ·exact W4 _ (a g e)
theorem Eu(f:Str)(v:V):∀fs:List (Str × V),(cy f v fs).length<=fs.length+1
 | []=>by simp[cy]
 | (k,x)::r=>by
  have ih:=Eu f v r;rw[show cy f v ((k,x)::r)=(if k=f then (k,v)::r else (k,x)::cy f v r) from rfl];by_cases hk:k=f
  ·rw[ZQ hk,W0,W0];omega
  ·rw[ZP hk,W0,W0];omega
def cZ.some_of{v:V}{o:Option Value}(r:cZ (some v) o):∃u,o=some u/\aP v u:=by
 cases o with
 | none=>exact (show False from r).elim
 | some u=>exact⟨u,rfl,r⟩
def cZ.none_of{o:Option Value}(r:cZ none o):o=none:=by
 cases o with
 | none=>rfl
 | some u=>exact (show False from r).elim
def PK{v:V}{u:Value}(r:aP v u):W.handedIn u=true:=by
 cases v with
 | non=>cases (show u=Value.none from r);rfl
 | bl b=>cases (show u=Value.bool b from r);rfl
 | int i=>obtain⟨t,e⟩:=(show ∃t,u=Value.int i t from r);cases e;rfl
 | str x=>obtain⟨t,e⟩:=(show ∃t,u=Value.str x t from r);cases e;rfl
 | byt b=>obtain⟨t,e⟩:=(show ∃t,u=Value.bytes b t from r);cases e;rfl
 | flt b=>obtain⟨t,e⟩:=(show ∃t,u=Value.float b t from r);cases e;rfl
 | ref a=>cases (show u=Value.ref a from r);rfl
 | ty n=>cases (show u=Value.type n from r);rfl
section
variable {P:Program}{w:World}{H H':Hp}{h h':Heap}{a C dx:Addr}{fs fs':List (Str × V)}
def rM(hok:bC P w H h)(e:H a=some (.ins C dx fs)):∃mA,lD h a dx C mA/\(∀f,cZ (fs.lookup f) (mA f))/\PySem.Within mA (fs.map (·.1))/\fs.length<=1000/\H dx=some (.own a):=by
 obtain⟨d,z,ne,b,mA,n,r,q⟩:=(show bt P w H h a (.ins C dx fs) from hok a _ e);exact⟨mA,⟨b,n,ne⟩,r,q,z,d⟩
end
structure Cls (K:W.Frag) (C:Addr):Prop where
 pg:W.plainGet K C Str.empty=true
 hd:W.hasDictIn K C=true
 po:W.plainOver K C=true
 sa:W.findIn K (.ref C) "__setattr__" = some (some (.builtin "object.__setattr__"))
def Cls.get{K:W.Frag}{C:Addr}(c:Cls K C)(f:Str):W.plainGet K C f=true:=c.pg
def NoAttr(K:W.Frag)(C:Addr)(f:Str):Prop:=W.findIn K (.ref C) f=some none
def NoAttr.taker{K:W.Frag}{C:Addr}{f:Str}(n:NoAttr K C f):W.takerIn K C f=some none:=by
 unfold W.takerIn;rw[show W.findIn K (.ref C) f=some none from n]
 rfl
structure Ws (K:W.Frag) (C:Addr) (f:Str) (v:V) (u:Value):Prop where
 at_:W.findIn K (.ref C) f=some (some u)
 rel:aP v u
 get:W.specialIn K u "__get__" = some none
 cp:W.copiedNames.contains f=false
structure Meth (K:W.Frag) (C:Addr) (m:Str) (f:Addr):Prop where
 at_:W.findIn K (.ref C) m=some (some (.ref f))
 fn:W.isFn K (.ref f)=true
 kp:W.keepIn K (.ref f)=true
section
variable {X:Cx}{pins:List (Addr × Obj)}{σ:St}{H:Hp}{s:fv}{a C dx:Addr}{fs:List (Str × V)}{f:Str}{v:V}{A:Around}{E:Value->fv->Prop}
def FD{b:Bool}{Q:Value->fv->Prop}(I:ag X pins σ H s)(e:H a=some (.ins C dx fs))(c:Cls X.K C)(n:NoAttr X.K C f)(l:fs.lookup f=some v)
 (h:∀u s',ag X pins σ H s'->aP v u->Q u s'):wpAny (model X.prog X.w) A (getAttr (.ref a) f b) Q E s:=by
 obtain⟨mA,O,r,_,_,_⟩:=rM I.hok e;obtain⟨u,g,d⟩:=cZ.some_of (v:=v) (o:=mA f) (by rw[<- l];exact r f);exact QP I.kIn O (c.get f) c.hd n g (PK d) (h u _ (I.tok _) d)
def FC{m:Str}{g:Addr}{pl:Sem Bool}{Q:Value × List Value->fv->Prop}(I:ag X pins σ H s)(e:H a=some (.ins C dx fs))(c:Cls X.K C)(k:Meth X.K C m g)(l:fs.lookup m=none)
 (h:Q (.ref g,[.ref a]) s):wpAny (model X.prog X.w) A (getMethod (.ref a) m pl) Q E s:=by
 obtain⟨mA,O,r,_,_,_⟩:=rM I.hok e;have b:mA m=none:=cZ.none_of (by rw[<- l];exact r m);exact QN I.kIn O (c.get m) k.at_ k.fn b h
def CP{y:V}{u:Value}{Q:Unit->fv->Prop}(I:ag X pins σ H s)(e:H a=some (.ins C dx fs))(c:Cls X.K C)(n:NoAttr X.K C f)(m:fs.length<1000)(k:aP y u)
 (h:∀s',ag X pins σ (upd H a (.ins C dx (cy f y fs))) s'->Q () s'):wpAny (model X.prog X.w) A (setAttr (.ref a) f u) Q E s:=by
 obtain⟨mA,O,r,i,_,j⟩:=rM I.hok e;have hz:(fs.map (·.1)).length<=sizeLine:=by rw[WA,sizeLine_eq];omega
 refine KC I.kIn O c.sa c.po n.taker c.hd i hz λh' d sb=>h _ ?_;have hd:∃o,h'.get? dx=some o:=let ⟨o,_,_,e',_⟩:=d.ns;⟨o,e'⟩
 refine I.write (x:=a) (e:=dx) (by rw[e];exact True.intro) (.inr j) (λb q hb z=>(sb.2 b hb).trans z) hd ?_;refine⟨by rw[ap O.ne];exact j,?_,O.ne,d.obj,_,d.ns,λg=>?_,λg l=>?_⟩
 ·have:=Eu f y fs;omega
 ·show cZ ((cy f y fs).lookup g) (if g=f then some u else mA g);rw[xv];by_cases q:g=f
  ·rw[ZQ q,ZQ q];exact k
  ·rw[ZP q,ZP q];exact r g
 ·by_cases q:g=f
  ·rw[q];exact (xC f y fs).1
  ·refine (xC f y fs).2 g (i g λz=>l ?_);show (if g=f then some u else mA g)=none;rw[ZP q];exact z
def ag.made(I:ag X pins σ H s):ag X pins σ (upd (upd H s.heap.objs.size (.own (s.heap.objs.size+1))) (s.heap.objs.size+1) (.ins C s.heap.objs.size []))
 { s with heap:=(s.heap.push W.emptyDict).push (W.instObj C s.heap.objs.size) }:=by
 have c:(s.heap.push W.emptyDict).get? s.heap.objs.size=some W.emptyDict:=W5 s.heap rfl;have g:((s.heap.push W.emptyDict).push (W.instObj C s.heap.objs.size)).get? (s.heap.objs.size+1)=some (W.instObj C s.heap.objs.size):=by
  have:=W5 (s.heap.push W.emptyDict) (o:=W.instObj C s.heap.objs.size) rfl
  rwa [Xz]at this
 have f:(s.heap.push W.emptyDict).Ns s.heap.objs.size (λ_=>none):=⟨W.emptyDict,#[],_,c,rfl,(λe d=>ZR d (by simp)),λ_=>rfl⟩;have h:=I.laid (a:=s.heap.objs.size) (o:=.own (s.heap.objs.size+1)) (h':=s.heap.push W.emptyDict) (t':=s.toks) (λb u q=>WG _ q) (WB _) ⟨_,c⟩;refine h.laid (a:=s.heap.objs.size+1) (o:=.ins C s.heap.objs.size []) (t':=s.toks) (λb u q=>WG _ q) (XH (Xz _ _)) ?_;have ne:s.heap.objs.size≠s.heap.objs.size+1:=WL (WW _);refine⟨by rw[ap ne,aF],WT _,ne,g,λ_=>none,(Heap.Ns1.of_empty f).at λo q=>WG _ q,λ_=>True.intro,λy i=>ZR rfl i⟩
def GN{prog:Program}{w:World}{env:Env}{e:Expr}{f:Str}{pos:Pos}{s:fv}{Q:Value->fv->Prop}(hb:attributeBase e f env (eval e env)=eval e env)
 (h:wpAny (model prog w) A (eval e env) (λo a=>wpAny (model prog w) A (getAttr o f true) Q E a) E s):wpAny (model prog w) A (eval (.Attribute e f pos) env) Q E s :=
 Attribute_any_ h (by rw[arm_eval_Attribute,hb])
end
def kr(K:W.Frag)(c:TE)(f:Str):TE:=λσ H Q=>c σ H λx b=>∃a C dx fs v,x=.ref a/\b a=some (.ins C dx fs)/\Cls K C/\NoAttr K C f/\fs.lookup f=some v/\Q v b
def Dc(K:W.Frag)(e d:TE)(f:Str):TS:=λD σ H=>d σ H λy c=>e σ c λx b=>∃a C dx fs,x=.ref a/\b a=some (.ins C dx fs)/\Cls K C/\NoAttr K C f/\fs.length<1000 /\
 D.nx σ (upd b a (.ins C dx (cy f y fs)))
def GY(X:Cx)(b:Operator)(rd:V->V->Hp->VK->Prop):Prop :=
 ∀(a:List (Addr × Obj)) (s:fv) (σ:St) (H:Hp) (x y:V) (u v:Value) (Q:VK),ag X a σ H s->aP x u->aP y v->rd x y H Q->wpAny (model X.prog X.w) X.A (inplaceOp b u v) (EP X a σ Q) X.xe s
def Db(K:W.Frag)(g e:TE)(rd:V->V->Hp->VK->Prop)(f:Str):TS:=λD σ H=>g σ H λx b=>∃a C dx fs v,x=.ref a/\b a=some (.ins C dx fs)/\Cls K C/\NoAttr K C f/\fs.lookup f=some v /\
 e σ b λy d=>rd v y d λz c=>∃dx' fs',c a=some (.ins C dx' fs')/\fs'.length<1000/\D.nx σ (upd c a (.ins C dx' (cy f z fs')))
section
variable {X:Cx}{o e value:Expr}{f:Str}{pos pos' tpos:Pos}{ta tv:TE}
def Nr(d:PE X e ta)(hb:attributeBase e f X.env (eval e X.env)=eval e X.env):PE X (.Attribute e f pos) (kr X.K ta f):=by
 intro b s σ H Q I h;refine GN hb (aw (d b s σ H _ I h) λu s1 ⟨x,g,o,m,a,C,dx,fs,v,ex,k,c,n,l,q⟩=>?_);subst ex;obtain rfl:u=Value.ref a:=m;exact FD o k c n l λr p i j=>⟨v,g,i,j,q⟩
def MQ(d:PE X o ta)(k:PE X value tv)(hs:swapsWith value (some (.Attribute o f pos')) pos.line X.env=pure false):PS X (.Assign [.Attribute o f pos'] value pos) (Dc X.K ta tv f):=by
 intro b s σ H D I h;refine plainObj_wpAny_Assign_Attribute (aw (k b s σ H _ I h) λu s1 ⟨y,g,z,j,q⟩=>aw (d b s1 σ g _ z q) λm B ⟨x,F,i,v,a,C,dx,fs,ex,r,c,n,l,p⟩=>?_) hs;subst ex;obtain rfl:m=Value.ref a:=v;exact CP i r c n l j λG e=>⟨σ,_,e,p⟩
def MP{g:Operator}{rd:V->V->Hp->VK->Prop}(ha:PE X o ta)(J:PE X value tv)(e:GY X g rd):PS X (.AugAssign (.Attribute o f tpos) g value pos) (Db X.K ta tv rd f):=by
 intro b s σ H D I h;refine wpAny_AugAssign_AttributeAny (aw (ha b s σ H _ I h) λN s1 ⟨x,F,p,rx,a,C,dx,fs,v,ex,m,c,n,l,q⟩=>?_);subst ex;obtain rfl:N=Value.ref a:=rx;refine FD p m c n l λu O G k=>aw (J b O σ F _ G q) λj M ⟨y,H2,B,R,L⟩=>aw (e b M σ H2 v y u j _ B k R L) λw4 s4 ⟨z,H3,i,r,Y,a2,d,S,U⟩=>?_;exact CP i d c n S r λs5 W=>⟨σ,_,W,U⟩
def Dr:V->V->Hp->VK->Prop:=λx y H Q=>∃i j,x=.int i/\y=.int j/\Q (.int (i+j)) H
def Pp:GY X .Add Dr:=by
 rintro a s σ H x y u v Q I b c ⟨i,j,rfl,rfl,q⟩;obtain⟨t,rfl⟩:=(show ∃t,u=Value.int i t from b);obtain⟨t',rfl⟩:=(show ∃t',v=Value.int j t' from c);exact PyProof.Rows.iadd_int ⟨.int (i+j),H,I.tok _,⟨_,Z⟩,q⟩
end
section
variable {X:Cx}{pins:List (Addr × Obj)}{σ:St}{H:Hp}{s:fv}{A:Around}{E:Value->fv->Prop}{Q:Value->fv->Prop}{c:Value}{b:Bool}
inductive eQ (K:W.Frag) (H:Hp):V->Value->Prop where
 | non:eQ K H .non (.type "NoneType")
 | bl (x:Bool):eQ K H (.bl x) (.type "bool")
 | int (i:Int):eQ K H (.int i) (.type "int")
 | str (x:Str):eQ K H (.str x) (.type "str")
 | flt (x:UInt64):eQ K H (.flt x) (.type "float")
 | lst {a:Addr} {xs:List V} (e:H a=some (.lst xs)):eQ K H (.ref a) (.type "list")
 | frz {a:Addr} {o:Obj} {xs:List V} (e:H a=some (.frz o (.lst xs))):eQ K H (.ref a) (.type "list")
 | tup {a:Addr} {xs:List V} (e:H a=some (.tup xs)):eQ K H (.ref a) (.type "tuple")
 | dK {a:Addr} {kvs:List (aQ × V)} (e:H a=some (.dK kvs)):eQ K H (.ref a) (.type "dict")
 | dT {a:Addr} {kvs:List (List aQ × V)} (e:H a=some (.dT kvs)):eQ K H (.ref a) (.type "dict")
 | ins {a C dx:Addr} {fs:List (Str × V)} (e:H a=some (.ins C dx fs)) (cl:Cls K C) (ha:W.findIn K (.ref C) "__class__" = some (some (.builtin "object.__class__")))
  (hn:W.specialIn K (.builtin "object.__class__") "__get__" = some (some (.builtin "getset_descriptor.__get__"))) (htk:W.takesIn K (.builtin "object.__class__")=some true)
  (hm:W.mroIn K C (.type "object")=some true):eQ K H (.ref a) (.ref C)
def EJ{x:V}{u t:Value}(I:ag X pins σ H s)(d:aP x u)(ty:eQ X.K H x t)(e:W.kitOne X.K t c=some b)(h:∀tk,Q (.bool b) { s with toks:=tk }) :
 wpAny (model X.prog X.w) A (call (.builtin "isinstance") [u,c]) Q E s:=by
 cases ty with
 | non=>cases (show u=Value.none from d);exact W.kia_one W.kitx_none I.kIn True.intro e (λz=>nomatch z) h
 | bl y=>cases (show u=Value.bool y from d);exact W.kia_one W.kitx_bool I.kIn True.intro e (λz=>nomatch z) h
 | int i=>obtain⟨t,q⟩:=(show ∃t,u=Value.int i t from d);cases q;exact W.kia_one W.kitx_int I.kIn True.intro e (λz=>nomatch z) h
 | str y=>obtain⟨t,q⟩:=(show ∃t,u=Value.str y t from d);cases q;exact W.kia_one W.kitx_str I.kIn True.intro e (λz=>nomatch z) h
 | flt y=>obtain⟨t,q⟩:=(show ∃t,u=Value.float y t from d);cases q;exact W.kia_one W.kitx_float I.kIn True.intro e (λz=>nomatch z) h
 | @lst a xs ea =>
  cases (show u=Value.ref a from d);obtain⟨_,_,n,_,f⟩:=(show bt X.prog X.w H s.heap a (.lst xs) from I.hok a _ ea);exact W.kia_one W.kitx_list I.kIn ⟨_,f,rfl⟩ e (λz=>nomatch z) h
 | @frz a ob xs ea =>
  cases (show u=Value.ref a from d);obtain⟨_,_,_,n,_,f⟩:=(show bt X.prog X.w H s.heap a (.frz ob (.lst xs)) from I.hok a _ ea);exact W.kia_one W.kitx_list I.kIn ⟨_,f,rfl⟩ e (λz=>nomatch z) h
 | @tup a xs ea =>
  cases (show u=Value.ref a from d);obtain⟨_,_,_,p⟩:=(show bt X.prog X.w H s.heap a (.tup xs) from I.hok a _ ea);obtain⟨o,f,g,_⟩:=p;exact W.kia_one W.kitx_tuple I.kIn ⟨o,f,g⟩ e (λz=>nomatch z) h
 | @dK a kvs ea =>
  cases (show u=Value.ref a from d);obtain⟨_,_,vs,_,p⟩:=(show bt X.prog X.w H s.heap a (.dK kvs) from I.hok a _ ea);obtain⟨o,es,j,f,g,_⟩:=p;exact W.kia_one W.kitx_dict I.kIn ⟨o,f,g.1⟩ e (λz=>nomatch z) h
 | @dT a kvs ea =>
  cases (show u=Value.ref a from d);obtain⟨_,_,xs,_,o,es,j,f,g,_⟩:=(show bt X.prog X.w H s.heap a (.dT kvs) from I.hok a _ ea);exact W.kia_one W.kitx_dict I.kIn ⟨o,f,g.1⟩ e (λz=>nomatch z) h
 | @ins a C dx fs ea cl ha hn htk hm =>
  cases (show u=Value.ref a from d);obtain⟨mA,O,_⟩:=rM I.hok ea;obtain⟨k,J,_⟩:=O.look;exact W.kia_one (W.kitx_own (cl.get _) cl.hd ha hn htk hm) I.kIn J e (λz=>nomatch z) h
end
structure bH (k:Nat) (A:Around):Prop where
 hd:A.handled=none
 dp:A.depth+3*k+5<recursionLimit
 un:A.units+16*k+200<cLine
def bH.mono{j k:Nat}{A:Around}(r:bH k A)(h:j<=k):bH j A:=⟨r.hd,by have:=r.dp;omega,by have:=r.un;omega⟩
def bH.deeper{k:Nat}{A:Around}(r:bH (k+1) A)(env:Env):bH k (A.deeper env) :=
 ⟨r.hd,by have:=r.dp;show A.depth+1+3*k+5<_;omega,by have:=r.un;show A.units+3+16*k+200<_;omega⟩
def OM {A:Around} {C:Addr} {us:List Value} {a:List (Str × Value)}:(A.under (.builtin "type.__call__" ⟨.ref C::us,a⟩)).depth=A.depth+1:=by
 first|rfl|simp[Around.under,Code.weight,Code.isCreation,Code.isGuard,Code.isCaller,Code.frames,Code.isFrame,guardIds]
def OJ {A:Around} {C:Addr} {us:List Value} {a:List (Str × Value)}:(A.under (.builtin "type.__call__" ⟨.ref C::us,a⟩)).units=A.units+1:=by
 first|rfl|simp[Around.under,Code.cUnits,Code.frames,Code.isFrame]
def bH.make {k:Nat} {A:Around} (r:bH (k+1) A) (C:Addr) (us:List Value) (a:List (Str × Value)):bH k (A.under (.builtin "type.__call__" ⟨.ref C::us,a⟩)) :=
 ⟨r.hd,by have:=r.dp;rw[OM];omega,by have:=r.un;rw[OJ];omega⟩
def bH.depth{k:Nat}{A:Around}(r:bH k A):A.depth<recursionLimit:=by have:=r.dp;omega
def bH.units{k:Nat}{A:Around}(r:bH k A):A.units+64<cLine:=by have:=r.un;omega
def ff:TA:=λ_ H Q=>Q [] H
def je(d:TE)(b:TA):TA:=λσ H Q=>d σ H λx a=>b σ a λxs c=>Q (x::xs) c
section
variable {X:Cx}{e:Expr}{es:List Expr}{te:TE}{t:TA}{pos:Pos}
def DL:PA X [] ff:=λ_ _ _ _ H Q I h=>Calls.spliced_nil ⟨[],H,I,.nil,h⟩
def NI(b:PE X e te)(l:PA X es t)(hs:starEach (e::es) X.env=(false,eval e X.env)::starEach es X.env:=by rfl):PA X (e::es) (je te t):=by
 intro pos a s σ H Q I h;rw[hs];show wpAny _ _ (spliced ((false,eval e X.env)::backTo pos (starEach es X.env))) _ _ s;refine Calls.spliced_cons (aw (b a s σ H _ I h) λu s1 ⟨x,d,m,c,j⟩=>?_);exact aw (l pos a s1 σ d _ m j) λus n ⟨xs,i,g,f,k⟩=>⟨x::xs,i,g,.cons c f,k⟩
end
abbrev Sp:=List V->Hp->VK->XK->Prop
abbrev gU:=List Env->Hp->fv->XK->Value->fv->Prop
structure ki (P:Program) (w:World) (K:W.Frag) (mg:Str->Option Value) (base:Heap) (A:Around) (outer:List Env) (s:fv) (H:Hp):Prop where
 frames:A.frames=some outer
 mod:Mod K mg base
 bs:∀b o,base.get? b=some o->s.heap.get? b=some o/\H b=none
 bsz:base.objs.size<=s.heap.objs.size
 funs:s.heap.FunFrames base outer
 frf:∀b∈cJ outer,H b=none
 hok:bC P w H s.heap
 bare:AllBare s.gens
def CE(outer:List Env)(P:Program)(w:World)(H:Hp)(s:fv)(Q:VK)(u:Value)(a:fv):Prop :=
 ∃v H',a.os=s.os/\AllBare a.gens/\Un (cJ outer) [] H H' s.heap a.heap/\bC P w H' a.heap/\aP v u/\Q v H'
def CR(CX:gU)(outer:List Env)(P:Program)(w:World)(H:Hp)(s:fv)(Q:VK)(E:XK)(r:Result)(a:fv):Prop :=
 match r with
 | .ok (.ret u)=>CE outer P w H s Q u a
 | .ok _=>False
 | .error e=>CX outer H s E e a
structure bo (P:Program) (w:World) (K:W.Frag) (mg:Str->Option Value) (base:Heap) (CX:gU) (k:Nat) (f:Addr) (fd:FuncData) (ps:List Str) (sp:Sp):Prop where
 len:∀vs H Q E,sp vs H Q E->vs.length=ps.length
 run:∀(A:Around) (outer:List Env) (s:fv) (H:Hp) (args:Args) (us:List Value) (vs:List V) (Q:VK) (E:XK),bH k A->ki P w K mg base A outer s H->BindsTo s fd args (ps.zip us)->ay vs us->sp vs H Q E ->
  codeAny (model P w) A (.call (.ref f) args) (CR CX outer P w H s Q E) s
def bo.mono{P:Program}{w:World}{K:W.Frag}{mg:Str->Option Value}{base:Heap}{CX:gU}{j k:Nat}{f:Addr}{a:FuncData}{ps:List Str}{sp:Sp}(F:bo P w K mg base CX j f a ps sp)(h:j<=k) :
 bo P w K mg base CX k f a ps sp:=⟨F.len,λA outer s H args us vs Q E b=>F.run A outer s H args us vs Q E (b.mono h)⟩
def ki.make{P:Program}{w:World}{K:W.Frag}{mg:Str->Option Value}{base:Heap}{A:Around}{outer:List Env}{s:fv}{H:Hp}(e:ki P w K mg base A outer s H)(C:Addr)(us:List Value)(a:List (Str × Value)) :
 ki P w K mg base (A.under (.builtin "type.__call__" ⟨.ref C::us,a⟩)) outer s H:=⟨by first|exact e.frames|(simpa [Around.under,Code.envs,Code.isFrame,pushEnvs] using e.frames),e.mod,e.bs,e.bsz,e.funs,e.frf,e.hok,e.bare⟩
section
variable {X:Cx}{pins:List (Addr × Obj)}{σ:St}{H:Hp}{s s':fv}
def ag.env0(I:ag X pins σ H s):ki X.prog X.w X.K X.mg X.base X.A X.stack s H :=
 ⟨I.ok.frames,I.ok.mod,I.bs,WP I.ok.bsz I.sz,I.stack,I.stkFree,I.hok,I.bare⟩
def ag.after{Q:VK}{u:Value}(I:ag X pins σ H s)(h:CE X.stack X.prog X.w H s Q u s'):EP X pins σ Q u s':=by
 obtain⟨v,c,os,bare,un,hok,r,q⟩:=h;obtain⟨e,g,d,t,a⟩:=s';obtain rfl:a=s.os:=os;exact⟨v,c,I.call (h':=e) (g':=g) (d':=d) (t':=t) (ch:=[]) un hok bare (λb z=>ZR z (by simp)),r,q⟩
end
def mO(sp:Sp)(a:List V)(E:XK)(t:TA):TE:=λσ H Q=>t σ H λvs b=>sp (vs++a) b Q E
def fS(C:Addr)(m:Str)(sp:Sp)(b:List V)(E:XK)(e:TE)(t:TA):TE:=λσ H Q=>e σ H λx c=>∃a dx fs,x=.ref a/\c a=some (.ins C dx fs)/\fs.lookup m=none /\
 t σ c λvs d=>sp (x::(vs++b)) d Q E
def B6(C:Addr)(sp:Sp)(b:List V)(E:XK)(t:TA):TE:=λσ H Q=>t σ H λvs a=>∀x dx,a x=none->a dx=none->dx≠x ->
 sp (.ref x::(vs++b)) (upd (upd a dx (.own x)) x (.ins C dx [])) (λv c=>v=.non/\Q (.ref x) c) E
def aq(K:W.Frag)(b:FuncData)(ps:List Str)(a:List Value):Prop :=
 ∀(s:fv) (us:List Value),K.In s.heap->(us++a).length=ps.length->BindsTo s b ⟨us,[]⟩ (ps.zip (us++a))
def aq.all{K:W.Frag}{b:FuncData}{ps:List Str}(h:∀us:List Value,us.length=ps.length->bindArgs b ⟨us,[]⟩=pure (ps.zip us)):aq K b ps []:=λs us _ a=>by
 rw[WM]at a ⊢;exact .of_eq (h us a)
def kg(CX:gU)(X:Cx)(E:XK):Prop:=∀(a:List (Addr × Obj)) (σ:St) (H:Hp) (s:fv) (e:Value) (b:fv),ag X a σ H s->CX X.stack H s E e b->X.xe e b
section
variable {X:Cx}{CX:gU}{k:Nat}{f C:Addr}{fd:FuncData}{ps:List Str}{sp:Sp}{dvs:List V}{ds:List Value}{E:XK}{x m:Str}{p pos apos:Pos}{e o:Expr}{es:List Expr}{ta:TE}{t:TA}
def ri{a:List (Addr × Obj)}{σ:St}{H:Hp}{s:fv}{Q:VK}{us:List Value}{vs:List V}(F:bo X.prog X.w X.K X.mg X.base CX k f fd ps sp)(d:bH k X.A)(hb:aq X.K fd ps ds)(hd:ay dvs ds)(hx:kg CX X E)
 (I:ag X a σ H s) (r:ay vs us) (h:sp (vs++dvs) H Q E):wpAny (model X.prog X.w) X.A (call (.ref f) us) (EP X a σ Q) X.xe s:=by
 have b:ay (vs++dvs) (us++ds):=r.append hd;have c:(us++ds).length=ps.length:=by rw[<- b.length];exact F.len _ _ _ _ h
 refine wpAny_call (codeAny_mono (F.run X.A X.stack s H ⟨us,[]⟩ (us++ds) (vs++dvs) Q E d I.env0 (hb s us I.kIn c) b h) λr g hq=>?_);cases r with
 | error e=>exact hx a σ H s e g I hq
 | ok fl =>
  cases fl with
  | ret u=>exact I.after hq
  | next=>exact False.elim hq
  | brk=>exact False.elim hq
  | cont=>exact False.elim hq
def ND(F:bo X.prog X.w X.K X.mg X.base CX k f fd ps sp)(m:bH k X.A)(n:Gl X x)(l:X.mg x=some (.ref f))(j:W.keepIn X.K (.ref f)=true)(hb:aq X.K fd ps ds)(hd:ay dvs ds)(hx:kg CX X E)
 (g:PA X (e::es) t) (b:(x == ("__debug__" : Str))=false:=by decide) (i:starEach (e::es) X.env=(false,eval e X.env)::starEach es X.env:=by rfl) (c:(backTo pos (starEach es X.env)).any (·.1)=false:=by rfl) :
 PE X (.Call (.Name x p) (e::es) [] pos) (mO sp dvs E t):=by
 intro a s σ H Q I h;refine wpAny_Call_Name_kw (kN I n l ?_ b);refine W.callWith_K (h₀:=X.base) I.ok.mod.kin j (aw (g pos a s σ H _ I h) λus s1 ⟨vs,o,d,r,q⟩=>⟨d.kIn,?_⟩) i c;exact ri F m hb hd hx d r q
def DG{pl:Sem Bool}(v:PE X o ta)(c:Cls X.K C)(j:Meth X.K C m f)(F:bo X.prog X.w X.K X.mg X.base CX k f fd ps sp)(J:bH k X.A)(hb:aq X.K fd ps ds)(hd:ay dvs ds)(hx:kg CX X E)(p:PA X (e::es) t)
 (g:starEach (e::es) X.env=(false,eval e X.env)::starEach es X.env:=by rfl) (d:(backTo pos (starEach es X.env)).any (·.1)=false:=by rfl)
 (B:eval (.Call (.Attribute o m apos) (e::es) [] pos) X.env=(do
   let ov <- eval o X.env
   standAt apos.atName
   let (f,first) <- holding [ov] (getMethod ov m pl)
   callWith pos f first (backTo pos (starEach (e::es) X.env)) (backToKw pos (keywordEach [] X.env))):=by rfl) :
 PE X (.Call (.Attribute o m apos) (e::es) [] pos) (fS C m sp dvs E ta t):=by
 intro b s σ H Q I h;refine W.methodCall_KW (pl:=pl) (aw (v b s σ H _ I h) λu s1 ⟨x,y,n,G,a,dx,fs,ex,z,l,q⟩=>?_) B;subst ex;obtain rfl:u=Value.ref a:=G;refine FC n z c j l ?_;refine W.callWith_K (first:=[.ref a]) (h₀:=X.base) I.ok.mod.kin j.kp (aw (p pos b s1 σ y _ n q) λus L ⟨vs,M,i,r,D⟩=>⟨i.kIn,?_⟩) g d;exact ri (us:=.ref a::us) (vs:=.ref a::vs) F J hb hd hx i (.cons Z r) D
def Nn{pl:Sem Bool}(g:PE X o ta)(c:Cls X.K C)(e:Meth X.K C m f)(F:bo X.prog X.w X.K X.mg X.base CX k f fd ps sp)(p:bH k X.A)(hb:aq X.K fd ps ds)(hd:ay dvs ds)(hx:kg CX X E)
 (i:eval (.Call (.Attribute o m apos) [] [] pos) X.env=(do
   let ov <- eval o X.env
   standAt apos.atName
   let (f,first) <- holding [ov] (getMethod ov m pl)
   callWith pos f first (backTo pos (starEach [] X.env)) (backToKw pos (keywordEach [] X.env))):=by rfl) :
 PE X (.Call (.Attribute o m apos) [] [] pos) (fS C m sp dvs E ta ff):=by
 intro b s σ H Q I h;refine W.methodCall_KW (pl:=pl) (aw (g b s σ H _ I h) λu s1 ⟨x,r,d,n,a,dx,fs,ex,j,l,q⟩=>?_) i;subst ex;obtain rfl:u=Value.ref a:=n;refine FC d j c e l ?_;exact W.callWith_K0 (first:=[.ref a]) d.kIn e.kp (ri (us:=[.ref a]) (vs:=[.ref a]) F p hb hd hx d (.cons rfl .nil) q)
structure Mk (K:W.Frag) (C f:Addr):Prop where
 makes:W.makesIn K C=true
 init:W.findIn K (.ref C) "__init__" = some (some (.ref f))
 fn:W.isFn K (.ref f)=true
 kp:W.keepIn K (.ref C)=true
def LO{b:List (Addr × Obj)}{σ:St}{H:Hp}{s:fv}{Q:VK}{us:List Value}{vs:List V}(M:Mk X.K C f)(F:bo X.prog X.w X.K X.mg X.base CX k f fd ps sp)(p:bH (k+1) X.A)(hb:aq X.K fd ps ds)(hd:ay dvs ds)
 (hx:kg CX X E) (I:ag X b σ H s) (r:ay vs us)
 (h:∀x dx,H x=none->H dx=none->dx≠x->sp (.ref x::(vs++dvs)) (upd (upd H dx (.own x)) x (.ins C dx [])) (λv n=>v=.non/\Q (.ref x) n) E) :
 wpAny (model X.prog X.w) X.A (call (.ref C) us) (EP X b σ Q) X.xe s:=by
 have hq:=h (s.heap.objs.size+1) s.heap.objs.size (I.hok.fresh (Xp _)) (I.hok.fresh (WB _)) (WL (WW _));have c:=ag.made (C:=C) I;have d:ay (V.ref (s.heap.objs.size+1)::(vs++dvs)) (Value.ref (s.heap.objs.size+1)::(us++ds)):=.cons rfl (r.append hd);have i:(Value.ref (s.heap.objs.size+1)::us++ds).length=ps.length:=by
  have e:=d.length;rw[F.len _ _ _ _ hq]at e;exact e.symm
 refine wpAny_call (OL (f:=f) I.kIn M.makes M.init (beq_iff_eq.mp M.fn) (codeAny_mono (F.run _ X.stack _ _ ⟨Value.ref (s.heap.objs.size+1)::us,[]⟩ (Value.ref (s.heap.objs.size+1)::(us++ds)) _ _ E (p.make C us [])
  (c.env0.make C us []) (hb _ (Value.ref (s.heap.objs.size+1)::us) c.kIn i) d hq) λr q a=>?_))
 cases r with
 | error e=>exact hx b σ _ _ e q c a
 | ok fl =>
  cases fl with
  | ret u =>
   obtain⟨v,o,g,m,l,j⟩:=c.after a;subst l;exact⟨m,⟨V.ref (s.heap.objs.size+1),o,g,Z,j⟩⟩
  | next=>exact False.elim a
  | brk=>exact False.elim a
  | cont=>exact False.elim a
def No(M:Mk X.K C f)(F:bo X.prog X.w X.K X.mg X.base CX k f fd ps sp)(l:bH (k+1) X.A)(m:Gl X x)(j:X.mg x=some (.ref C))(hb:aq X.K fd ps ds)(hd:ay dvs ds)(hx:kg CX X E)
 (g:PA X (e::es) t) (b:(x == ("__debug__" : Str))=false:=by decide) (i:starEach (e::es) X.env=(false,eval e X.env)::starEach es X.env:=by rfl) (c:(backTo pos (starEach es X.env)).any (·.1)=false:=by rfl) :
 PE X (.Call (.Name x p) (e::es) [] pos) (B6 C sp dvs E t):=by
 intro a s σ H Q I h;refine wpAny_Call_Name_kw (kN I m j ?_ b);refine W.callWith_K (h₀:=X.base) I.ok.mod.kin M.kp (aw (g pos a s σ H _ I h) λus s1 ⟨vs,n,d,r,q⟩=>⟨d.kIn,?_⟩) i c;exact LO M F l hb hd hx d r q
end
section
variable {X:Cx}{CX:gU}{k:Nat}{f C:Addr}{fd:FuncData}{ps ks:List Str}{sp:Sp}{E:XK}{x m:Str}{p pos apos kpos:Pos}{e o:Expr}{es:List Expr}{kws:List Keyword}{te ta:TE}{t tk:TA}{nm:Option Str}
structure Wk (K:W.Frag) (fd:FuncData) (ps ks:List Str) (g:List Value->List Value->List Value) (gV:List V->List V->List V):Prop where
 to:∀(s:fv) (us ws:List Value),K.In s.heap->(g us ws).length=ps.length->BindsTo s fd ⟨us,ks.zip ws⟩ (ps.zip (g us ws))
 rel:∀ {vs:List V} {us:List Value} {zs:List V} {ws:List Value},ay vs us->ay zs ws->ay (gV vs zs) (g us ws)
variable {g:List Value->List Value->List Value}{gV:List V->List V->List V}
end
structure ax (N P:List Str) (sc:Scope):Prop where
 kind:sc.kind=.function
 co:sc.isCoroutine=false
 gen:sc.isGenerator=false
 nd:N.Nodup
 pre:N.take P.length=P
 par:∀x∈P,sc.names.lookup x=some .local\/sc.names.lookup x=some .cell
 nofree:∀y∈sc.names,y.2 ≠ .free
theorem GI{kindOf:Str->Option NameKind}{x:Str}:∀ {binds:List (Str × Value)} {m:Str->Option Value},(∀v,(x,v)∉binds)->bindL kindOf binds m x=m x
 | [],_,_=>rfl
 | (n,v)::r,m,h=>by
  unfold bindL;rw[GI λw hw=>h w (W4 _ hw)]
  split
  ·have:x≠n:=by rintro rfl;exact h v W3
   simp[this]
  ·rfl
theorem GK{kindOf:Str->Option NameKind}{x:Str}:∀ {binds:List (Str × Value)} {m:Str->Option Value},(∀v,(x,v)∉binds)->bindC kindOf binds m x=m x
 | [],_,_=>rfl
 | (n,v)::r,m,h=>by
  unfold bindC;rw[GK λw hw=>h w (W4 _ hw)]
  split
  ·rfl
  ·have:x≠n:=by rintro rfl;exact h v W3
   simp[this]
theorem GJ{kindOf:Str->Option NameKind}{x:Str}{v:Value}:∀ {P:List Str} {vs:List Value} {i:Nat} {m:Str->Option Value},P.Nodup->P[i]? = some x->vs[i]? = some v->kindOf x=some .local ->
 bindL kindOf (P.zip vs) m x=some v
 | [],_,_,_,_,h,_,_=>by simp at h
 | _::_,[],_,_,_,_,h,_=>by simp at h
 | p::P,w::vs,0,m,nd,h1,h2,hk=>by
  simp at h1 h2;subst h1;subst h2;show bindL kindOf ((p,w)::P.zip vs) m p=_;unfold bindL;rw[GI λv a=>(X8.mp nd).1 (YI a).1,ZQ hk];simp
 | p::P,w::vs,i+1,m,nd,h1,h2,hk=>by
  show bindL kindOf ((p,w)::P.zip vs) m x=_;unfold bindL;exact GJ (i:=i) (X8.mp nd).2 (by simpa using h1) (by simpa using h2) hk
theorem GL{kindOf:Str->Option NameKind}{x:Str}{v:Value}:∀ {P:List Str} {vs:List Value} {i:Nat} {m:Str->Option Value},P.Nodup->P[i]? = some x->vs[i]? = some v->kindOf x≠some .local ->
 bindC kindOf (P.zip vs) m x=some v
 | [],_,_,_,_,h,_,_=>by simp at h
 | _::_,[],_,_,_,_,h,_=>by simp at h
 | p::P,w::vs,0,m,nd,h1,h2,hk=>by
  simp at h1 h2;subst h1;subst h2;show bindC kindOf ((p,w)::P.zip vs) m p=_;unfold bindC;rw[GK λv a=>(X8.mp nd).1 (YI a).1,ZP hk];simp
 | p::P,w::vs,i+1,m,nd,h1,h2,hk=>by
  show bindC kindOf ((p,w)::P.zip vs) m x=_;unfold bindC;exact GL (i:=i) (X8.mp nd).2 (by simpa using h1) (by simpa using h2) hk
def ir(N:List Str)(vs:List V):St:=vs.map some++List.replicate (N.length-vs.length) none
def gO(CX:gU)(P:Program)(w:World)(K:W.Frag)(mg:Str->Option Value)(base:Heap)(N:List Str)(qual:Str)(scope:Scope)(f:Addr)(b:Value)(A:Around)(outer:List Env)(s:fv)(H:Hp)(E:XK):Cx where
 prog:=P
 w:=w
 K:=K
 mg:=mg
 base:=base
 A:=A.deeper (envOfC qual scope s.heap.objs.size f b)
 N:=N
 s₀:=s
 H₀:=H
 env:=envOfC qual scope s.heap.objs.size f b
 outer:=outer
 stack:=envOfC qual scope s.heap.objs.size f b::outer
 ex:=[]
 calm:=true
 fn:=λ_=>true
 pn:=[]
 xe:=λe d=>wpAny (model P w) (A.deeper (envOfC qual scope s.heap.objs.size f b)) (leaving (envOfC qual scope s.heap.objs.size f b) e) (λ_ a=>CX outer H s E e a) (λc a=>CX outer H s E c a) d
def Gz{a:Scope}{n:Nat}{x:Str}(h:a.names.lookup x=some .cell):∃c,(cellsFrom n a.names []).lookup x=some c:=by
 have q:=W.cellsFrom_some a.names n [] (.inl h);exact YJ.mp q
def Pj{CX:gU}{P:Program}{w:World}{K:W.Frag}{mg:Str->Option Value}{base:Heap}{N ps:List Str}{qual:Str}{scope:Scope}{f:Addr}{B:Value}{A:Around}{outer:List Env}{s s1:fv}{H:Hp}{E:XK}{us:List Value}{vs:List V}
 (S:ax N ps scope) (hd:A.handled=none) (g:ki P w K mg base A outer s H) (J:vs.length=ps.length) (r:ay vs us)
 (x:InCallC s s.heap.objs.size (bindL (envOfC qual scope s.heap.objs.size f B).kindOf (ps.zip us) λ_=>none) (cellsFrom (s.heap.objs.size+1) scope.names []) (bindC (envOfC qual scope s.heap.objs.size f B).kindOf (ps.zip us) λ_=>none) s1) :
 ag (gO CX P w K mg base N qual scope f B A outer s H E) [] (ir N vs) H s1:=by
 have I:ps.length<=N.length:=by have:=congrArg List.length S.pre;rw[WO]at this;omega
 obtain⟨o,M,rfl,C⟩:=x.done;have noA:∀b:Addr,b∉(gO CX P w K mg base N qual scope f B A outer s H E).ex:=λb z=>ZR (show b∈([]:List Addr) from z) (by simp);refine⟨⟨g.mod,S.kind,rfl,rfl,WB _,λy z c o d=>?_,λy j=>?_,λy c _ h=>?_,λ_=>hd,Around.frames_deeper g.frames,.inr ⟨rfl,rfl⟩,λb z=>ZR z (noA b),g.bs,g.bsz,λb _ _=>noA b,λb z=>ZR z (noA b),g.funs,g.frf⟩,
  rfl,g.bare,Un.kept C,⟨_,x.toInCall.ns,λi y v o d L=>?_⟩,λy c h=>⟨_,x.cell y c h⟩,g.hok.fresh (WB _),λy c h=>?_,λp l=>ZR (show p∈([]:List (Addr × Obj)) from l) (by simp),g.hok.kept C,?_⟩
 ·exact name_of_addr x.apart (X9 o) (X9 d)
 ·have j:scope.names.lookup y=some .cell\/scope.names.lookup y=some .free:=j;rcases j with j|j
  ·exact Gz j
  ·exact ZR Z (S.nofree _ (X9 j))
 ·exact YH (x.above y c (X9 h))
 ·have m:i<vs.length:=by
   unfold ir at d;by_cases m:i<vs.length
   ·exact m
   ·rw[XA (by simpa using m)]at d;rw[YK]at d
    split at d<;>cases d
  have F:vs[i]? = some v:=by
   unfold ir at d;rw[XI (by simpa using m),WJ]at d;cases e:vs[i]? with
   | none=>rw[e]at d;cases d
   | some a=>rw[e]at d;cases d;rfl
  obtain⟨u,D,G⟩:=r.get F;have l:ps[i]? = some y:=by
   rw[<- S.pre,Yr (by omega)];exact o
  have ndP:ps.Nodup:=by rw[<- S.pre];exact S.nd.sublist (List.take_sublist _ _)
  refine⟨u,G,?_⟩;rcases S.par y (W8 l) with k|k
  ·exact .inl ⟨k,GJ ndP l D k⟩
  ·obtain⟨c,e⟩:=Gz (n:=s.heap.objs.size+1) k;refine .inr ⟨.inl k,c,e,?_⟩;have q:=x.cell y c e;rw[GL ndP l D (by show scope.names.lookup y≠_;rw[k];decide)]at q;exact q
 ·exact g.hok.fresh (YH (x.above y c (X9 h)))
 ·unfold ir;show _=N.length;rw[WC,WA,YL];omega
def xY{CX:gU}{P:Program}{w:World}{K:W.Frag}{mg:Str->Option Value}{base:Heap}{k:Nat}{f:Addr}{name qual:Str}{params:Arguments}{body:List Stmt}{scope:Scope}{dV kV h L a ct oc:Value}{G Y:Option Addr}
 {B:Array (Option Value)} {N ps:List Str} {sp:Sp} (R:K.lookup f=some ⟨oc,Y,.func (W.fnOf name qual params body scope dV kV h L G a ct),B⟩) (p:W.codeIn K a qual=true) (S:ax N ps scope)
 (len:∀vs H Q E,sp vs H Q E->vs.length=ps.length)
 (g:∀(A:Around) (outer:List Env) (s:fv) (H:Hp) (vs:List V) (Q:VK) (E:XK),bH k (A.deeper (envOfC qual scope s.heap.objs.size f a))->sp vs H Q E ->
   ∃t,gv (gO CX P w K mg base N qual scope f a A outer s H E) body t/\t { nx:=λ_ c=>Q .non c,rt:=Q } (ir N vs) H) :
 bo P w K mg base CX (k+1) f (W.fnOf name qual params body scope dV kV h L G a ct) ps sp:=by
 refine⟨len,λA outer s H args us vs Q E D j hb r l=>?_⟩;have hl:=len _ _ _ _ l;have M:K.In s.heap:=j.mod.kin.keeps λb o e=>(j.bs b o e).1;have z:s.heap.NoLimit:=j.mod.nolimit.keeps λb o e=>(j.bs b o e).1;have d:∀y∈ps.zip us,scope.names.lookup y.1=some .local\/(scope.names.lookup y.1=some .cell/\((cellsFrom (s.heap.objs.size+1) scope.names []).lookup y.1).isSome=true):=λ⟨n,v⟩ hy=>by
  rcases S.par n (YI hy).1 with q|q
  ·exact .inl q
  ·exact .inr ⟨q,W.cellsFrom_some _ _ _ (.inl q)⟩
 refine codeAny_call_function D.depth (M _ _ R) Z S.co S.gen Z (W.codeRec_of M p) (hb _ _ _ _ ?_);refine wpAny_newFunctionEnv_cells S.kind d λenv U s1 x=>?_;subst U;refine⟨z.keeps x.toInCall.keep,codeAny_func ?_⟩;obtain⟨t,O,hq⟩:=g A outer s H vs Q E (D.deeper _) l;have I:ag (gO CX P w K mg base N qual scope f a A outer s H E) [] (ir N vs) H s1:=Pj S D.hd j hl r x;refine wpAny_mono (O [] s1 (ir N vs) H _ I hq) (λfl F hs=>?_) λe F hs=>hs;have i:∀ {m:St} {c:Hp} {v:V} {u:Value},ag (gO CX P w K mg base N qual scope f a A outer s H E) [] m c F->aP v u->Q v c->CE outer P w H s Q u F :=
  λ{m c v u} J C q=>⟨v,c,J.os,J.bare,J.base,J.hok,C,q⟩
 cases fl with
 | ret u =>
  obtain⟨v,m,c,J,C,q⟩:=hs;exact i J C q
 | next =>
  obtain⟨m,c,J,q⟩:=hs;exact i (v:=V.non) (u:=Value.none) J Z q
 | brk =>
  obtain⟨_,_,_,q⟩:=hs;exact False.elim q
 | cont =>
  obtain⟨_,_,_,q⟩:=hs;exact False.elim q
section
variable {X:Cx}{x:Str}{p pos:Pos}{e:Expr}{es:List Expr}{t:TA}{id T:String}{r:List V->Hp->VK->Prop}
def jf(r:List V->Hp->VK->Prop)(t:TA):TE:=λσ H Q=>t σ H λvs a=>r vs a Q
def NC (l:cK X (.builtin id) r) (q:Gl X x) (n:X.mg x=none) (k:bootBuiltins x=some (.builtin id)) (d:PA X (e::es) t) (g:x ≠ "__name__":=by decide) (b:(x == ("__debug__" : Str))=false:=by decide)
 (i:starEach (e::es) X.env=(false,eval e X.env)::starEach es X.env:=by rfl) (c:(backTo pos (starEach es X.env)).any (·.1)=false:=by rfl):PE X (.Call (.Name x p) (e::es) [] pos) (jf r t):=by
 intro a s σ H Q I h;refine wpAny_Call_Name_kw (jo I q n k ?_ g b);exact PyProof.Rows.callWith_builtin1 (aw (d pos a s σ H _ I h) λus s1 ⟨vs,j,o,f,m⟩=>l a s1 σ j vs us Q o f m) i c
def NB (l:cK X (.type T) r) (q:Gl X x) (n:X.mg x=none) (k:bootBuiltins x=some (.type T)) (d:PA X (e::es) t) (g:x ≠ "__name__":=by decide) (b:(x == ("__debug__" : Str))=false:=by decide)
 (i:starEach (e::es) X.env=(false,eval e X.env)::starEach es X.env:=by rfl) (c:(backTo pos (starEach es X.env)).any (·.1)=false:=by rfl):PE X (.Call (.Name x p) (e::es) [] pos) (jf r t):=by
 intro a s σ H Q I h;refine wpAny_Call_Name_kw (jo I q n k ?_ g b);exact Xy (aw (d pos a s σ H _ I h) λus s1 ⟨vs,j,o,f,m⟩=>l a s1 σ j vs us Q o f m) i c
end
section
variable {κ:Type}[DecidableEq κ]
def bn(a:List (κ × V))(k:κ):Option V:=(a.find? λb=>decide (b.1=k)).map (·.2)
def cH(a:List (κ × V))(k:κ)(v:V):List (κ × V) :=
 if (a.any λb=>decide (b.1=k))=true then a.map (λb=>if b.1=k then (b.1,v) else b) else a++[(k,v)]
def io{p:κ × V}{r:List (κ × V)}{k:κ}(e:p.1=k):bn (p::r) k=some p.2:=by simp[bn,Xf,e]
def ip{p:κ × V}{r:List (κ × V)}{k:κ}(e:¬p.1=k):bn (p::r) k=bn r k:=by simp[bn,Xf,e]
theorem mK(k:κ):∀kvs:List (κ × V),(kvs.any λa=>decide (a.1=k))=(bn kvs k).isSome
 | []=>rfl
 | p::r=>by
  rw[XJ];by_cases e:p.1=k
  ·simp only [io e,ZT e,Bool.true_or,Option.isSome_some]
  ·rw[ip e,ZU e,Bool.false_or];exact mK k r
theorem BL(k j:κ)(y:V):∀kvs:List (κ × V),bn (kvs.map λa=>if a.1=k then (a.1,y) else a) j=(bn kvs j).map λx=>if j=k then y else x
 | []=>rfl
 | p::r=>by
  have ih:=BL k j y r;rw[W7];by_cases h:p.1=k
  ·rw[ZQ h];by_cases e:p.1=j
   ·rw[io (p:=(p.1,y)) e,io e,XM,ZQ (e.symm.trans h)]
   ·rw[ip (p:=(p.1,y)) e,ip e,ih]
  ·rw[ZP h];by_cases e:p.1=j
   ·rw[io (p:=p) e,io e,XM,ZP (λz=>h (e.trans z))]
   ·rw[ip (p:=p) e,ip e,ih]
theorem BK(k j:κ)(y:V):∀kvs:List (κ × V),bn kvs k=none->bn (kvs++[(k,y)]) j=if j=k then some y else bn kvs j
 | [],_=>by
  by_cases e:k=j
  ·rw[ZQ e.symm];exact io (p:=(k,y)) e
  ·rw[ZP (λz=>e z.symm)];exact ip (p:=(k,y)) e
 | p::r,hn=>by
  rw[List.cons_append];have a:¬p.1=k:=λz=>by rw[io z]at hn;cases hn
  rw[ip a]at hn;have ih:=BK k j y r hn;by_cases e:p.1=j
  ·rw[io e,io e,ZP (λz=>a (e.trans z))]
  ·rw[ip e,ip e,ih]
def iJ(b:List (κ × V))(k j:κ)(y:V):bn (cH b k y) j=if j=k then some y else bn b j:=by
 unfold cH;by_cases a:(b.any λc=>decide (c.1=k))=true
 ·rw[ZQ a,BL];rw[mK]at a;by_cases e:j=k
  ·obtain⟨x,hx⟩:=YJ.mp a;rw[ZQ e,e,hx,XM,ZQ rfl]
  ·rw[ZP e];cases bn b j with
   | none=>rfl
   | some x=>rw[XM,ZP e]
 ·rw[ZP a];refine BK k j y b ?_;rw[mK]at a;cases q:bn b k with
  | none=>rfl
  | some x=>rw[q]at a;exact (a Z).elim
def o4(a:List (κ × V))(k:κ)(v:V):(cH a k v).length<=a.length+1:=by
 unfold cH
 split
 ·rw[WA];omega
 ·rw[WC,W0,Ya];omega
def MB{a:List (κ × V)}{k:κ}(v:V)(h:bn a k=none):cH a k v=a++[(k,v)]:=by
 unfold cH;rw[mK,h];exact ZP (by decide)
def cZ.isSome_eq{o:Option V}{u:Option Value}(r:cZ o u):o.isSome=u.isSome:=by
 cases o with
 | none=>cases u with
  | none=>rfl
  | some _=>exact (show False from r).elim
 | some _=>cases u with
  | none=>exact (show False from r).elim
  | some _=>rfl
def cZ.getD{o:Option V}{u:Option Value}{d:V}{d':Value}(r:cZ o u)(rd:aP d d'):aP (o.getD d) (u.getD d'):=by
 cases o with
 | none=>cases u with
  | none=>exact rd
  | some _=>exact (show False from r).elim
 | some _=>cases u with
  | none=>exact (show False from r).elim
  | some _=>exact r
def KV.val{a:List (κ × V)}{vs:List (κ × Value)}(r:KV a vs)(k:κ):cZ (bn a k) (valueAt vs k):=by
 unfold KV at r
 induction r with
 | nil=>exact True.intro
 | @cons p q ps qs h t ih =>
  obtain⟨d,f⟩:=h;by_cases e:p.1=k
  ·have c:q.1=k:=d.symm.trans e;have b:valueAt (q::qs) k=some q.2:=by simp[valueAt,Xf,c]
   rw[io e,b];exact f
  ·have c:¬q.1=k:=λz=>e (d.trans z);have b:valueAt (q::qs) k=valueAt qs k:=by simp[valueAt,Xf,c]
   rw[ip e,b];exact ih
def KV.any{a:List (κ × V)}{vs:List (κ × Value)}(r:KV a vs)(k:κ):(a.any λb=>decide (b.1=k))=vs.any λb=>decide (b.1=k):=by
 unfold KV at r
 induction r with
 | nil=>rfl
 | cons h t ih=>rw[XJ,XJ,ih,h.1]
def KV.repl{b:List (κ × V)}{vs:List (κ × Value)}(r:KV b vs)(k:κ){y:V}{u:Value}(f:aP y u) :
 KV (b.map λa=>if a.1=k then (a.1,y) else a) (vs.map λa=>if a.1=k then (a.1,u) else a):=by
 unfold KV at r ⊢
 induction r with
 | nil=>exact .nil
 | @cons p q ps qs h t ih =>
  rw[W7,W7];refine .cons ?_ ih;obtain⟨c,d⟩:=h;by_cases e:p.1=k
  ·rw[ZQ e,ZQ (c.symm.trans e)];exact⟨c,f⟩
  ·rw[ZP e,ZP (λz=>e (c.trans z))];exact⟨c,d⟩
def KV.put{a:List (κ × V)}{vs:List (κ × Value)}(r:KV a vs)(k:κ){y:V}{u:Value}(b:aP y u):KV (cH a k y) (stored vs k u):=by
 unfold cH stored;rw[r.any k];by_cases e:(vs.any λc=>decide (c.1=k))=true
 ·rw[ZQ e,ZQ e];exact r.repl k b
 ·rw[ZP e,ZP e];exact Paired.snoc r ⟨rfl,b⟩
def KV.length{a:List (κ × V)}{vs:List (κ × Value)}(r:KV a vs):a.length=vs.length:=Paired.length r
end
def jq{P:Program}{w:World}{k:aQ}{u:Value}(r:aP (kV k) u):(cz P w).is k u=true:=by
 cases k with
 | inl i=>obtain⟨t,e⟩:=(show ∃t,u=Value.int i t from r);subst e;exact D7 P w i t
 | inr x=>obtain⟨t,e⟩:=(show ∃t,u=Value.str x t from r);subst e;exact D6 P w x t
theorem EG{P:Program}{w:World}:∀ {a:List aQ} {us:List Value},ay (a.map kV) us->ItemsAre (cz P w) a us
 | [],_,r=>by rw[List.map_nil]at r;cases r;exact .nil
 | k::a,_,r=>by
  rw[W7]at r;cases r with
  | cons h t=>exact .cons (jq h) (EG t)
abbrev KT(H:Hp):List (List aQ × V)->List (List aQ × Addr × Value)->Prop:=Paired λp q=>p.1=q.1/\H q.2.1=some (.tup (p.1.map kV))/\aP p.2 q.2.2
def KT.val{H:Hp}{a:List (List aQ × V)}{xs:List (List aQ × Addr × Value)}(r:KT H a xs)(k:List aQ):cZ (bn a k) ((atKey xs k).map (·.2)):=by
 induction r with
 | nil=>exact True.intro
 | @cons p q ps qs h t ih =>
  obtain⟨d,_,f⟩:=h;by_cases e:p.1=k
  ·have c:q.1=k:=d.symm.trans e;have b:atKey (q::qs) k=some q.2:=by simp[atKey,Xf,c]
   rw[io e,b];exact f
  ·have c:¬q.1=k:=λz=>e (d.trans z);have b:atKey (q::qs) k=atKey qs k:=by simp[atKey,Xf,c]
   rw[ip e,b];exact ih
def KT.repl{H:Hp}{a:List (List aQ × V)}{xs:List (List aQ × Addr × Value)}(r:KT H a xs)(k:List aQ){y:V}{u:Value}(f:aP y u) :
 KT H (a.map λc=>if c.1=k then (c.1,y) else c) (xs.map (putAt k u)):=by
 induction r with
 | nil=>exact .nil
 | @cons p q ps qs h t ih =>
  rw[W7,W7];refine .cons ?_ ih;obtain⟨b,d,g⟩:=h;unfold putAt;by_cases e:p.1=k
  ·rw[ZQ e,ZQ (b.symm.trans e)];exact⟨b,d,f⟩
  ·rw[ZP e,ZP (λz=>e (b.trans z))];exact⟨b,d,g⟩
def KT.put{H:Hp}{a:List (List aQ × V)}{xs:List (List aQ × Addr × Value)}(r:KT H a xs)(k:List aQ){b:Addr}{y:V}{u:Value}(hb:H b=some (.tup (k.map kV)))(c:aP y u) :
 KT H (cH a k y) (storedH xs k b u):=by
 have e:(a.any λd=>decide (d.1=k))=(atKey xs k).isSome:=by
  rw[mK,(r.val k).isSome_eq,Ys]
 unfold cH storedH;rw[e];by_cases q:(atKey xs k).isSome=true
 ·rw[ZQ q,ZQ q];exact r.repl k c
 ·rw[ZP q,ZP q];exact Paired.snoc r ⟨rfl,hb,c⟩
def KT.keeps{H c:Hp}{a:List (List aQ × V)}{xs:List (List aQ × Addr × Value)}(r:KT H a xs)(d:∀b ys,H b=some (.tup ys)->c b=some (.tup ys)):KT c a xs :=
 Paired.mapP r λ_ _ z=>⟨z.1,d _ _ z.2.1,z.2.2⟩
section
variable {P:Program}{w:World}{H:Hp}{h:Heap}{a:Addr}
def Do{u:HO}(ok:bC P w H h)(e:Rd H a u):bt P w H h a u:=e.ok ok
def lf{b:List (aQ × V)}(ok:bC P w H h)(e:Rd H a (.dK b)):b.length<=sizeLine/\(a == sysModules)=false/\∃vs,KV b vs/\h.DictOf (cz P w) a vs :=
 show bt P w H h a (.dK b) from Do ok e
def SD{b:List (aQ × V)}(ok:bC P w H h)(e:H a=some (.dK b)):b.length<=sizeLine/\(a == sysModules)=false/\∃vs,KV b vs/\h.DictOf (cz P w) a vs:=lf ok (.inl e)
def lZ{b:List aQ}(ok:bC P w H h)(e:H a=some (.tup (b.map kV))):(tupleKind (cz P w)).is h b a:=by
 obtain⟨_,c,r,o,g,d,n,f⟩:=(show bt P w H h a (.tup (b.map kV)) from ok a _ e);exact⟨o,c.toArray,n,g,d,f,by simpa using EG r⟩
def kZ{b:List (List aQ × V)}(ok:bC P w H h)(e:Rd H a (.dT b)):b.length<=sizeLine/\(a == sysModules)=false /\
 ∃xs,KT H b xs/\h.DictOfH (tupleKind (cz P w)) a xs:=by
 obtain⟨z,y,xs,r,o,es,f,i,c,g,d,j⟩:=(show bt P w H h a (.dT b) from Do ok e);refine⟨z,y,xs,r,o,es,f,i,c,g,d,λx hx=>?_,j⟩;have all:∀ {l:List (List aQ × V)} {m:List (List aQ × Addr × Value)},KT H l m->∀x∈m,(tupleKind (cz P w)).is h x.1 x.2.1:=by
  intro l m q
  induction q with
  | nil=>intro x hx;exact nomatch hx
  | @cons p q ps qs hq t ih =>
   intro x hx;rcases WU.mp hx with e|hx
   ·subst e;exact lZ ok (by rw[<- hq.1];exact hq.2.1)
   ·exact ih x hx
 exact all r x hx
def SB{b:List (List aQ × V)}(ok:bC P w H h)(e:H a=some (.dT b)):b.length<=sizeLine/\(a == sysModules)=false /\
 ∃xs,KT H b xs/\h.DictOfH (tupleKind (cz P w)) a xs:=kZ ok (.inl e)
end
def c6(H:Hp)(a:Addr)(y:V)(r:Option V):Prop :=
 (∃kvs k,Rd H a (.dK kvs)/\y=kV k/\r=bn kvs k)\/∃kvs k b,Rd H a (.dT kvs)/\y=.ref b/\H b=some (.tup (k.map kV))/\r=bn kvs k
def jc(H:Hp)(a:Addr)(y v:V)(c:Hp):Prop :=
 (∃kvs k,H a=some (.dK kvs)/\y=kV k/\kvs.length<sizeLine/\c=upd H a (.dK (cH kvs k v))) \/
 ∃kvs k b,H a=some (.dT kvs)/\y=.ref b/\H b=some (.tup (k.map kV))/\kvs.length<sizeLine/\c=upd H a (.dT (cH kvs k v))
def c6.k{H:Hp}{a:Addr}{b:List (aQ × V)}{k:aQ}(e:H a=some (.dK b)):c6 H a (kV k) (bn b k):=.inl ⟨b,k,.inl e,rfl,rfl⟩
def c6.t{H:Hp}{a b:Addr}{c:List (List aQ × V)}{k:List aQ}(e:H a=some (.dT c))(d:H b=some (.tup (k.map kV))):c6 H a (.ref b) (bn c k):=.inr ⟨c,k,b,.inl e,rfl,d,rfl⟩
def jc.k{H:Hp}{a:Addr}{b:List (aQ × V)}{k:aQ}{v:V}(e:H a=some (.dK b))(c:b.length<sizeLine):jc H a (kV k) v (upd H a (.dK (cH b k v))):=.inl ⟨b,k,e,rfl,c,rfl⟩
def jc.t{H:Hp}{a b:Addr}{c:List (List aQ × V)}{k:List aQ}{v:V}(e:H a=some (.dT c))(d:H b=some (.tup (k.map kV)))(f:c.length<sizeLine) :
 jc H a (.ref b) v (upd H a (.dT (cH c k v))):=.inr ⟨c,k,b,e,rfl,d,f,rfl⟩
section
variable {X:Cx}{pins:List (Addr × Obj)}{σ:St}{H:Hp}{s:fv}{a:Addr}{y v:V}{u r:Value}{o:Option V}{A:Around}{E:Value->fv->Prop}
def ag.big(I:ag X pins σ H s):sysModules<s.heap.objs.size:=by
 have h:mainGlobals<s.heap.objs.size:=(I.mod.glob.keeps I.bk).lt;exact Nat.lt_trans (by decide) h
def SM{Q:Value->fv->Prop}(n:A.units+1<cLine)(I:ag X pins σ H s)(g:c6 H a y (some v))(m:aP y u)(h:∀f s',ag X pins σ H s'->aP v f->Q f s') :
 wpAny (model X.prog X.w) A (getItem (.ref a) u) Q E s:=by
 rcases g with ⟨kvs,k,e,ey,l⟩|⟨kvs,k,b,e,ey,eb,l⟩
 ·subst ey;obtain⟨z,hd,vs,c,j⟩:=lf I.hok e;obtain⟨f,hw,d⟩:=cZ.some_of (v:=v) (o:=valueAt vs k) (by rw[l];exact c.val k);exact wpAny_getItem_of (jq m) j.mapOf hw (h f _ (I.tok _) d)
 ·subst ey;cases (show u=Value.ref b from m);obtain⟨z,hd,xs,c,j⟩:=kZ I.hok e;obtain⟨f,hw,d⟩:=cZ.some_of (v:=v) (o:=(atKey xs k).map (·.2)) (by rw[l];exact c.val k);obtain⟨p,q,i⟩:=Xq.mp hw;refine wpAny_getItem_heap (tupleKind_room_in1 n) (lZ I.hok eb) j q ?_;rw[i];exact h f _ (I.tok _) d
def SL{Q:Value->fv->Prop}(i:A.units+1<cLine)(I:ag X pins σ H s)(g:c6 H a y o)(f:aP y u)(h:∀s',ag X pins σ H s'->Q (.bool o.isSome) s') :
 wpAny (model X.prog X.w) A (compareOp .In u (.ref a)) Q E s:=by
 rcases g with ⟨kvs,k,e,ey,l⟩|⟨kvs,k,b,e,ey,eb,l⟩
 ·subst ey;obtain⟨z,hd,vs,c,d⟩:=lf I.hok e;refine wpAny_in_of (jq f) hd d.mapOf ?_;rw[<- (c.val k).isSome_eq,<- l];exact h _ (I.tok _)
 ·subst ey;cases (show u=Value.ref b from f);obtain⟨z,hd,xs,c,d⟩:=kZ I.hok e;refine wpAny_in_heap (tupleKind_room_in1 i) (lZ I.hok eb) hd d ?_;have q:=(c.val k).isSome_eq;rw[Ys]at q;rw[<- q,<- l];exact h _ (I.tok _)
def SK{Q:Value->fv->Prop}(i:A.units+1<cLine)(I:ag X pins σ H s)(g:c6 H a y o)(f:aP y u)(h:∀s',ag X pins σ H s'->Q (.bool (!o.isSome)) s') :
 wpAny (model X.prog X.w) A (compareOp .NotIn u (.ref a)) Q E s:=by
 rcases g with ⟨kvs,k,e,ey,l⟩|⟨kvs,k,b,e,ey,eb,l⟩
 ·subst ey;obtain⟨z,hd,vs,c,d⟩:=lf I.hok e;refine wpAny_notIn_of (jq f) hd d.mapOf ?_;rw[<- (c.val k).isSome_eq,<- l];exact h _ (I.tok _)
 ·subst ey;cases (show u=Value.ref b from f);obtain⟨z,hd,xs,c,d⟩:=kZ I.hok e;refine wpAny_notIn_heap (tupleKind_room_in1 i) (lZ I.hok eb) hd d ?_;have q:=(c.val k).isSome_eq;rw[Ys]at q;rw[<- q,<- l];exact h _ (I.tok _)
def Gi{h':Heap}{t':Nat}{c:HO}(I:ag X pins σ H s)(f:qt (H a))(hs:Heap.SameBut a s.heap h')(d:∃q,h'.get? a=some q)(new:bt X.prog X.w (upd H a c) h' a c) :
 ag X pins σ (upd H a c) { s with heap:=h',toks:=t' } :=
 I.write (x:=a) (e:=a) f (.inl rfl) (λb q hb z=>(hs.2 b hb).trans z) d new
def SE{P:Program}{w:World}{d:Hp}{h':Heap}{b:List (aQ × V)}{vs:List (aQ × Value)}(z:b.length<=sizeLine)(hd:(a == sysModules)=false)(c:KV b vs)(e:h'.DictOf (cz P w) a vs) :
 bt P w d h' a (.dK b):=⟨z,hd,vs,c,e⟩
def SJ{o:Hp}{Q:Unit->fv->Prop}(G:A.units+1<cLine)(I:ag X pins σ H s)(g:jc H a y v o)(m:aP y u)(n:aP v r)(h:∀s',ag X pins σ o s'->Q () s') :
 wpAny (model X.prog X.w) A (setItem (.ref a) u r) Q E s:=by
 rcases g with ⟨kvs,k,e,ey,l,eH⟩|⟨kvs,k,b,e,ey,eb,l,eH⟩
 ·subst ey eH;obtain⟨z,hd,vs,d,j⟩:=SD I.hok e;have hz:vs.length<=sizeLine:=by rw[<- d.length];exact z
  have i:(cH kvs k v).length<=sizeLine:=by have:=o4 kvs k v;omega
  refine wpAny_setItem_pairs (hsz:=hz) (jq m) j λh' f hs=>h _ ?_;have C:∃q,h'.get? a=some q:=let ⟨q,_,_,hq,_⟩:=f;⟨q,hq⟩
  exact Gi I (by rw[e];exact True.intro) hs C (SE i hd (d.put k n) f)
 ·subst ey eH;cases (show u=Value.ref b from m);obtain⟨z,hd,xs,d,j⟩:=SB I.hok e;have hz:xs.length<=sizeLine:=by rw[<- Paired.length d];exact z
  have i:(cH kvs k v).length<=sizeLine:=by have:=o4 kvs k v;omega
  refine wpAny_setItem_heap (hsz:=hz) (tupleKind_room_in1 G) (lZ I.hok eb) j λh' f hs=>h _ ?_;obtain⟨q,es,F,hq,x,D,B,_,J⟩:=f;refine Gi I (by rw[e];exact True.intro) hs ⟨q,hq⟩ ⟨i,hd,_,(d.put k eb n).keeps λc ys p=>?_,q,es,F,hq,x,D,B,J⟩;rw[ap (Oi p e (λz=>nomatch z))];exact p
end
def uh(i:Expr):Prop:=∀ov iv,subscripted i false ov iv=operate [ov,iv] (getItem ov iv)
def Cg{prog:Program}{w:World}{A:Around}{E:Value->fv->Prop}{s:fv}{env:Env}{value a:Expr}{pos:Pos}{T id:String}{Q:Value->fv->Prop}
 (g:typeLookup (.type T) "__getitem__" = pure (some (.builtin id))) (hs:uh a)
 (h:wpAny (model prog w) A (eval value env) (λo e=>wpAny (model prog w) A (eval a env) (λi c=>c.TypeIs o T/\wpAny (model prog w) A (getItem o i) Q E c) E e) E s) :
 wpAny (model prog w) A (eval (.Subscript value a pos) env) Q E s:=by
 refine Subscript_ (wpAny_mono h (λo e k=>wpAny_mono k (λi c d=>?_) λ_ _ x=>x) λ_ _ x=>x);obtain⟨hT,d⟩:=d;unfold subscriptTail;refine kb ?_;rw[getitemInPython_of_ne hT.not_modules];refine kb (wpAny_specialOf hT g ?_);have b:wpAny (model prog w) A (subscripted a false o i) (λr f=>wpAny (model prog w) A (letTemporaryGo value o r >>= λ_=>pure r) Q E f) E c:=by
  rw[hs o i];exact wpAny_operating (wpAny_mono d (λr f j=>kb (wpAny_letTemporaryGo (ZO j))) λ_ _ x=>x)
 first
  | exact ZO (kb b)
  | exact kb (ZO (kb b))
  | exact kb b
def SI {X:Cx} {c:List (Addr × Obj)} {σ:St} {H:Hp} {s:fv} {a:Addr} {y:V} {o:Option V} (I:ag X c σ H s) (g:c6 H a y o):s.TypeIs (.ref a) "dict":=by
 rcases g with ⟨kvs,k,e,_,_⟩|⟨kvs,k,b,e,_,_,_⟩
 ·obtain⟨_,_,vs,_,d⟩:=lf I.hok e;exact d.typeIs
 ·obtain⟨_,_,xs,_,d⟩:=kZ I.hok e;exact d.typeIs
def Cb(d ty:TE):TE:=λσ H Q=>d σ H λx c=>ty σ c λy b=>∃a v,x=.ref a/\c6 b a y (some v)/\Q v b
def Dd(d ty f:TE):TS:=λD σ H=>f σ H λv b=>d σ b λx c=>ty σ c λy e=>∃a H4,x=.ref a/\jc e a y v H4/\D.nx σ H4
section
variable {X:Cx}{o i e value:Expr}{pos pos' tpos:Pos}{td ty tv:TE}
def Nw(q:X.A.units+1<cLine)(m:PE X o td)(e:PE X i ty)(hs:uh i):PE X (.Subscript o i pos) (Cb td ty):=by
 intro b s σ H Q I h;refine Cg Zl.lookup hs (aw (m b s σ H _ I h) λu s1 ⟨x,k,z,r,n⟩=>aw (e b s1 σ k _ z n) λC B ⟨y,l,d,f,a,v,ex,g,p⟩=>?_);subst ex;obtain rfl:u=Value.ref a:=r;exact⟨SI d g,SM q d g f λD F j c=>⟨v,l,j,c,p⟩⟩
def MS(e:X.A.units+1<cLine)(B:PE X o td)(q:PE X i ty)(m:PE X value tv)(hs:swapsWith value (some (.Subscript o i pos')) pos.line X.env=pure false) :
 PS X (.Assign [.Subscript o i pos'] value pos) (Dd td ty tv):=by
 intro b s σ H D I h;refine wpAny_Assign_Subscript (aw (m b s σ H _ I h) λr s1 ⟨v,k,f,F,G⟩=>aw (B b s1 σ k _ f G) λu p ⟨x,J,l,L,d⟩=>aw (q b p σ J _ l d) λO N ⟨y,R,j,z,a,C,ex,g,n⟩=>?_) hs;subst ex;obtain rfl:u=Value.ref a:=L;exact SJ e j g z F λM c=>⟨σ,C,c,n⟩
end
def SG{P:Program}{w:World}{H:Hp}(h:Heap)(hb:sysModules<h.objs.size):bt P w H (h.push { cls:=.type "dict",data:=.dict #[] }) h.objs.size (.dK []) :=
 ⟨WT _,beq_eq_false_iff_ne.mpr (Ne.symm (WL hb)),[],.nil,Heap.DictOf.new h⟩
def SC{P:Program}{w:World}{H:Hp}(h:Heap)(hb:sysModules<h.objs.size):bt P w H (h.push { cls:=.type "dict",data:=.dict #[] }) h.objs.size (.dT []) :=
 ⟨WT _,beq_eq_false_iff_ne.mpr (Ne.symm (WL hb)),[],.nil,_,#[],0,W5 _ rfl,⟨rfl,rfl,rfl⟩,rfl,rfl,List.nodup_nil⟩
def Jo:TE:=λ_ H Q=>∀p,H p=none->Q (.ref p) (upd H p (.dK []))
def Jn:TE:=λ_ H Q=>∀p,H p=none->Q (.ref p) (upd H p (.dT []))
section
variable {X:Cx}{pos:Pos}
def Nu:PE X (.Dict [] [] pos) Jo:=λb s σ H Q I h =>
 wpAny_Dict_empty ⟨.ref s.heap.objs.size,_,I.laid (a:=s.heap.objs.size) (o:=.dK []) (t':=s.toks) (λ_ _ q=>WG _ q) (WB _) (SG s.heap I.big),rfl,h _ (I.hok.fresh (WB _))⟩
def Nt:PE X (.Dict [] [] pos) Jn:=λb s σ H Q I h =>
 wpAny_Dict_empty ⟨.ref s.heap.objs.size,_,I.laid (a:=s.heap.objs.size) (o:=.dT []) (t':=s.toks) (λ_ _ q=>WG _ q) (WB _) (SC s.heap I.big),rfl,h _ (I.hok.fresh (WB _))⟩
end
structure M1 (X:Cx) (o:Expr) (m:Str) (apos:Pos) (e:Expr) (cpos:Pos):Prop where
 base:attributeBase o m X.env (eval o X.env)=eval o X.env
 few:((backTo cpos (starEach [e] X.env)).all (λx=>!x.1) && (backToKw cpos (keywordEach [] X.env)).all (λx=>x.1.isSome)
  && decide (([e]:List Expr).length+([]:List Keyword).length+(if ([]:List Keyword).isEmpty then 0 else 1)<30))=true
 line:(apos.endLine == cpos.line)=true
 trees:backTo cpos (starEach [e] X.env)=[(false,eval e X.env)]
structure M2 (X:Cx) (o:Expr) (m:Str) (apos:Pos) (e f:Expr) (cpos:Pos):Prop where
 base:attributeBase o m X.env (eval o X.env)=eval o X.env
 few:((backTo cpos (starEach [e,f] X.env)).all (λx=>!x.1) && (backToKw cpos (keywordEach [] X.env)).all (λx=>x.1.isSome)
  && decide (([e,f]:List Expr).length+([]:List Keyword).length+(if ([]:List Keyword).isEmpty then 0 else 1)<30))=true
 line:(apos.endLine == cpos.line)=true
 trees:backTo cpos (starEach [e,f] X.env)=[(false,eval e X.env),(false,eval f X.env)]
def GX(H:Hp)(a:Addr):Prop:=(∃kvs,Rd H a (.dK kvs))\/∃kvs,Rd H a (.dT kvs)
def Ph{X:Cx}{g:List (Addr × Obj)}{σ:St}{H:Hp}{s:fv}{a:Addr}(I:ag X g σ H s)(d:GX H a) :
 s.TypeIs (.ref a) "dict"/\(∀b,Value.ref a=.ref b->∃c,s.heap.get? b=some c/\c.dict=none)/\(a == sysModules)=false:=by
 rcases d with ⟨kvs,e⟩|⟨kvs,e⟩
 ·obtain⟨_,hd,vs,_,f⟩:=lf I.hok e;refine⟨f.typeIs,λb q=>?_,hd⟩;cases q;obtain⟨c,_,_,i,h,_⟩:=f;exact⟨c,i,h.2.1⟩
 ·obtain⟨_,hd,xs,_,f⟩:=kZ I.hok e;refine⟨f.typeIs,λb q=>?_,hd⟩;cases q;obtain⟨c,_,_,i,h,_⟩:=f;exact⟨c,i,h.2.1⟩
section
variable {X:Cx}{pins:List (Addr × Obj)}{σ:St}{H:Hp}{s:fv}{a:Addr}{y d:V}{u r:Value}{o:Option V}{A:Around}{E:Value->fv->Prop}
def SN{Q:Value->fv->Prop}(i:A.units+1<cLine)(I:ag X pins σ H s)(g:c6 H a y o)(f:aP y u)(h:∀w' s',ag X pins σ H s'->aP (o.getD .non) w'->Q w' s') :
 wpAny (model X.prog X.w) A (call (.builtin "dict.get") [.ref a,u]) Q E s:=by
 rcases g with ⟨kvs,k,e,ey,l⟩|⟨kvs,k,b,e,ey,eb,l⟩
 ·subst ey;obtain⟨z,hd,vs,c,d⟩:=lf I.hok e;refine call_meetsIn Yb d.typeIs YM (Zm _ _) (meets_dict_get (cz X.prog X.w) a (jq f) hd) ⟨_,d.mapOf,h _ _ (I.tok _) ?_⟩;rw[l];exact (c.val k).getD Z
 ·subst ey;cases (show u=Value.ref b from f);obtain⟨z,hd,xs,c,d⟩:=kZ I.hok e;refine call_meetsIn Yb d.typeIs YM (Zm _ _) (meetsH_dict_get (tupleKind (cz X.prog X.w)) a b hd) ⟨tupleKind_room_in1 i,k,xs,lZ I.hok eb,d,h _ _ (I.tok _) ?_⟩;rw[l];exact (c.val k).getD Z
end
def Ca(d ty:TE):TE:=λσ H Q=>d σ H λx b=>∃a,x=.ref a/\GX b a/\ty σ b λy c=>∃o,c6 c a y o/\Q (o.getD .non) c
section
variable {X:Cx}{o e f:Expr}{apos cpos:Pos}{td ty tx:TE}
def Nv (j:X.A.units+1<cLine) (z:PE X o td) (n:PE X e ty) (m:M1 X o "get" apos e cpos):PE X (.Call (.Attribute o "get" apos) [e] [] cpos) (Ca td ty):=by
 intro b s σ H Q I h;refine wpAny_Call_method m.base m.few m.line Zn Yb Zo (aw (z b s σ H _ I h) λu s1 ⟨x,p,f,D,a,ex,d,C⟩=>?_);subst ex;obtain rfl:u=Value.ref a:=D;obtain⟨k,q,_⟩:=Ph f d;refine⟨k,q,?_⟩;rw[m.trees];refine Calls.callWith_builtin Z (Calls.evalArgs_plain (Calls.spliced_cons (aw (n b s1 σ p _ f C) λM L ⟨y,B,r,v,J,g,i⟩=>Calls.spliced_nil ?_)));exact SN j r g v λF G l c=>⟨_,B,l,c,i⟩
end
end L2
namespace HT
open PySem PyProof.Rows
section
variable {prog:Program}{w:World}{A:Around}{E:Value->fv->Prop}{s:fv}
def sIx(n d:Nat):Option Int->Nat
 | none=>d
 | some v=>if v<0 then (v+(n:Int)).toNat else min v.toNat n
def LD(n d:Nat)(hd:d<=n)(o:Option Int):sIx n d o<=n:=by
 cases o with
 | none=>exact hd
 | some v =>
  show (if v<0 then (v+(n:Int)).toNat else min v.toNat n)<=n;by_cases hv:v<0
  ·rw[ZQ hv];omega
  ·rw[ZP hv];exact Nat.min_le_right _ _
def Gx(v:Int)(n d:Nat):(if v<0 then max (v+(n:Int)) 0 else min v (n:Int))=((sIx n d (some v):Nat):Int):=by
 show (if v<0 then max (v+(n:Int)) 0 else min v (n:Int))=(((if v<0 then (v+(n:Int)).toNat else min v.toNat n):Nat):Int);by_cases hv:v<0
 ·simp only [ZQ hv];omega
 ·simp only [ZP hv];omega
def Vo(lo a:Option Int)(n:Nat):Builtin.Slice.sliceAdjust lo a 1 (n:Int)=(((sIx n 0 lo:Nat):Int),((sIx n n a:Nat):Int)):=by
 have b:¬((1:Int)<0):=by omega
 unfold Builtin.Slice.sliceAdjust;simp only [b,if_false];refine Prod.ext ?_ ?_
 ·cases lo with
  | none=>rfl
  | some v=>exact Gx v n 0
 ·cases a with
  | none=>rfl
  | some v=>exact Gx v n n
def M4(i j:Nat):Builtin.Slice.slicePlaces (i:Int) (j:Int) 1=j-i:=by
 unfold Builtin.Slice.slicePlaces;have a:(1:Int) > 0:=by omega
 simp only [a,if_true,Int.ediv_one]
 split<;>omega
def CJ{v:Value}{o:Option Int}{Q:Option Int->fv->Prop}(p:IsPart v o)(h:Q o s):wpAny (model prog w) A (Builtin.Slice.slicePartIndex v) Q E s:=by
 cases p with
 | none=>exact slicePart_none h
 | int i t=>exact slicePart_int h
def CK{f:Addr}{e d:Value}{lo a:Option Int}{n:Nat}{Q:Int × Int × Nat->fv->Prop}(hs:s.heap.IsSliceOf f e d .none)(pl:IsPart e lo)(g:IsPart d a)
 (h:Q (((sIx n 0 lo:Nat):Int),1,sIx n n a-sIx n 0 lo) s):wpAny (model prog w) A (Builtin.Slice.sliceApplied (.ref f) (pure (n:Int))) Q E s:=by
 obtain⟨os,c,i,b⟩:=id hs;unfold Builtin.Slice.sliceApplied Builtin.Slice.sliceFields;refine kb (kb (wpAny_field c b (x:=e) Z (kb (wpAny_field c b (x:=d) Z (kb (wpAny_field c b (x:=.none) Z (ZO ?_)))))));refine kb (slicePart_none ?_);show wpAny _ _ (if ((1:Int) == 0)=true then _ else _) _ _ s;rw[ZP (by decide)];refine kb (CJ pl (kb (CJ g (kb (ZO ?_)))));show wpAny _ _ (match Builtin.Slice.sliceAdjust lo a 1 (n:Int) with|(lo,a)=>pure (lo,(1:Int),Builtin.Slice.slicePlaces lo a 1)) _ _ s;rw[Vo lo a n];show wpAny _ _ (pure (((sIx n 0 lo:Nat):Int),(1:Int),Builtin.Slice.slicePlaces ((sIx n 0 lo:Nat):Int) ((sIx n n a:Nat):Int) 1)) _ _ s;rw[M4];exact ZO h
def M5(xs:Array Value)(i k:Nat):((List.range k).filterMap λ(m:Nat)=>xs[((i:Int)+(m:Int)*1).toNat]?).toArray=((xs.toList.drop i).take k).toArray:=by
 have e:(λ(m:Nat)=>xs[((i:Int)+(m:Int)*1).toNat]?)=λm=>xs[i+m]?:=by
  funext m
  have:((i:Int)+(m:Int)*1).toNat=i+m:=by omega
  rw[this]
 rw[e];have:=pick_run xs i k;rw[List.filterMap_map]at this;have a:((λx=>xs[x]?) ∘ λx=>i+x)=λm=>xs[i+m]?:=rfl;rw[a]at this;rw[this]
def getItem_tuple_cut{t d:Addr}{items:Array Value}{j i:Value}{lo b:Option Int}{Q:Value->fv->Prop}(c:IsTup s.heap t items)(hs:s.heap.IsSliceOf d j i .none)(pl:IsPart j lo)(l:IsPart i b)
 (hw:¬(sIx items.size 0 lo=0/\sIx items.size items.size b=items.size))
 (h:Q (.ref s.heap.objs.size) { s with heap:=s.heap.push { cls:=.type "tuple",data:=.seq ((items.toList.drop (sIx items.size 0 lo)).take (sIx items.size items.size b-sIx items.size 0 lo)).toArray } })
 (hsz:items.size<=sizeLine):wpAny (model prog w) A (getItem (.ref t) (.ref d)) Q E s:=by
 have a:sizeOk (.seq ((items.toList.drop (sIx items.size 0 lo)).take (sIx items.size items.size b-sIx items.size 0 lo)).toArray):=by
  show ((items.toList.drop (sIx items.size 0 lo)).take (sIx items.size items.size b-sIx items.size 0 lo)).toArray.size<=sizeLine;rw[WH,WO,Xr,Yq];omega
 have hj:sIx items.size items.size b<=items.size:=LD _ _ (WB _) b;obtain⟨os,e,g,k⟩:=id hs;have hTs:s.TypeIs (.ref d) "slice":=⟨os,e,g⟩;unfold getItem
 try with_reducible refine wpAny_holding ?_
 first|refine kb (ZO ?_)|skip
 refine kb (wpAny_sequenceKey c.typeIs (by decide) ?_);refine kb (wpAny_callSpecial?_slot (name:=Str.ofString "__getitem__") c.typeIs XQ
  (wpAny_call_entry XQ c.typeIs entry_tuple_getitem ?_ (args_tuple_getitem _ _)))
 show wpAny _ _ (Builtin.Tuple.tupleItemsOf (.ref t) >>= _) _ _ s;refine kb (tupleItemsOf_ c ?_);refine kb (wpAny_typeOf hTs ?_);rw[ZQ (by decide)];refine kb (CK hs pl l ?_);have f:¬((((sIx items.size 0 lo:Nat):Int) == 0 && (1:Int) == 1 && (sIx items.size items.size b-sIx items.size 0 lo) == items.size)=true):=by
  intro q;rw[Xd,Xd]at q;have n:((sIx items.size 0 lo:Nat):Int)=0:=eq_of_beq q.1.1;have o:sIx items.size items.size b-sIx items.size 0 lo=items.size:=eq_of_beq q.2;exact hw ⟨by omega,by omega⟩
 show wpAny _ _ (if (((sIx items.size 0 lo:Nat):Int) == 0 && (1:Int) == 1 && (sIx items.size items.size b-sIx items.size 0 lo) == items.size)=true then _ else _) _ _ s;rw[ZP f,M5]
 first
  | exact kb (m:=Builtin.Tuple.tupleExact _) (wpAny_newObj_type (ZO ⟨_,rfl,ZO h⟩) a)
  | exact kb (m:=Builtin.Tuple.tupleExact _) (wpAny_newObj_type (kb (ZO (ZO ⟨_,rfl,ZO h⟩))) a)
  | exact kb (kb (m:=Builtin.Tuple.tupleExact _) (wpAny_newObj_type (ZO (ZO ⟨_,rfl,ZO h⟩)) a))
  | exact kb (kb (m:=Builtin.Tuple.tupleExact _) (wpAny_newObj_type (ZO ⟨_,rfl,ZO h⟩) a))
end
end HT
namespace L2
open PySem PySem.Spec PyProof.Rows
abbrev TO:=St->Hp->(Option Int->Hp->Prop)->Prop
def PO(X:Cx)(e:Option Expr)(t:TO):Prop :=
 ∀(a:List (Addr × Obj)) (s:fv) (σ:St) (H:Hp) (Q:Option Int->Hp->Prop),ag X a σ H s->t σ H Q ->
  wpAny (model X.prog X.w) X.A (evalPart e X.env) (λu b=>∃o H',ag X a σ H' b/\IsPart u o/\Q o H') X.xe s
def B3:TO:=λ_ H Q=>Q none H
def B0(t:TE):TO:=λσ H Q=>t σ H λx a=>∃i,x=.int i/\Q (some i) a
section
variable {X:Cx}{e:Expr}{te:TE}{lo hi:Option Expr}{tl th:TO}{pos p2:Pos}
def M3:PO X none B3:=by
 intro a s σ H Q I h;rw[evalPart_none];exact ZO ⟨none,H,I,.none,h⟩
def M0(h:PE X e te):PO X (some e) (B0 te):=by
 intro a s σ H Q I hw;rw[evalPart_some];refine aw (h a s σ H _ I hw) λu s1 ⟨x,c,f,b,d⟩=>?_;obtain⟨i,rfl,q⟩:=d;obtain⟨t,rfl⟩:=b;exact⟨some i,c,f,.int i t,q⟩
def ka(X:Cx)(r:V->Option Int->Option Int->Hp->VK->Prop):Prop :=
 ∀(a:List (Addr × Obj)) (s:fv) (σ:St) (H:Hp) (x:V) (v d c:Value) (lo b:Option Int) (e:Addr) (Q:VK),ag X a σ H s->aP x v->s.heap.IsSliceOf e d c .none->IsPart d lo->IsPart c b->r x lo b H Q ->
  ∃T id,typeLookup (.type T) "__getitem__" = pure (some (.builtin id))/\s.TypeIs v T/\wpAny (model X.prog X.w) X.A (getItem v (.ref e)) (EP X a σ Q) X.xe s
def BX(r:V->Option Int->Option Int->Hp->VK->Prop)(f:TE)(a c:TO):TE:=λσ H Q=>f σ H λx b=>a σ b λl d=>c σ d λu e=>r x l u e Q
def Nk{r:V->Option Int->Option Int->Hp->VK->Prop}(N:ka X r)(y:PE X e te)(G:PO X lo tl)(n:PO X hi th):PE X (.Subscript e (.Slice lo hi none p2) pos) (BX r te tl th):=by
 intro a s σ H Q I h;refine Subscript_ (aw (y a s σ H _ I h) λv s1 ⟨x,z,o,i,M⟩=>?_);refine wpAny_Slice (aw (G a s1 σ z _ o M) λf F ⟨l,L,B,pl,m⟩=>aw (n a F σ L _ B m) λd c ⟨u,g,p,J,C⟩=>?_);rw[evalPart_none];refine ZO ?_;have j:ag X a σ g { c with heap:=c.heap.push { cls:=.type "slice",data:=.fields #[f,d,.none] } }:=p.kept (t':=c.toks) λb O q=>WG _ q;obtain⟨T,id,hT,k,D⟩:=N a { c with heap:=c.heap.push { cls:=.type "slice",data:=.fields #[f,d,.none] } } σ g x v f d l u c.heap.objs.size Q j i (Heap.IsSliceOf.new ..) pl J C;show wpAny (model X.prog X.w) X.A (subscriptTail e (.Slice lo hi none p2) v (.ref c.heap.objs.size)) (EP X a σ Q) X.xe { c with heap:=c.heap.push { cls:=.type "slice",data:=.fields #[f,d,.none] } };exact tail_any (ops:=[.ref c.heap.objs.size,v]) k hT D (by with_unfolding_all rfl)
def cY(xs:List V)(lo a:Option Int):List V:=(xs.drop (HT.sIx xs.length 0 lo)).take (HT.sIx xs.length xs.length a-HT.sIx xs.length 0 lo)
def Go(xs:List V)(lo a:Option Int):(cY xs lo a).length<=xs.length:=by
 unfold cY;rw[WO,Xr];omega
def LS(K:W.Frag):V->Option Int->Option Int->Hp->VK->Prop:=λx lo b H Q=>∃a xs,x=.ref a/\be K H a xs /\
 ¬(HT.sIx xs.length 0 lo=0/\HT.sIx xs.length xs.length b=xs.length)/\∀p,H p=none->Q (.ref p) (upd H p (.tup (cY xs lo b)))
def Kw:ka X (LS X.K):=by
 intro g s σ H x v m k lo d l Q I j hs pl i h;obtain⟨a,xs,rfl,hx,hw,q⟩:=h;cases j;obtain⟨e,r,f,hz⟩:=I.tuple hx;have c:e.toArray.size=xs.length:=by rw[WH];exact r.length.symm
 refine⟨"tuple",_,XQ.lookup,f.typeIs,?_⟩;refine HT.getItem_tuple_cut f hs pl i (by rw[c];exact hw) ?_ (by rw[c];exact hz);rw[c];refine⟨.ref s.heap.objs.size,_,I.laid (t':=s.toks) (o:=.tup (cY xs lo d)) (λb n q=>WG _ q) (WB _) ?_,Z,q _ (I.hok.fresh (WB _))⟩;exact⟨WP (Go xs lo d) hz,_,(r.drop (HT.sIx xs.length 0 lo)).take (HT.sIx xs.length xs.length d-HT.sIx xs.length 0 lo),IsTup.new _ _⟩
end
def ma(n:Nat)(i:Int):Option Nat:=if 0<=i then (if i<n then some i.toNat else none) else if -(n:Int)<=i then some (i+n).toNat else none
def cR{α:Type}(xs:List α)(i:Int):Option α:=(ma xs.length i).bind λj=>xs[j]?
def Pb{n:Nat}{i:Int}{j:Nat}(h:ma n i=some j):seqIndex? i n=some j/\j<n/\-(n:Int)<=i/\i<n:=by
 unfold ma at h;by_cases h0:0<=i
 ·rw[ZQ h0]at h;by_cases h1:i<n
  ·rw[ZQ h1]at h;have e:i.toNat=j:=WZ h;exact⟨by rw[seqIndex_of h0 h1,e],by omega,by omega,h1⟩
  ·rw[ZP h1]at h;cases h
 ·rw[ZP h0]at h;by_cases h1 : -(n:Int)<=i
  ·rw[ZQ h1]at h;have e:(i+n).toNat=j:=WZ h;exact⟨by rw[seqIndex_neg (by omega) h1,e],by omega,h1,by omega⟩
  ·rw[ZP h1]at h;cases h
def GO{α:Type}{xs:List α}{i:Int}{v:α}(h:cR xs i=some v):∃j,seqIndex? i xs.length=some j/\xs[j]? = some v/\j<xs.length/\-(xs.length:Int)<=i/\i<xs.length:=by
 unfold cR at h;cases e:ma xs.length i with
 | none=>rw[e]at h;cases h
 | some j =>
  rw[e]at h;obtain⟨d,b,a,c⟩:=Pb e;exact⟨j,d,h,b,a,c⟩
def aD{α:Type}{xs:List α}{j:Nat}{v:α}(h:xs[j]? = some v):cR xs (j:Int)=some v:=by
 have hj:j<xs.length:=(WF.mp h).1;have e:ma xs.length (j:Int)=some j:=by
  unfold ma;rw[ZQ (by omega),ZQ (by omega)];simp
 unfold cR;rw[e];exact h
def GU(b:Expr):Prop:=∀o i,subscripted b false o i=operate [o,i] (getItem o i)
def gS(X:Cx)(r:R2):Prop :=
 ∀(value a:Expr) (b:List (Addr × Obj)) (s:fv) (σ:St) (H:Hp) (x y:V) (v u:Value) (Q:VK),ag X b σ H s->aP x v->aP y u->r x y H Q ->
  subscripted a false v u=operate [v,u] (getItem v u)->wpAny (model X.prog X.w) X.A (subscriptTail value a v u) (EP X b σ Q) X.xe s
def gw(X:Cx)(id:String)(r:V->List V->Hp->VK->Prop):Prop :=
 ∀(a:List (Addr × Obj)) (s:fv) (σ:St) (H:Hp) (x:V) (xs:List V) (v:Value) (us:List Value) (Q:VK),ag X a σ H s->aP x v->ay xs us->r x xs H Q ->
  wpAny (model X.prog X.w) X.A (call (.builtin id) (v::us)) (EP X a σ Q) X.xe s
section
variable {X:Cx}{a b:Expr}{ta tb:TE}{pos:Pos}
def gS.or{r c:R2}(h:gS X r)(h':gS X c):gS X (λx y H Q=>r x y H Q\/c x y H Q):=by
 intro value a b s σ H x y v u Q I e d q hs;rcases q with q|q
 ·exact h value a b s σ H x y v u Q I e d q hs
 ·exact h' value a b s σ H x y v u Q I e d q hs
def Np{r:R2}(j:gS X r)(d:PE X a ta)(hb:PE X b tb)(hs:GU b):PE X (.Subscript a b pos) (dR r ta tb):=by
 intro c s σ H Q I h;exact Subscript_ (Ag d hb I h λv u e x y i g k f q=>j a b c e σ i x y v u Q g k f q (hs _ _))
def L5(K:W.Frag):R2:=λx y H Q=>∃p xs i v,x=.ref p/\y=.int i/\aE K H p xs/\cR xs i=some v/\Q v H
def LZ(K:W.Frag):R2:=λx y H Q=>∃p xs i v,x=.ref p/\y=.int i/\be K H p xs/\cR xs i=some v/\Q v H
def Pa:gS X (L5 X.K):=by
 intro value f a s σ H x y v u Q I D l h hs;obtain⟨p,xs,i,z,rfl,rfl,hq,k,q⟩:=h;cases D;obtain⟨t,rfl⟩:=l;obtain⟨e,r,pl,hz⟩:=I.list hq;obtain⟨j,c,m,G,o,C⟩:=GO k;obtain⟨w,g,d⟩:=r.get m;have n:=r.length;have F:=rH;have b:EP X a σ Q w s:=⟨z,H,I,d,q⟩;by_cases h0:0<=i
 ·have hj:i.toNat=j:=by
   rw[seqIndex_of h0 C]at c;exact WZ c
  exact item_listR pl.isList h0 (by omega) (by rw[hj];simpa using g) b hs
 ·have hj:(i+(e.toArray.size:Int)).toNat=j:=by
   rw[seqIndex_neg (by omega) o]at c;rw[WH,<- n];exact WZ c
  exact subscriptTail_builtinR (x:=w) pl.isList.typeIs slot_list_getitem.lookup
   (wpAny_getItem_list_neg (Q:=λr B=>r=w/\EP X a σ Q r B) pl.isList (by omega) (by rw[WH]<;>omega) (by omega) (by rw[hj];simpa using g) ⟨rfl,b⟩) hs
def O9:gS X (LZ X.K):=by
 intro value d a s σ H x y v u Q I B f h hs;obtain⟨p,xs,i,z,rfl,rfl,hq,e,q⟩:=h;cases B;obtain⟨t,rfl⟩:=f;obtain⟨o,r,pl,hz⟩:=I.tuple hq;obtain⟨j,m,g,D,F,G⟩:=GO e;obtain⟨w,l,c⟩:=r.get g;have k:=r.length;have C:=rH;have b:EP X a σ Q w s:=⟨z,H,I,c,q⟩;exact subscriptTail_builtinR (x:=w) pl.typeIs slot_tuple_getitem.lookup
  (getItem_tuple (j:=j) (Q:=λr n=>r=w/\EP X a σ Q r n) pl (by omega) (by omega) (by rw[WH,<- k];exact m) (by simpa using l) ⟨rfl,b⟩) hs
def Ks(lo a:Option Int)(n:Nat):(sliceBounds lo a none n).1=((HT.sIx n 0 lo:Nat):Int)/\(sliceBounds lo a none n).2.1=((HT.sIx n n a:Nat):Int)/\(sliceBounds lo a none n).2.2=1:=by
 refine⟨?_,?_,Z⟩
 ·cases lo with
  | none=>simp[sliceBounds,HT.sIx]
  | some i =>
   simp only [sliceBounds,HT.sIx,YN,show (1:Int) > 0 by decide,if_true];by_cases h:i<0
   ·simp only [h,if_true]<;>omega
   ·simp only [h,if_false]<;>omega
 ·cases a with
  | none=>simp[sliceBounds,HT.sIx]
  | some i =>
   simp only [sliceBounds,HT.sIx,YN,show (1:Int) > 0 by decide,if_true];by_cases h:i<0
   ·simp only [h,if_true]<;>omega
   ·simp only [h,if_false]<;>omega
def Ku(a:List Value)(lo b:Option Int):slicePick a.toArray lo b none=((a.drop (HT.sIx a.length 0 lo)).take (HT.sIx a.length a.length b-HT.sIx a.length 0 lo)).toArray:=by
 obtain⟨e,c,d⟩:=Ks lo b a.toArray.size;unfold slicePick;rw[e,c,d];simp only [sliceRange_one,pick_run,WH]<;>rfl
def LU(K:W.Frag):V->Option Int->Option Int->Hp->VK->Prop:=λx lo b H Q=>∃a xs,x=.ref a/\aE K H a xs/\∀p,H p=none->Q (.ref p) (upd H p (.lst (cY xs lo b)))
def Kx:ka X (LU X.K):=by
 intro f s σ H x v m k lo d l Q I j hs pl g h;obtain⟨a,xs,rfl,hx,q⟩:=h;cases j;obtain⟨i,r,e,hz⟩:=I.list hx;have c:=r.length;refine⟨"list",_,slot_list_getitem.lookup,e.isList.typeIs,?_⟩;refine wpAny_getItem_list_slice e.isList hs pl g .none (by simp) ?_ (by rw[WH]<;>omega);rw[Ku,<- c];refine⟨.ref s.heap.objs.size,_,I.laid (t':=s.toks) (o:=.lst (cY xs lo d)) (λb n q=>WG _ q) (WB _) ?_,Z,q _ (I.hok.fresh (WB _))⟩;exact⟨WP (Go xs lo d) hz,_,0,(r.drop (HT.sIx xs.length 0 lo)).take (HT.sIx xs.length xs.length d-HT.sIx xs.length 0 lo),W5 _ Z⟩
def gM:V->Bool
 | .non=>true
 | .bl _=>true
 | .int _=>true
 | .str _=>true
 | _=>false
def eI:V->V->Bool
 | .non,.non=>true
 | .bl a,.bl b=>a == b
 | .bl a,.int b=>(if a then 1 else 0) == b
 | .int a,.bl b=>a == (if b then 1 else 0)
 | .int a,.int b=>a == b
 | .str a,.str b=>a == b
 | _,_=>false
def Sx{A:Around}{s:fv}{y x:V}{u v:Value}(d:aP y u)(c:aP x v)(e:gM y=true)(fx:gM x=true):SeqAt.EqAt A s u v (eI y x):=by
 cases y with
 | non =>
  cases d;cases x with
  | non=>cases c;exact SeqAt.EqAt.same _
  | bl b=>cases c;exact SeqAt.EqAt.none_bool b
  | int b=>obtain⟨t,rfl⟩:=c;exact SeqAt.EqAt.none_int b t
  | str b=>obtain⟨t,rfl⟩:=c;exact SeqAt.EqAt.none_str b t
  | _=>exact ZR (show false=true from fx) WR
 | bl a =>
  cases d;cases x with
  | non=>cases c;exact SeqAt.EqAt.bool_none a
  | bl b=>cases c;exact SeqAt.EqAt.bool_bool a b
  | int b=>obtain⟨t,rfl⟩:=c;exact SeqAt.EqAt.bool_int a b t
  | str b=>obtain⟨t,rfl⟩:=c;exact SeqAt.EqAt.bool_str a b t
  | _=>exact ZR (show false=true from fx) WR
 | int a =>
  obtain⟨t',rfl⟩:=d;cases x with
  | non=>cases c;exact SeqAt.EqAt.int_none a t'
  | bl b=>cases c;exact SeqAt.EqAt.int_bool a t' b
  | int b=>obtain⟨t,rfl⟩:=c;exact SeqAt.EqAt.int_int a t' b t
  | str b=>obtain⟨t,rfl⟩:=c;exact SeqAt.EqAt.int_str a t' b t
  | _=>exact ZR (show false=true from fx) WR
 | str a =>
  obtain⟨t',rfl⟩:=d;cases x with
  | non=>cases c;exact SeqAt.EqAt.str_none a t'
  | bl b=>cases c;exact SeqAt.EqAt.str_bool a t' b
  | int b=>obtain⟨t,rfl⟩:=c;exact SeqAt.EqAt.str_int a t' b t
  | str b=>obtain⟨t,rfl⟩:=c;exact SeqAt.EqAt.str_str a t' b t
  | _=>exact ZR (show false=true from fx) WR
 | _=>exact ZR (show false=true from e) WR
def eJ(x:V)(u:Value):Bool:=match u with
 | .none=>eI .non x
 | .bool b=>eI (.bl b) x
 | .int i _=>eI (.int i) x
 | .str z _=>eI (.str z) x
 | _=>false
def zv{x y:V}{u:Value}(r:aP y u)(f:gM y=true):eJ x u=eI y x:=by
 cases y with
 | non=>cases r;rfl
 | bl b=>cases r;rfl
 | int i=>obtain⟨t,rfl⟩:=r;rfl
 | str z=>obtain⟨t,rfl⟩:=r;rfl
 | _=>exact ZR (show false=true from f) WR
theorem qg{x:V}:∀ {xs:List V} {us:List Value},ay xs us->xs.all gM=true->us.any (eJ x)=xs.any λy=>eI y x
 | _,_,.nil,_=>rfl
 | y::xs,u::us,.cons r t,f=>by
  rw[List.all_cons,Xd]at f;rw[XJ,XJ,zv r f.1,qg t f.2]
theorem lY{A:Around}{s:fv}{x:V}{v:Value}(b:aP x v)(fx:gM x=true):∀ {xs:List V} {us:List Value},ay xs us->xs.all gM=true->∀u∈us,SeqAt.EqAt A s u v (eJ x u)
 | _,_,.nil,_=>λu a=>by cases a
 | y::xs,u::us,.cons r t,f=>λc a=>by
  rw[List.all_cons,Xd]at f;rcases WU.mp a with rfl|a
  ·rw[zv r f.1];exact Sx r b f.1 fx
  ·exact lY b fx t f.2 c a
def gj(x:V)(xs:List V):Bool:=xs.any λy=>eI y x
def Dq(K:W.Frag)(neg:Bool):R2:=λx y H Q=>∃p xs,y=.ref p/\(aE K H p xs\/be K H p xs)/\gM x=true/\xs.all gM=true/\Q (.bl (if neg then !gj x xs else gj x xs)) H
def NV:aV X (compareOp .In) (Dq X.K false):=by
 intro c s σ H x y v u Q I b d h;obtain⟨p,xs,rfl,hq,fx,fs,q⟩:=h;cases d;rcases hq with hq|hq
 ·obtain⟨a,r,pl,hz⟩:=I.list hq;refine SeqAt.in_listAt (eJ x) pl.isList (λw hw=>lY b fx r fs w (by simpa using hw)) ⟨.bl _,H,I,rfl,?_⟩;rw[show a.toArray.any (eJ x)=a.any (eJ x) by simp,qg r fs];exact q
 ·obtain⟨a,r,pl,hz⟩:=I.tuple hq;refine SeqAt.in_tupleAt (eJ x) pl (λw hw=>lY b fx r fs w (by simpa using hw)) ⟨.bl _,H,I,rfl,?_⟩;rw[show a.toArray.any (eJ x)=a.any (eJ x) by simp,qg r fs];exact q
def NQ:aV X (compareOp .NotIn) (Dq X.K true):=by
 intro c s σ H x y v u Q I b d h;obtain⟨p,xs,rfl,hq,fx,fs,q⟩:=h;cases d;rcases hq with hq|hq
 ·obtain⟨a,r,pl,hz⟩:=I.list hq;refine SeqAt.notIn_listAt (eJ x) pl.isList (λw hw=>lY b fx r fs w (by simpa using hw)) ⟨.bl _,H,I,rfl,?_⟩;rw[show a.toArray.any (eJ x)=a.any (eJ x) by simp,qg r fs];exact q
 ·obtain⟨a,r,pl,hz⟩:=I.tuple hq;refine SeqAt.notIn_tupleAt (eJ x) pl (λw hw=>lY b fx r fs w (by simpa using hw)) ⟨.bl _,H,I,rfl,?_⟩;rw[show a.toArray.any (eJ x)=a.any (eJ x) by simp,qg r fs];exact q
def S9:cK X (.builtin "len") (λxs H Q=>∃p ys,xs=[.ref p]/\(aE X.K H p ys\/be X.K H p ys)/\Q (.int ys.length) H):=by
 intro d s σ H xs us Q I r h;obtain⟨p,ys,rfl,hq,q⟩:=h;obtain⟨u,rfl,e⟩:=jG r;cases e;have f:=rH;rcases hq with hq|hq
 ·obtain⟨c,b,pl,hz⟩:=I.list hq;have a:=b.length;exact Calls.call_len_list pl.isList (by simp only [WH]<;>omega) ⟨.int ys.length,H,I.tok _,⟨s.toks+1,by rw[WH,a]⟩,q⟩
 ·obtain⟨c,b,pl,hz⟩:=I.tuple hq;have a:=b.length;exact len_tuple pl (by simp only [WH]<;>omega) ⟨.int ys.length,H,I.tok _,⟨s.toks+1,by rw[WH,a]⟩,q⟩
def S8:cK X (.type "list") (λxs H Q=>∃p ys,xs=[.ref p]/\(aE X.K H p ys\/be X.K H p ys)/\∀l,H l=none->Q (.ref l) (upd H l (.lst ys))):=by
 intro g s σ H xs us Q I r h;obtain⟨p,ys,rfl,hq,q⟩:=h;obtain⟨u,rfl,k⟩:=jG r;cases k;have f:∀(a:List Value),ay ys a->ys.length<=sizeLine->∀(h':Heap) (c':Nat),(∀b o',s.heap.get? b=some o'->h'.get? b=some o') ->
  h'.get? s.heap.objs.size=some { cls:=.type "list",dict:=none,data:=.seq a.toArray c',slots:=#[] }->EP X g σ Q (.ref s.heap.objs.size) { s with heap:=h' }:=λa c hz h' c' kp e =>
  ⟨.ref s.heap.objs.size,_,I.laid (t':=s.toks) kp (WB _) (show bt X.prog X.w _ h' _ (.lst ys) from ⟨hz,a,c',c,e⟩),rfl,q _ (I.hok.fresh (WB _))⟩
 rcases hq with hq|hq
 ·obtain⟨a,c,pl,hz⟩:=I.list hq;have d:=c.length;obtain⟨o,i,j,n,hd⟩:=pl.isList;exact call_list_seq p (.inl rfl) i j hd (λh' c' kp e=>f a c hz h' c' kp e) (by simp only [WH]<;>omega)
 ·obtain⟨a,c,pl,hz⟩:=I.tuple hq;have d:=c.length;obtain⟨o,i,j,n,hd⟩:=pl;exact call_list_seq p (.inr rfl) i j hd (λh' c' kp e=>f a c hz h' c' kp e) (by simp only [WH]<;>omega)
def S7:cK X (.type "tuple") (λxs H Q=>∃p ys,xs=[.ref p]/\((aE X.K H p ys/\∀l,H l=none->Q (.ref l) (upd H l (.tup ys)))\/(be X.K H p ys/\Q (.ref p) H))):=by
 intro a s σ H xs us Q I r h;obtain⟨p,ys,rfl,h⟩:=h;obtain⟨u,rfl,j⟩:=jG r;cases j;rcases h with ⟨hq,q⟩|⟨hq,q⟩
 ·obtain⟨c,d,pl,hz⟩:=I.list hq;have f:=d.length;refine call_tuple_list pl.isList (λh' kp=>?_) (by simp only [WH]<;>omega);have g:ag X a σ H { s with heap:=h' }:=I.kept (t':=s.toks) kp;have i:ag X a σ (upd H h'.objs.size (.tup ys)) { s with heap:=h'.push { cls:=.type "tuple",data:=.seq c.toArray } } :=
   g.laid (t':=s.toks) (λb o e=>WG _ e) (WB _) (show bt X.prog X.w _ _ _ (.tup ys) from ⟨hz,c,d,IsTup.new _ _⟩)
  exact⟨.ref h'.objs.size,_,i,Z,q _ (g.hok.fresh (WB _))⟩
 ·obtain⟨c,d,pl,hz⟩:=I.tuple hq;exact call_tuple_same pl ⟨.ref p,H,I,Z,q⟩
def uC(K:W.Frag)(T:String)(x:V)(H:Hp):Prop:=match x with
 | .str _=>T = "str"
 | .int _=>T = "int"
 | .ref p=>(T = "list"/\∃xs,aE K H p xs)\/(T = "tuple"/\∃o,K.lookup p=some o/\o.cls=.type "tuple"/\o.dict=none) \/
  (T = "dict"/\((∃kvs,H p=some (.dK kvs))\/∃kvs,H p=some (.dT kvs)))\/(T = "set"/\∃S n,H p=some (.set S n))
 | _=>False
def BQ{b:List (Addr × Obj)}{σ:St}{H:Hp}{s:fv}{T:String}{x:V}{v:Value}(I:ag X b σ H s)(r:aP x v)(ty:uC X.K T x H) :
 s.TypeIs v T/\∀a,v=.ref a->∃ob,s.heap.get? a=some ob/\ob.dict=none:=by
 cases x with
 | str z =>
  obtain⟨t,rfl⟩:=r;cases (show T = "str" from ty);exact⟨typeIs_str s z t,λ_ e=>nomatch e⟩
 | int i =>
  obtain⟨t,rfl⟩:=r;cases (show T = "int" from ty);exact⟨typeIs_int s i t,λ_ e=>nomatch e⟩
 | ref p =>
  cases r;rcases ty with ⟨rfl,xs,hq⟩|⟨rfl,o,hk,hc,hd⟩|⟨rfl,hk⟩|⟨rfl,S,n,hk⟩
  ·obtain⟨f,_,pl,_⟩:=I.list hq;refine⟨pl.isList.typeIs,λa e=>?_⟩;cases e;obtain⟨o,n,e,c,hd,_⟩:=pl;exact⟨o,e,hd⟩
  ·refine⟨⟨o,I.kIn p o hk,hc⟩,λa e=>?_⟩;cases e;exact⟨o,I.kIn _ o hk,hd⟩
  ·have z:∃o,s.heap.get? p=some o/\o.ExactDict:=by
    rcases hk with ⟨kvs,hk⟩|⟨kvs,hk⟩
    ·obtain⟨_,_,_,_,o,_,_,e,ex,_⟩:=I.hok p _ hk;exact⟨o,e,ex⟩
    ·obtain⟨_,_,_,_,o,_,_,e,ex,_⟩:=I.hok p _ hk;exact⟨o,e,ex⟩
   obtain⟨o,e,ex⟩:=z;refine⟨⟨o,e,ex.1⟩,λa d=>?_⟩;cases d;exact⟨o,e,ex.2.1⟩
  ·obtain⟨o,_,_,_,e,ex,_⟩:=I.hok p _ hk;refine⟨⟨o,e,ex.1⟩,λa d=>?_⟩;cases d;exact⟨o,e,ex.2.1⟩
 | _=>exact False.elim ty
def uI(K:W.Frag)(T:String)(r:V->List V->Hp->VK->Prop)(to:TE):TE:=λσ H Q=>to σ H λx a=>uC K T x a/\r x [] a Q
def kt(K:W.Frag)(T:String)(r:V->List V->Hp->VK->Prop)(to:TE)(t:TA):TE:=λσ H Q=>to σ H λx a=>uC K T x a/\t σ a λxs b=>r x xs b Q
variable {o e:Expr}{es:List Expr}{to:TE}{t:TA}{name:Str}{apos cpos:Pos}{T id:String}{r:V->List V->Hp->VK->Prop}
def NE (l:PlainAttrs T) (slot:Slot T name id) (d:typeOf (.builtin id)=pure (.type "method_descriptor")) (m:gw X id r) (k:PE X o to)
 (b:attributeBase o name X.env (eval o X.env)=eval o X.env:=by rfl) (c:(apos.endLine == cpos.line)=true:=by rfl):PE X (.Call (.Attribute o name apos) [] [] cpos) (uI X.K T r to):=by
 intro a s σ H Q I h;refine wpAny_Call_method0_late b c (aw (k a s σ H _ I h) λv s1 ⟨x,i,f,e,ty,n⟩=>?_);obtain⟨j,g⟩:=BQ f e ty;exact⟨T,id,l,slot,d,j,g,Calls.callWith_builtin Z (PySem.evalArgs_none (m a s1 σ i x [] v [] Q f e .nil n))⟩
def NF (k:PlainAttrs T) (slot:Slot T name id) (g:typeOf (.builtin id)=pure (.type "method_descriptor")) (p:gw X id r) (z:PE X o to) (B:PA X (e::es) t)
 (c:attributeBase o name X.env (eval o X.env)=eval o X.env:=by rfl)
 (f:((backTo cpos (starEach (e::es) X.env)).all (λx=>!x.1) && (backToKw cpos (keywordEach [] X.env)).all (λx=>x.1.isSome)
   && decide ((e::es).length+([]:List Keyword).length+(if ([]:List Keyword).isEmpty then 0 else 1)<30))=true:=by rfl)
 (d:(apos.endLine == cpos.line)=true:=by rfl) (hs:starEach (e::es) X.env=(false,eval e X.env)::starEach es X.env:=by rfl) (b:(backTo cpos (starEach es X.env)).any (·.1)=false:=by rfl) :
 PE X (.Call (.Attribute o name apos) (e::es) [] cpos) (kt X.K T r to t):=by
 intro a s σ H Q I h;refine wpAny_Call_method_late c f d Z (aw (z a s σ H _ I h) λv s1 ⟨x,m,j,i,ty,F⟩=>?_);obtain⟨C,u⟩:=BQ j i ty;refine⟨T,id,k,slot,g,C,u,?_⟩;have hA:=B cpos a s1 σ m _ j F;rw[hs]at hA ⊢;refine Calls.callWith_builtin (by show (false || (backTo cpos (starEach es X.env)).any (·.1))=false;rw[b]<;>rfl) (Calls.evalArgs_plain ?_);exact aw hA λus q ⟨vs,D,n,y,l⟩=>p a q σ D x vs v us Q n i y l
end
def uj(X:Cx)(id:String)(r:V->List V->Hp->VK->Prop):Prop :=
 ∀(a:List (Addr × Obj)) (s:fv) (σ:St) (H:Hp) (x:V) (xs:List V) (v:Value) (us:List Value) (Q:VK),ag X a σ H s->aP x v->ay xs us->r x xs H Q ->
  wpAny (model X.prog X.w) X.A (call (.builtin id) (v::us)) (EP X a σ Q) X.xe s
theorem ay.one:∀ {x:V} {us:List Value},ay [x] us->∃u,us=[u]/\aP x u
 | _,_,.cons r .nil=>⟨_,rfl,r⟩
theorem ay.zero:∀ {us:List Value},ay [] us->us=[]
 | _,.nil=>rfl
theorem ay.eraseIdx:∀ {xs:List V} {us:List Value} (i:Nat),ay xs us->ay (xs.eraseIdx i) (us.eraseIdx i)
 | _,_,_,.nil=>.nil
 | _,_,0,.cons _ t=>t
 | _,_,i+1,.cons r t=>.cons r (ay.eraseIdx i t)
def ay.reverse{xs:List V}{us:List Value}(h:ay xs us):ay xs.reverse us.reverse:=by
 induction h with
 | nil=>exact .nil
 | cons r t ih=>rw[List.reverse_cons,List.reverse_cons];exact ay.append ih (.cons r .nil)
theorem ay.rep{xs:List V}{us:List Value}(h:ay xs us):∀k:Nat,ay (List.replicate k xs).flatten (List.replicate k us).flatten
 | 0=>.nil
 | k+1=>by
  rw[XB,XB,Yc,Yc];exact ay.append h (ay.rep h k)
theorem Ew{α:Type}:∀(l:List α) (i:Nat),(l.eraseIdx i).length<=l.length
 | [],_=>WB _
 | _::_,0=>Xp _
 | _::r,i+1=>XR (Ew r i)
theorem FW(a:List Value):∀(k:Nat) (b:List Value),
 List.foldl (λd c=>d++c) b.toArray (List.replicate k a.toArray)=(b++(List.replicate k a).flatten).toArray
 | 0,b=>by simp
 | k+1,b=>by
  have e:b.toArray++a.toArray=(b++a).toArray:=by simp
  have f:(b++a)++(List.replicate k a).flatten=b++(List.replicate (k+1) a).flatten:=by
   rw[XB,Yc,Xe]
  rw[<- f,<- FW a k (b++a),<- e,XB,Yd]
section
variable {X:Cx}{pins:List (Addr × Obj)}{σ:St}{H:Hp}{s:fv}{l b:Addr}{xs ys zs:List V}
def ag.lset{a its':List Value}{n:Nat}{f:Array Value->Array Value}{t':Nat}(I:ag X pins σ H s)(hH:H l=some (.lst xs))
 (e:s.heap.get? l=some { cls:=.type "list",data:=.seq a.toArray n }) (d:f a.toArray=its'.toArray) (c:ay ys its') (hz:ys.length<=sizeLine) :
 ag X pins σ (upd H l (.lst ys)) { s with heap:=s.heap.update l (Obj.mapSeq f),toks:=t' }:=by
 have q:=PySem.IsL.update e f;rw[d]at q;refine I.write (x:=l) (e:=l) (by rw[hH];exact trivial) (.inl Z) (λb' u hb b=>(Xu s.heap (Obj.mapSeq f) (Ne.symm hb)).trans b) ⟨_,q⟩ ?_;exact⟨hz,its',_,c,q⟩
def ag.lnew{a:List Value}{t':Nat}(I:ag X pins σ H s)(b:ay ys a)(hz:ys.length<=sizeLine) :
 ag X pins σ (upd H s.heap.objs.size (.lst ys)) { s with heap:=s.heap.push { cls:=.type "list",data:=.seq a.toArray },toks:=t' } :=
 I.laid (λ_ _ q=>WG _ q) (WB _) ⟨hz,a,0,b,W5 _ rfl⟩
def ag.fresh(I:ag X pins σ H s):H s.heap.objs.size=none:=I.hok.fresh (WB _)
def ag.lstM(I:ag X pins σ H s)(hH:H l=some (.lst xs)):xs.length<=sizeLine/\∃(a:List Value) (n:Nat),ay xs a/\xs.length=a.length/\s.heap.get? l=some { cls:=.type "list",data:=.seq a.toArray n }:=by
 obtain⟨z,a,n,r,e⟩:=I.hok l _ hH;exact⟨z,a,n,r,r.length,e⟩
def rB{n:Nat}(h:n<=sizeLine):Builtin.List.listTooLong n=false:=by
 unfold Builtin.List.listTooLong;exact ZU (by omega)
end
section
variable {X:Cx}
def L8:V->List V->Hp->VK->Prop:=λx vs H Q=>∃l xs y,x=.ref l/\vs=[y]/\H l=some (.lst xs)/\xs.length<sizeLine/\Q .non (upd H l (.lst (xs++[y])))
def Os:uj X "list.append" L8:=by
 intro b s σ H x vs v us Q I f c h;obtain⟨l,xs,y,rfl,rfl,hH,hz,q⟩:=h;cases f;obtain⟨u,rfl,d⟩:=c.one;obtain⟨z,a,n,r,g,e⟩:=I.lstM hH;refine call_meets F.slot_list_append ⟨_,e,rfl⟩ F.entry_list_append (F.args_list_append_2 _ _) (PySem.list_append l a.toArray n u (by rw[WH];omega)) ⟨e,?_⟩;refine⟨.non,_,I.lset (its':=a++[u]) hH e (by simp) (r.append (.cons d .nil)) ?_,rfl,q⟩;rw[WC,List.length_singleton];omega
def L6:V->List V->Hp->VK->Prop:=λx vs H Q=>∃l b xs zs,x=.ref l/\vs=[.ref b]/\H l=some (.lst xs)/\H b=some (.lst zs)/\xs.length+zs.length<=sizeLine/\Q .non (upd H l (.lst (xs++zs)))
def Oo:uj X "list.extend" L6:=by
 intro f s σ H x vs v us Q I m i h;obtain⟨l,b,xs,B,rfl,rfl,hH,hB,hz,q⟩:=h;cases m;obtain⟨u,rfl,j⟩:=i.one;cases j;obtain⟨z,c,n,r,y,e⟩:=I.lstM hH;obtain⟨z2,a,o,g,p,k⟩:=I.lstM hB;have hsz:c.toArray.size+a.toArray.size<=sizeLine:=by rw[WH,WH];omega
 have d:¬(!c.toArray.isEmpty && Builtin.List.listTooLong (c.toArray.size+a.toArray.size))=true:=by
  rw[rB hsz,Bool.and_false];exact WR
 refine call_meets F.slot_list_extend ⟨_,e,Z⟩ F.entry_list_extend (F.args_list_extend_2 _ _)
  (AutoSeq1.list_extend_list_list_0 l c.toArray n b a.toArray o d (by rw[WH];omega) (by omega)) ⟨e,k,?_⟩
 refine⟨.non,_,I.lset (its':=c++a) hH e (by simp) (r.append g) ?_,rfl,q⟩;rw[WC];omega
def LX:V->List V->Hp->VK->Prop:=λx vs H Q=>∃l xs i k y,x=.ref l/\vs=[.int i]/\H l=some (.lst xs)/\-(2 ^ 63)<=i/\i<2 ^ 63/\seqIndex? i xs.length=some k/\xs[k]? = some y/\Q y (upd H l (.lst (xs.eraseIdx k)))
def On:uj X "list.pop" LX:=by
 intro c s σ H x vs v us Q I p m h;obtain⟨l,xs,i,k,y,rfl,rfl,hH,j,d,g,B,q⟩:=h;cases p;obtain⟨u,rfl,o⟩:=m.one;obtain⟨t,rfl⟩:=o;obtain⟨z,a,n,r,f,e⟩:=I.lstM hH;obtain⟨w,hw,b⟩:=r.get B;refine call_meets F.slot_list_pop ⟨_,e,Z⟩ F.entry_list_pop (F.args_list_pop_2 _ _)
  (MeetsSeq.list_pop_at l a.toArray n i t k w (fitsIndex_both j d) (by rw[WH,<- f];exact g) (by rw[<- Zp];exact hw) (by rw[WH];omega)) ⟨e,?_⟩
 refine⟨y,_,I.lset (its':=a.eraseIdx k) hH e ?_ (r.eraseIdx k) ?_,b,q⟩
 ·show a.toArray.eraseIdxIfInBounds k=(a.eraseIdx k).toArray;rw[List.eraseIdxIfInBounds_toArray]
 ·have:=Ew xs k;omega
def LV:V->List V->Hp->VK->Prop:=λx vs H Q=>∃l xs,x=.ref l/\vs=[]/\H l=some (.lst xs)/\Q .non (upd H l (.lst xs.reverse))
def Om:uj X "list.reverse" LV:=by
 intro c s σ H x vs v us Q I f d h;obtain⟨l,xs,rfl,rfl,hH,q⟩:=h;cases f;have b:=d.zero;subst b;obtain⟨z,a,n,r,g,e⟩:=I.lstM hH;refine call_meets F.slot_list_reverse ⟨_,e,rfl⟩ F.entry_list_reverse (F.args_list_reverse_1 _) (AutoSeq1.list_reverse_list_0 l a.toArray n (by rw[WH];omega)) ⟨e,?_⟩;refine⟨.non,_,I.lset (its':=a.reverse) hH e (by simp) r.reverse ?_,rfl,q⟩;rw[YO];omega
def LW:R2:=λx y H Q=>∃l k xs,x=.ref l/\y=.int k/\H l=some (.lst xs)/\-(2 ^ 63)<=k/\k<2 ^ 63/\xs.length*k.toNat<=sizeLine /\
 ∀p,H p=none->Q (.ref p) (upd H p (.lst (List.replicate k.toNat xs).flatten))
def OW{α:Type}(xs:List α)(k:Nat):(List.replicate k xs).flatten.length=k*xs.length:=by
 induction k with
 | zero=>simp
 | succ k ih=>rw[XB,Yc,WC,ih,Nat.succ_mul,YQ]
def NO:aV X (binaryOp .Mult) LW:=by
 intro p s σ H x y v u Q I M C h;obtain⟨l,k,xs,rfl,rfl,hH,G,B,hz,q⟩:=h;cases M;obtain⟨t,rfl⟩:=C;obtain⟨z,b,n,r,D,e⟩:=I.lstM hH;have d:b.toArray.size*k.toNat<=sizeLine:=by rw[WH,<- D];exact hz
 have i:¬b.toArray.size*k.toNat > (2 ^ 63-1)/8:=by
  have:(sizeLine:Nat)<=(2 ^ 63-1)/8:=by decide
  omega
 have f:¬(!Builtin.List.listFitsIndex k)=true:=by
  rw[fitsIndex_both G B];exact WR
 have c:¬Builtin.List.listTooLong (b.toArray.size*k.toNat)=true:=by
  rw[rB d];exact WR
 have g:List.foldl (λo j=>o++j) #[] (List.replicate (if b.toArray.isEmpty=true then 0 else k.toNat) b.toArray)=(List.replicate k.toNat b).flatten.toArray:=by
  have J:∀m:Nat,List.foldl (λo j=>o++j) #[] (List.replicate m b.toArray)=(List.replicate m b).flatten.toArray:=λm=>by
   have:=FW b m [];rw[XS]at this;exact this
  rw[J];cases b with
  | nil=>simp
  | cons a r'=>rw[ZP (by simp)]
 refine wpAny_binaryOp_repeat_ref (T := "list") (U := "int") (by decide) ⟨_,e,rfl⟩ (λL=>typeIs_int L k t) noFill_list_mul F.fills_int_mul F.slot_int_rmul repeat_list F.slot_int_index.lookup
  (call_meets F.slot_int_rmul (typeIs_int s k t) F.entry_int_rmul (F.args_int_rmul_2 _ _) (int___rmul___int_list k t l b.toArray n)
    ⟨e,rfl,⟨_,e,rfl⟩,call_meets F.slot_list_mul ⟨_,e,rfl⟩ F.entry_list_mul (F.args_list_mul_2 _ _) (AutoListH.list___mul___list_int_3 l b.toArray n k t f i c) ⟨e,?_⟩⟩)
 rw[g];exact⟨.ref _,_,I.lnew (t':=s.toks) (r.rep k.toNat) (by rw[OW,Nat.mul_comm];exact hz),Z,q _ I.fresh⟩
end
section
variable {prog:Program}{w:World}{A:Around}{E:Value->fv->Prop}{s:fv}
def TB{a c n:Nat}(e:a<=c)(f:c<=n):sliceBounds (some (a:Int)) (some (c:Int)) none n=((a:Int),(c:Int),1):=by
 simp only [sliceBounds,YN];have d:¬((a:Int)<0):=by omega
 have b:¬((c:Int)<0):=by omega
 simp only [d,b,if_false,show (1:Int) > 0 by decide,if_true]
 congr 1
 ·omega
 ·congr 1;omega
set_option maxRecDepth 100000 in
def Wh{l b k:Addr}{items new:Array Value}{n D:Nat}{r o:Value}{a c:Nat}{Q:Unit->fv->Prop}
 (e:s.heap.get? l=some { cls:=.type "list",data:=.seq items n }) (z:s.heap.get? b=some { cls:=.type "list",data:=.seq new D }) (u:l≠b)
 (hs:s.heap.IsSliceOf k r o .none) (pl:IsPart r (some (a:Int))) (B:IsPart o (some (c:Int))) (v:a<=c) (C:c<=items.size)
 (hsz:items.size+new.size<=sizeLine) (h:Q () { s with heap:=s.heap.update l (Obj.mapSeq λxs=>xs.extract 0 a++new++xs.extract c xs.size) }) :
 wpAny (model prog w) A (setItem (.ref l) (.ref k) (.ref b)) Q E s:=by
 have p:s.heap.IsList l items:=PySem.IsL.isList e;have hb:s.heap.IsList b new:=PySem.IsL.isList z;obtain⟨os,f,y,g⟩:=id hs;have hTs:s.TypeIs (.ref k) "slice":=⟨os,f,y⟩;have i:¬((rawPart none == rawInt 0)=true):=WR;have d:Builtin.List.listSameRef (.ref l) (.ref b)=false:=by
  unfold Builtin.List.listSameRef;exact beq_eq_false_iff_ne.mpr u
 have j:(max (a:Int) (c:Int)).toNat=c:=by omega
 have q:((λxs:Array Value=>xs.extract 0 a++new++xs.extract c xs.size) items).size<=sizeLine+1:=by
  simp only [Array.size_append,Array.size_extract];omega
 unfold setItem
 try with_reducible refine wpAny_holding ?_
 first|refine kb (ZO ?_)|skip
 refine kb (wpAny_sequenceKey p.typeIs (by decide) ?_);refine kb (wpAny_callSpecial?_slot (name:=Str.ofString "__setitem__") p.typeIs slot_list_setitem
  (wpAny_call_entry slot_list_setitem p.typeIs entry_list_setitem ?_ (args_list_setitem _ _ _)))
 show wpAny _ _ (Builtin.List.listSubscript? (.ref k) >>= _) _ _ s;refine kb ?_;unfold Builtin.List.listSubscript?;refine kb (wpAny_specialOf hTs slice_no_index ?_);simp only [Option.isNone_none,if_true];refine ZO ?_;show wpAny _ _ (typeOf (.ref k) >>= _) _ _ s;refine kb (wpAny_typeOf hTs ?_)
 first
  | rw[ZP (by decide)]
  | refine W.KFB.if_not (by decide) ?_
 rw[listSliceParts_eq];refine kb (kb (wpAny_field f g (x:=.none) Z (kb (wpAny_listPart .none ?_))));rw[ZP i];refine kb (wpAny_field f g (x:=r) Z (kb (wpAny_listPart pl ?_)));refine kb (wpAny_field f g (x:=o) Z (kb (wpAny_listPart B (ZO ?_))))
 first
  | simp only [d,Yt,if_false]
  | refine W.KFB.if_not d ?_
  | (dsimp only
     rw[ZP (by rw[d];exact WR)])
 refine kb (m:=Builtin.List.listAllItems (.ref b) "must assign iterable to extended slice") ?_;unfold Builtin.List.listAllItems;refine kb (wpAny_typeOf hb.typeIs ?_)
 first
  | refine W.KFB.if_so (by decide) ?_
  | rw[ZQ (by decide)]
  | simp only [beq_self_eq_true,Bool.true_or,if_true]
 unfold Builtin.List.listItems;refine kb (wpAny_seqItems z Z (ZO ?_));refine kb (kb (wpAny_seqItems e Z (ZO ?_)));refine kb (wpAny_of_eq ((sliceIndices_raw (some (a:Int)) (some (c:Int)) none items.size (by simp)).trans (congrArg (pure:Int × Int × Int->Sem (Int × Int × Int)) (TB v C))) ?_);show wpAny _ _ (if ((1:Int) == 1)=true then _ else _) _ _ s;rw[ZQ (by decide)];refine kb (wpAny_rule ?_)
 first
  | simp only [rB hsz,Yt,if_false]
  | refine W.KFB.if_not (rB hsz) ?_
 first|refine kb (ZO ?_)|skip
 show wpAny _ _ (updateSeq l (λxs=>xs.extract 0 ((a:Int)).toNat++new++xs.extract (max (a:Int) (c:Int)).toNat xs.size) >>= _) _ _ s;rw[j,XC];refine kb (wpAny_updateSeq (hz:=WP (Nat.le_add_right _ _) hsz) (_hz':=q) e Z ?_);refine kb (wpAny_letGo ?_)
 first
  | exact kb (ZO (ZO ⟨.none,rfl,ZO h⟩))
  | exact ZO ⟨.none,rfl,ZO h⟩
end
end L2
namespace Att
open PySem PySem.W PySem.Calls PyProof.Rows
def Pl{P:Params}{h:Heap}:∀(ns:e7) (vs:List Value),WellAll P h vs (ns.map WData.int)->IntsAre vs ns:=by
 intro ns
 induction ns with
 | nil =>
  intro vs w;rw[List.map_nil]at w;cases w;exact .nil
 | cons n ns ih =>
  intro vs w;rw[W7]at w;cases w with
  | cons a b =>
   cases a;exact .cons _ _ (ih _ b)
def KD{l:OpenLaw}{n:Nat}(k:l.most=some n){P:Params}{h:Heap}{args:List WData}{vals:List Value}
 (b:l.row.toRowW.claim.pre args=true) (g:WellAll P h vals args) :
 ∃a vs ns,vals=[Value.ref a]/\args=[WData.list (ns.map WData.int)]/\h.get? a=some { cls:=.type "list",data:=.seq vs.toArray }/\IntsAre vs ns/\ns.length<=n:=by
 have i:WShape.hasAll [] args [.list .int]=true:=(pre_splitW b).1;have j:l.pre.holds [] { args:=args }=true:=(pre_splitW b).2;obtain⟨d,r,rfl,p,m⟩:=hasAllW_cons i;obtain rfl:=hasAllW_nil m;obtain⟨xs,rfl,o⟩:=hasW_list p;obtain⟨ns,rfl⟩:=items_int o;have c:ns.length<=n:=by
  unfold OpenLaw.pre at j;have e:(WTm.not (.lt (.lit (.int (n:Int))) (.len (.arg 0)))).holds [] { args:=[.list (ns.map .int)] }=true:=by
   have e:=(holds_andW j).1;rw[k]at e;exact e
  have f:=condW_of e (w_not (w_lt w_lit (w_len_list (w_arg rfl))));rw[WA]at f;refine Nat.le_of_not_lt λq=>?_;have s:(n:Int)<((ns.length:Nat):Int):=by omega
  first
   | (rw[ZT s]at f;exact ZR f (by decide))
   | (simp at f;omega)
 cases g with
 | cons w1 w2 =>
  cases w2;cases w1 with
  | list ho hall=>exact⟨_,_,ns,rfl,rfl,ho,Pl ns _ hall,c⟩
def MZ(l:OpenLaw)(args:List WData):l.row.toRowW.claim.post args (.bool true) args=true :=
 postW_of (r:=l.row.toRowW) (X:=(true == true))
  (show WShape.has [] (.bool true) .bool=true by first|rfl|decide|simp[WShape.has,WShape.arms,WShape.armsAll])
  (show (WTm.eq .res (.lit (.bool true))).value [] { args:=args,res:=some (.bool true),after:=args }=some (.bool (true == true)) from w_eq_bool (w_res rfl) w_lit) rfl
def attach_call{l:OpenLaw}{n:Nat}{q:Program}{c:List Str}{D:(Str->Option Value)->Heap->Prop}{B:World->Heap->Prop}{d:DefRec}
 (F:l.most=some n) (z:d.params.defaults=[])
 (call:∀(w:World) (s₀ b:fv) (mg u:Str->Option Value) (i:Addr) (o:Obj) (v p e:Value) (a:Addr) (vs:List Value) (ns:e7),
   Ground q c [] D w s₀ mg u b.heap->B w b.heap ->
   b.heap.get? i=some o->o.data=.func (docDef d.name d.params d.body d.scope v p e)->b.heap.CodeRec p d.name->mg d.name=some (.ref i) ->
   b.heap.get? a=some { cls:=.type "list",data:=.seq vs.toArray }->IntsAre vs ns->ns.length<=n->b.gens = #[] ->
   codeAny (model l.prog w) callerA (.call (.ref i) ⟨[.ref a],[]⟩) (λr m=>r=.ok (.ret (.bool true))/\OldK b.heap m.heap/\m.os=b.os/\AllBare m.gens) b) :
 WalkO q c D B l.row.toRowW d [] (λf vs=>PySem.call f vs):=by
 intro w s₀ b mg u G Y i o v p e dV kV R hd s hD x N args vals as j C L y J;obtain rfl:dV=.none:=Dflts.none hD z;obtain rfl:kV=.none:=Dflts.noKw hD;obtain⟨a,vs,ns,rfl,rfl,k,g,h⟩:=KD F j y;refine enter_call (codeAny_mono (call w s₀ b mg u i o v p e a vs ns G Y R (fd_plain hd) s x k g h N) λr m hq=>?_);obtain⟨rfl,O,I,S⟩:=hq;exact⟨.inl ⟨.bool true,.bool true,[],rfl,λ_=>rfl,.bool true,MZ l _,λ_=>⟨List.Pairwise.nil,λ_ M=>(nomatch M)⟩⟩,O,I,S⟩
end Att
namespace L2
open PySem PySem.Spec PyProof.Rows
theorem BJ:∀ {vs:List Value} {ns:e7},IntsAre vs ns->ay (ns.map V.int) vs
 | _,_,.nil=>.nil
 | _,_,.cons n t h=>.cons ⟨t,rfl⟩ (BJ h)
def Bz(H:Hp):Prop:=∀b,H b=none\/∃o xs,H b=some (.frz o (.lst xs))
def OZ{P:Program}{w:World}{K:W.Frag}{mg I:Str->Option Value}{CX:gU}{k:Nat}{J a:Addr}{N:FuncData}{x:Str}{sp:Sp}{c:fv}{vs:List Value}{ns:e7}
 (O:K.In c.heap) (C:c.heap.Ns mainGlobals mg) (hb:c.heap.Ns builtinsNs I) (G:∀x:Str,x ≠ "__name__"->I x=bootBuiltins x) (p:c.heap.NoLimit) (hg:c.gens = #[])
 (D:c.heap.get? a=some { cls:=.type "list",data:=.seq vs.toArray }) (S:IntsAre vs ns) (U:ns.length<=sizeLine) (hr:bH k callerA)
 (F:∀base:Heap,K.In base->base.Ns mainGlobals mg->bo P w K mg base CX k J N [x] sp) (j:∀(s:fv) (u:Value),BindsTo s N ⟨[u],[]⟩ [(x,u)])
 (L:∀H:Hp,Bz H->aE K H a (ns.map V.int)->sp [.ref a] H (λv _=>v=.bl true) λ_ _ _=>False)
 (hCX:∀H e g,CX [] H c (λ_ _ _=>False) e g->False) :
 codeAny (model P w) callerA (.call (.ref J) ⟨[.ref a],[]⟩) (λr g=>r=.ok (.ret (.bool true))/\OldK c.heap g.heap/\g.os=c.os/\AllBare g.gens) c:=by
 have Y:=BJ S;have lenV:=S.length;have i:∀H:Hp,Bz H->aE K H a (ns.map V.int)->bC P w H c.heap->(∀b,H b≠none->b=a)->(H a≠none->K.lookup a=none) ->
  codeAny (model P w) callerA (.call (.ref J) ⟨[.ref a],[]⟩) (λr g=>r=.ok (.ret (.bool true))/\OldK c.heap g.heap/\g.os=c.os/\AllBare g.gens) c:=by
  intro H hO hS hok hA hK;have f:∀ {b:Addr} {o:Obj},c.heap.get? b=some o->H b=none->(js c.heap H).get? b=some o:=λe n=>PB e n;have noA:∀ {b:Addr} {o:Obj} {es:Array DictEntry} {y:Nat},c.heap.get? b=some o->o.data=.dict es y->H b=none:=λ{b o es y} e d=>by
   cases q:H b with
   | none=>rfl
   | some u =>
    have M:b=a:=hA b (by rw[q];simp);subst M;rw[D]at e;cases e;have d':Data.seq vs.toArray _=Data.dict es y:=d;cases d'
  have nsK:∀ {b:Addr} {m:Str->Option Value},c.heap.Ns b m->(js c.heap H).Ns b m:=λ{b m} ⟨o,es,y,e,d,r⟩=>⟨o,es,y,f e (noA e d),d,r⟩;have hKb:K.In (js c.heap H):=λb o e=>f (O b o e) (by
   cases q:H b with
   | none=>rfl
   | some u =>
    have M:b=a:=hA b (by rw[q];simp);subst M;rw[hK (by rw[q];simp)]at e;cases e)
  have hM:Mod K mg (js c.heap H):=⟨hKb,nsK C,⟨I,nsK hb,G⟩,let ⟨mc,h1,h2⟩:=p;⟨mc,nsK h1,h2⟩⟩;have e0:ki P w K mg (js c.heap H) callerA [] c H:=⟨rfl,hM,λb o e=>Og e,XH (Pz _ _),trivial,λb hb=>ZR (show b∈([]:List Addr) from hb) (by simp),hok,.of_eq hg⟩;refine codeAny_mono ((F _ hKb (nsK C)).run callerA [] c H ⟨[.ref a],[]⟩ [.ref a] [.ref a] _ _ hr e0 (j c (.ref a)) (.cons Z .nil) (L H hO hS)) λr g h=>?_;cases r with
  | error e=>exact (hCX H e g h).elim
  | ok fl =>
   cases fl with
   | next=>exact False.elim h
   | brk=>exact False.elim h
   | cont=>exact False.elim h
   | ret u =>
    obtain⟨v,H',os,bare,un,B,r',q⟩:=h;have q':v=.bl true:=q;subst q';obtain rfl:u=Value.bool true:=r';refine⟨rfl,OldK.of_keep λb o e=>?_,os,bare⟩;cases q:H b with
    | none=>exact un.keep b o e q (by intro z;exact ZR (show b∈([]:List Addr) from z) (by simp)) (by simp)
    | some u =>
     rcases hO b with z|⟨ob,xs,z⟩
     ·rw[q]at z;cases z
     ·have z2:=un.frzs b ob _ z;obtain⟨R,_⟩:=hok b _ z;obtain⟨e2,_⟩:=B b _ z2;rw[e]at R;cases R;exact e2
 cases hk:K.lookup a with
 | some o =>
  have e:=O a o hk;rw[D]at e;cases e;refine i (λ_=>none) (λ_=>.inl rfl) (.inr ⟨_,vs.toArray,_,hk,rfl,rfl,rfl,by rw[WH,lenV];exact U,by simpa using Y⟩) (λb u z=>by have l:(none:Option HO)=some u:=z;cases l) (λb z=>ZR rfl z) λz=>ZR rfl z
 | none =>
  refine i (λb=>if b=a then some (.frz { cls:=.type "list",data:=.seq vs.toArray } (.lst (ns.map V.int))) else none) (λb=>?_) (.inl (.inr ⟨{ cls:=.type "list",data:=.seq vs.toArray },ZQ Z⟩)) (λb u z=>?_) (λb z=>?_) λ_=>hk
  ·by_cases hb:b=a
   ·exact .inr ⟨_,_,ZQ hb⟩
   ·exact .inl (ZP hb)
  ·by_cases hb:b=a
   ·have l:=(ZQ hb).symm.trans z;cases l;subst hb;exact⟨D,by rw[WA];exact U,vs,_,Y,D⟩
   ·have l:=(ZP hb).symm.trans z;cases l
  ·by_cases hb:b=a
   ·exact hb
   ·exact ZR (ZP hb) z
abbrev KOf{K:W.Frag}{h:Heap}(_:K.In h):W.Frag:=K
def walk_of{l:W.OpenLaw}{n k:Nat}{q:Program}{j:List Str}{S:(Str->Option Value)->Heap->Prop}{I:World->Heap->Prop}{d:DefRec}{K:Params->W.Frag}{CX:World->gU}{sp:World->Sp}{x:Str}
 (L:l.most=some n) (z:n<=sizeLine) (C:d.params.defaults=[]) (U:bH k callerA)
 (hY:∀(w:World) (h:Heap),I w h->(K w.params).In h)
 (F:∀(w:World) (mg:Str->Option Value) (p:Addr) (h:Heap),(K w.params).In h->h.Ns mainGlobals mg->mg d.name=some (.ref p) ->
   ∃r:FuncData,(∀(s:fv) (u:Value),BindsTo s r ⟨[u],[]⟩ [(x,u)]) /\
    ∀base:Heap,(K w.params).In base->base.Ns mainGlobals mg->bo l.prog w (K w.params) mg base (CX w) k p r [x] (sp w))
 (B:∀(w:World) (H:Hp) (a:Addr) (ns:e7),ns.length<=n->Bz H->aE (K w.params) H a (ns.map V.int)->sp w [.ref a] H (λv _=>v=.bl true) λ_ _ _=>False)
 (hCX:∀(w:World) (H:Hp) (s:fv) (e:Value) (D:fv),CX w [] H s (λ_ _ _=>False) e D->False) :
 W.WalkO q j S I l.row.toRowW d [] (λf vs=>PySem.call f vs):=by
 refine Att.attach_call L C λw s₀ R mg mb p o pm cd N a vs ns G Y ho hd M y m i c O=>?_;have J:=hY w _ Y;obtain⟨r,hb,hF⟩:=F w mg p _ J G.T.g y;exact OZ J G.T.g G.T.b G.T.builtins G.T.nolimit O m i (WP c z) U hF hb (λH hO hS=>B w H a ns c hO hS) λH e D=>hCX w H R e D
end L2
namespace L2
open PySem PySem.Spec PyProof.Rows
def bp(s:Stmt)(j:Nat):Stmt:=match s with
 | .ClassDef _ _ _ body _ _ _ _ _ _ _=>body.getD j (.Pass ⟨0,0,0,0⟩)
 | _=>.Pass ⟨0,0,0,0⟩
def eK(s:Stmt):Arguments:=match s with
 | .FunctionDef _ a _ _ _ _ _ _ _ _=>a
 | _=>{ posonlyargs:=[],args:=[],vararg:=none,kwonlyargs:=[],kw_defaults:=[],kwarg:=none,defaults:=[] }
def dD(s:Stmt):List Stmt:=match s with
 | .FunctionDef _ _ b _ _ _ _ _ _ _=>b
 | _=>[]
def al(s:Stmt):Scope:=match s with
 | .FunctionDef _ _ _ _ _ _ sc _ _ _=>sc
 | _=>{ kind:=.function,names:=[],isGenerator:=false,isCoroutine:=false }
abbrev bK:gU:=λ_ _ _ _ _ _=>False
abbrev E0:XK:=λ_ _ _=>False
def DK{X:Cx}:kg bK X E0:=λ_ _ _ _ _ _ _ h=>h.elim
structure Fun (K:W.Frag) (x qual:Str) (st:Stmt) (f:Addr) (fd:FuncData):Prop where
 ex:∃(oc:Value) (od:Option Addr) (kV doc pm:Value) (an:Option Addr) (cdv ct:Value) (osl:Array (Option Value)),
  fd=W.fnOf x qual (eK st) (dD st) (al st) .none kV doc pm an cdv ct/\K.lookup f=some ⟨oc,od,.func fd,osl⟩/\W.codeIn K cdv qual=true
 kp:W.keepIn K (.ref f)=true
section
variable {P:Program}{w:World}{K:W.Frag}{mg:Str->Option Value}{base:Heap}
def Fun.ok{x qual:Str}{st:Stmt}{f:Addr}{e:FuncData}{N ps:List Str}{k:Nat}{sp:Sp}(F:Fun K x qual st f e)(S:ax N ps (al st))(len:∀vs H Q E,sp vs H Q E->vs.length=ps.length)
 (b:∀(a:Value) (A:Around) (outer:List Env) (s:fv) (H:Hp) (vs:List V) (Q:VK) (E:XK),bH k (A.deeper (envOfC qual (al st) s.heap.objs.size f a))->sp vs H Q E ->
   ∃t,gv (gO bK P w K mg base N qual (al st) f a A outer s H E).nox (dD st) t/\t { nx:=λ_ g=>Q .non g,rt:=Q } (ir N vs) H):bo P w K mg base bK (k+1) f e ps sp:=by
 obtain⟨p,o,kV,l,r,n,a,ct,j,rfl,i,c⟩:=F.ex;refine xY i c S len λA outer s H vs Q E m d=>?_;obtain⟨t,h,q⟩:=b a A outer s H vs Q E m d;exact⟨t,h.nox,q⟩
def Fun.binds{x qual:Str}{st:Stmt}{f:Addr}{e:FuncData}{ps:List Str}(F:Fun K x qual st f e)
 (h:∀(kV b d:Value) (c:Option Addr) (a ct:Value) (us:List Value),us.length=ps.length->bindArgs (W.fnOf x qual (eK st) (dD st) (al st) .none kV b d c a ct) ⟨us,[]⟩=pure (ps.zip us)):aq K e ps []:=by
 obtain⟨l,k,kV,b,d,c,a,ct,i,rfl,j,g⟩:=F.ex;exact .all (h kV b d c a ct)
def fun_mk{x qual:Str}{st:Stmt}{f:Addr}{i:Value}{h e:Option Addr}{d:Array (Option Value)}{kV b g a ct:Value}(l:K.lookup f=some ⟨i,h,.func (W.fnOf x qual (eK st) (dD st) (al st) .none kV b g e a ct),d⟩)
 (c:W.codeIn K a qual=true) (k:W.keepIn K (.ref f)=true):Fun K x qual st f (W.fnOf x qual (eK st) (dD st) (al st) .none kV b g e a ct):=⟨⟨i,h,kV,b,g,e,a,ct,d,rfl,l,c⟩,k⟩
end
def Pc{A B:Prop}(h:B):if false=true then A else B:=by
 rw[ZP WR];exact h
def o6{A B:Prop}(h:A):if true=true then A else B:=by
 rw[ZQ rfl];exact h
def ao{c A B:Prop}[Decidable c](b:c->A)(a:¬c->B):if c then A else B:=by
 by_cases h:c
 ·rw[ZQ h];exact b h
 ·rw[ZP h];exact a h
def af(H a:Hp):Prop:=∀b o,H b=some o->a b=some o
def af.refl(H:Hp):af H H:=λ_ _ h=>h
def af.trans{H d e:Hp}(a:af H d)(b:af d e):af H e:=λc o h=>b c o (a c o h)
def af.free{H a:Hp}(e:af H a){l:Addr}(h:a l=Option.none):H l=Option.none:=by
 cases q:H l with
 | none=>rfl
 | some o =>
  rw[e l o q]at h;cases h
def af.seq{K:W.Frag}{H b:Hp}{a:Addr}{xs:List V}(e:af H b)(h:aE K H a xs):aE K b a xs:=by
 rcases h with (h|⟨o,h⟩)|h
 ·exact .inl (.inl (e _ _ h))
 ·exact .inl (.inr ⟨o,e _ _ h⟩)
 ·exact .inr h
section
variable {κ:Type}[DecidableEq κ]
theorem rD:∀ {l:List κ} {k:κ},l.Nodup->¬k∈l->(l++[k]).Nodup
 | [],k,_,_=>by simp
 | a::r,k,h,hk=>by
  obtain⟨c,b⟩:=X8.mp h;show (a::(r++[k])).Nodup;refine X8.mpr ⟨λm=>?_,rD b λm=>hk (WU.mpr (Or.inr m))⟩;rcases WQ.mp m with q|q
  ·exact c q
  ·exact hk (WU.mpr (Or.inl (WK.mp q).symm))
end
end L2
set_option maxHeartbeats 4000000
namespace HT
open PySem PyProof.Rows
end HT
namespace L2
open PySem PySem.Spec PyProof.Rows
def PE.imp{X:Cx}{e:Expr}{t t':TE}(h:PE X e t)(k:∀σ H Q,t' σ H Q->t σ H Q):PE X e t':=λa s σ H Q I q=>h a s σ H Q I (k σ H Q q)
def aV.imp{X:Cx}{f:Value->Value->Sem Value}{r b:R2}(h:aV X f r)(k:∀x y H Q,b x y H Q->r x y H Q):aV X f b:=λa s σ H x y v u Q I c d q=>h a s σ H x y v u Q I c d (k x y H Q q)
def cK.imp{X:Cx}{f:Value}{r b:List V->Hp->VK->Prop}(h:cK X f r)(k:∀xs H Q,b xs H Q->r xs H Q):cK X f b:=λa s σ H xs us Q I c q=>h a s σ H xs us Q I c (k xs H Q q)
def gS.imp{X:Cx}{r c:R2}(h:gS X r)(k:∀x y H Q,c x y H Q->r x y H Q):gS X c:=λvalue a b s σ H x y v u Q I e d q hs=>h value a b s σ H x y v u Q I e d (k x y H Q q) hs
def af.new{H:Hp}{p:Addr}{o:HO}(h:H p=none):af H (upd H p o):=λb u e=>by rw[ap (aB e h)];exact e
structure bc (H:Hp) (p:Addr) (o:HO) (H':Hp):Prop where
 nw:H p=none
 sm:af H H'
 at_:H' p=some o
def bc.mk'{H:Hp}{p:Addr}{o:HO}(h:H p=none):bc H p o (upd H p o):=⟨h,af.new h,aF⟩
def bc.lst{K:W.Frag}{H a:Hp}{p:Addr}{xs:List V}(g:bc H p (.lst xs) a):aE K a p xs:=.of g.at_
def bc.tup{K:W.Frag}{H a:Hp}{p:Addr}{xs:List V}(g:bc H p (.tup xs) a):be K a p xs:=.of g.at_
def af.put{H a:Hp}{p:Addr}{o:HO}(s:af H a)(h:H p=none):af H (upd a p o):=λb u e=>by
 rw[ap (aB e h)];exact s b u e
def mV(i:Nat):TE:=λσ H Q=>match σ[i]? with
 | some (some v)=>Q v H
 | _=>False
def vv(i:Nat){X:Cx}{x:Str}{pos:Pos}(hN:X.N[i]? = some x:=by rfl)(b:uc X.env.scope x:=by first|exact Or.inl rfl|exact Or.inr (Or.inl rfl)|exact Or.inr (Or.inr rfl))(hd:(x == ("__debug__" : Str))=false:=by decide)
 (a:(x == ("__classdict__" : Str))=false:=by decide):PE X (.Name x pos) (mV i):=(Ni hN b hd a).imp λσ H Q q=>by
 unfold mV at q
 split at q
 ·exact⟨_,by assumption,q⟩
 ·exact q.elim
section
variable {X:Cx}{a b:Expr}{ta tb:TE}{pos:Pos}{bv:List Expr}
def Em(b tb:TE):TE:=λσ H Q=>b σ H λx a=>match x with
 | .bl c=>if c=true then tb σ a Q else Q (.bl false) a
 | _=>False
def Eg(b tb:TE):TE:=λσ H Q=>b σ H λx a=>match x with
 | .bl c=>if c=true then Q (.bl true) a else tb σ a Q
 | _=>False
def Eh(b:TE):TE:=λσ H Q=>b σ H λx a=>match x with
 | .bl c=>Q (.bl (!c)) a
 | _=>False
def OI(i:PE X a ta)(hb:PE X (.BoolOp .And (b::bv) pos) tb):PE X (.BoolOp .And (a::b::bv) pos) (Em ta tb):=by
 intro d s σ H Q I h;refine BoolOp_and (aw (i d s σ H _ I h) λv s1 ⟨x,f,g,j,e⟩=>?_);cases x with
 | bl c =>
  cases j;refine wpAny_truthy_bool ?_;cases c with
  | true=>exact hb d s1 σ f Q g e
  | false=>exact⟨.bl false,f,g,rfl,e⟩
 | _=>exact False.elim e
def OB(i:PE X a ta)(hb:PE X (.BoolOp .Or (b::bv) pos) tb):PE X (.BoolOp .Or (a::b::bv) pos) (Eg ta tb):=by
 intro d s σ H Q I h;refine BoolOp_or (aw (i d s σ H _ I h) λv s1 ⟨x,f,g,j,e⟩=>?_);cases x with
 | bl c =>
  cases j;refine wpAny_truthy_bool ?_;cases c with
  | false=>exact hb d s1 σ f Q g e
  | true=>exact⟨.bl true,f,g,rfl,e⟩
 | _=>exact False.elim e
def OC(e:PE X a ta):PE X (.UnaryOp .Not a pos) (Eh ta):=by
 intro b s σ H Q I h;refine UnaryOp_ (aw (e b s σ H _ I h) λv s1 ⟨x,g,i,f,d⟩=>?_);cases x with
 | bl c =>
  cases f;exact not_of (wpAny_truthy_bool ⟨.bl (!c),g,i,Z,d⟩)
 | _=>exact False.elim d
def mB(t:TE):TT:=λσ H Q=>t σ H λx a=>match x with
 | .bl c=>Q c a
 | _=>False
def Oj{e:Expr}{t:TE}(h:PE X e t)(g:∀whole,isTrue e X.env whole=(do let v <- whole;standAt e.pos;holding [v] (truthy v)):=by intro _;rfl):PT X e (mB t):=by
 intro a s σ H Q I hw;refine isTrue_plain (aw (h a s σ H _ I hw) λv s1 ⟨x,f,i,d,b⟩=>?_) (g _);cases x with
 | bl c =>
  cases d;exact wpAny_truthy_bool ⟨f,i,b⟩
 | _=>exact False.elim b
def Op{e:CmpOp}{r:R2}(C:aV X (compareOp e) r)(D:PE X a ta)(hb:PE X b tb)(p:behindInMarks e b=false):PT X (.Compare a [e] [b] pos) (mB (dR r ta tb)):=by
 intro d s σ H Q I h;refine wpAny_isTrue_Compare1 (aw (D d s σ H _ I h) λv s1 ⟨x,n,l,g,G⟩=>aw (hb d s1 σ n _ l G) λu q ⟨y,F,o,B,j⟩ =>
  aw (C d q σ F x y v u _ o g B j) λc L ⟨z,J,m,i,f⟩=>?_) p
 cases z with
 | bl k =>
  cases i;exact wpAny_truthy_bool ⟨J,m,f⟩
 | _=>exact False.elim f
def rF(r b:R2)(h tb g:TE):TE:=λσ H Q=>h σ H λx d=>tb σ d λy f=>r x y f λz a=>match z with
 | .bl k=>if k=true then g σ a λe c=>b y e c Q else Q (.bl false) a
 | _=>False
def OH{c:Expr}{p:TE}{i f:CmpOp}{r l:R2}(W:aV X (compareOp i) r)(j:aV X (compareOp f) l)(Y:PE X a ta)(hb:PE X b tb)(O:PE X c p)
 (R:lastMarks [i,f] [b,c]=false:=by with_unfolding_all rfl):PE X (.Compare a [i,f] [b,c] pos) (rF r l ta tb p):=by
 intro e s σ H Q I h;refine Compare_chain (aw (Y e s σ H _ I h) λv s1 ⟨x,M,J,q,q1⟩=>chain_link (aw (hb e s1 σ M _ J q1) λu U ⟨y,H2,N,n,G⟩ =>
  aw (W e U σ H2 x y v u _ N q n G) λd S ⟨z,o,m,F,g⟩=>?_)) R
 cases z with
 | bl k =>
  cases F;refine wpAny_truthy_bool ?_;cases k with
  | false=>exact ite_ff ⟨.bl false,o,m,rfl,g⟩
  | true=>exact ite_tt (chain_last (aw (O e S σ o _ m g) λC L ⟨D,H4,B,r4,V⟩=>j e L σ H4 y D u C Q B n r4 V))
 | _=>exact False.elim g
def Oq{c:Expr}{q:TE}{i f:CmpOp}{r l:R2}(ho:aV X (compareOp i) r)(j:aV X (compareOp f) l)(ha:PE X a ta)(hb:PE X b tb)(S:PE X c q)
 (U:lastMarks [i,f] [b,c]=false:=by with_unfolding_all rfl):PT X (.Compare a [i,f] [b,c] pos) (mB (rF r l ta tb q)):=by
 intro e s σ H Q I h;refine isTrue_chain (aw (ha e s σ H _ I h) λv s1 ⟨x,O,M,B,q1⟩=>test_link (aw (hb e s1 σ O _ M q1) λu W ⟨y,H2,R,o,L⟩ =>
  aw (ho e W σ H2 x y v u _ R B o L) λd V ⟨z,p,n,J,g⟩=>?_)) U
 cases z with
 | bl k =>
  cases J;refine wpAny_truthy_bool ?_;cases k with
  | false=>exact ite_ff ⟨p,n,g⟩
  | true =>
   refine ite_tt (test_last (aw (S e V σ p _ n g) λD N ⟨F,H4,C,r4,Y⟩=>aw (j e N σ H4 y F u D _ C o r4 Y) λd' s5 ⟨z2,H5,I5,G,m⟩=>?_));cases z2 with
   | bl k2 =>
    cases G;exact wpAny_truthy_bool ⟨H5,I5,m⟩
   | _=>exact False.elim m
 | _=>exact False.elim g
def xu(K:W.Frag)(t:TE):TT:=λσ H Q=>t σ H λx a=>match x with
 | .non=>Q false a
 | .bl c=>Q c a
 | .int i=>Q (i != 0) a
 | .ref p=>∃xs,(aE K a p xs\/be K a p xs)/\Q (!xs.isEmpty) a
 | _=>False
def Ol{e:Expr}{t:TE}(h:PE X e t)(j:∀whole,isTrue e X.env whole=(do let v <- whole;standAt e.pos;holding [v] (truthy v)):=by intro _;rfl):PT X e (xu X.K t):=by
 intro a s σ H Q I hw;refine isTrue_plain (aw (h a s σ H _ I hw) λv s1 ⟨x,f,g,d,b⟩=>?_) (j _);cases x with
 | non=>exact mL a s1 σ f _ v Q g d ⟨false,rfl,b⟩
 | bl c=>exact mL a s1 σ f _ v Q g d ⟨c,rfl,b⟩
 | int i=>exact mL a s1 σ f _ v Q g d ⟨i != 0,rfl,b⟩
 | ref p =>
  obtain⟨xs,hx,b⟩:=b;rcases hx with hx|hx
  ·exact mL a s1 σ f _ v Q g d ⟨_,.inl ⟨xs,hx,Z⟩,b⟩
  ·exact mL a s1 σ f _ v Q g d ⟨_,.inr (.inl ⟨xs,hx,Z⟩),b⟩
 | _=>exact False.elim b
end
section
variable {X:Cx}{a b:Expr}{ta tb:TE}{pos:Pos}
def gI(C:Int->Int->Prop)(g:Int->Int->V):R2:=λx y H Q=>match x,y with
 | .int i,.int j=>C i j/\Q (g i j) H
 | _,_=>False
def pz(g:Int->Int->V):R2:=λx y H Q=>match x,y with
 | .int i,.int j=>Q (g i j) H
 | _,_=>False
def r9{f:Value->Value->Sem Value}{g:Int->Int->V}(h:aV X f (jM g)):aV X f (pz g):=h.imp λx y H Q q=>by
 cases x<;>cases y<;>first|exact False.elim q|exact⟨_,_,rfl,rfl,q⟩
def rZ{f:Value->Value->Sem Value}{C:Int->Int->Prop}{g:Int->Int->V}(h:aV X f (rI C g)):aV X f (gI C g):=h.imp λx y H Q q=>by
 cases x<;>cases y<;>first|exact False.elim q|exact⟨_,_,rfl,rfl,q.1,q.2⟩
def cX:aV X (binaryOp .Sub) (pz λi j=>.int (i-j)):=r9 NK
def rW:aV X (binaryOp .FloorDiv) (gI Ih λi j=>.int (i/j)):=rZ DT
def jt:aV X (binaryOp .Mod) (gI (λ_ j=>0<j) λi j=>.int (i%j)):=rZ DS
def Rv:aV X (binaryOp .RShift) (gI (λ_ j=>0<=j) λi j=>.int (i/2 ^ j.toNat)):=rZ NL
def fi:aV X (compareOp .Lt) (pz λi j=>.bl (decide (i<j))):=r9 NS
def gL:aV X (compareOp .LtE) (pz λi j=>.bl (decide (i<=j))):=r9 NT
def ju:aV X (compareOp .Gt) (pz λi j=>.bl (decide (j<i))):=r9 NW
def Ek(j:Int)(b:TE):TE:=λσ H Q=>b σ H λx a=>match x with
 | .int i=>Q (.int (i/j)) a
 | _=>False
def Ei(j:Int)(b:TE):TE:=λσ H Q=>b σ H λx a=>match x with
 | .int i=>Q (.int (i%j)) a
 | _=>False
def OF{j:Int}{k:Nat}{p:Pos}(f:PE X a ta)(hj:0<j/\j<1073741824:=by decide):PE X (.BinOp a .FloorDiv (.Constant (.int j) k p) pos) (Ek j ta):=by
 intro b s σ H Q I h;refine wpAny_BinOp (aw (f b s σ H _ I h) λv s1 ⟨x,d,r,l,e⟩=>?_);refine aw (rm b s1 σ d (λy c=>y=.int j/\c=d) r ⟨rfl,rfl⟩) λu g ⟨y,c,n,m,q,o⟩=>?_;subst q o;cases x with
 | int i=>exact DT b g σ c (.int i) (.int j) v u Q n l m ⟨i,j,rfl,rfl,hj,e⟩
 | _=>exact False.elim e
def OD{j:Int}{k:Nat}{p:Pos}(f:PE X a ta)(hj:0<j:=by decide):PE X (.BinOp a .Mod (.Constant (.int j) k p) pos) (Ei j ta):=by
 intro b s σ H Q I h;refine wpAny_BinOp (aw (f b s σ H _ I h) λv s1 ⟨x,d,r,l,e⟩=>?_);refine aw (rm b s1 σ d (λy c=>y=.int j/\c=d) r ⟨rfl,rfl⟩) λu g ⟨y,c,n,m,q,o⟩=>?_;subst q o;cases x with
 | int i=>exact DS b g σ c (.int i) (.int j) v u Q n l m ⟨i,j,rfl,rfl,hj,e⟩
 | _=>exact False.elim e
def BP:qk X (unaryOp .USub) (λx H Q=>match x with|.int i=>Q (.int (-i)) H|_=>False):=by
 intro a s σ H x v Q I b q;cases x with
 | int i=>exact IE a s σ H _ v Q I b ⟨i,rfl,q⟩
 | _=>exact False.elim q
end
section
variable {X:Cx}
def S6{c:List (Addr × Obj)}{s:fv}{σ:St}{H:Hp}{l b:Addr}{xs k:List V}{Q:VK}(I:ag X c σ H s)(B:aE X.K H l xs)(hb:aE X.K H b k)(hz:xs.length+k.length<=sizeLine)
 (q:∀p H',bc H p (.lst (xs++k)) H'->Q (.ref p) H'):wpAny (model X.prog X.w) X.A (binaryOp .Add (.ref l) (.ref b)) (EP X c σ Q) X.xe s:=by
 obtain⟨d,r,pl,_⟩:=I.list B;obtain⟨a,v,h,_⟩:=I.list hb;have G:=r.length;have J:=v.length;obtain⟨⟨cls,z,data,C⟩,x,o,n,hd⟩:=pl.isList;obtain⟨⟨u,j,i,m⟩,e,g,D,f⟩:=h.isList;simp only at o hd g f;subst o hd g f;have y:d.toArray++a.toArray=(d++a).toArray:=by simp
 refine concat_meets ⟨_,x,rfl⟩ ⟨_,e,rfl⟩ noFill_list_add seq_list_add PySem.F.slot_list_add PySem.F.entry_list_add (PySem.F.args_list_add_2 _ _) (list_addW l b d.toArray a.toArray n D z j C m (by rw[WH,WH];omega)) ⟨x,e,?_⟩;rw[y];exact⟨.ref _,_,I.lnew (t':=s.toks) (r.append v) (by rw[WC];omega),rfl,q _ _ (.mk' I.fresh)⟩
def FT(K:W.Frag):R2:=λx y H Q=>match x,y with
 | .int i,.int j=>Q (.int (i+j)) H
 | .ref l,.ref b=>∃xs zs,aE K H l xs/\aE K H b zs/\xs.length+zs.length<=sizeLine/\∀p H',bc H p (.lst (xs++zs)) H'->Q (.ref p) H'
 | _,_=>False
def R8:aV X (binaryOp .Add) (FT X.K):=by
 intro a s σ H x y v u Q I d c q;cases x with
 | int i =>
  cases y with
  | int j=>exact NX a s σ H _ _ v u Q I d c ⟨i,j,rfl,rfl,q⟩
  | _=>exact False.elim q
 | ref l =>
  cases y with
  | ref b =>
   obtain⟨xs,h,g,e,f,q⟩:=q;cases d;cases c;exact S6 I g e f q
  | _=>exact False.elim q
 | _=>exact False.elim q
def Sa:R2:=λx y H Q=>match x,y with
 | .int i,.int j=>ut i j/\Q (.int (i*j)) H
 | .ref l,.int k=>∃xs,H l=some (.lst xs)/\-(2 ^ 63)<=k/\k<2 ^ 63/\xs.length*k.toNat<=sizeLine/\∀p H',bc H p (.lst (List.replicate k.toNat xs).flatten) H'->Q (.ref p) H'
 | _,_=>False
def FI:aV X (binaryOp .Mult) Sa:=by
 intro a s σ H x y v u Q I c b q;cases x with
 | int i =>
  cases y with
  | int j=>exact NR a s σ H _ _ v u Q I c b ⟨i,j,rfl,rfl,q.1,q.2⟩
  | _=>exact False.elim q
 | ref l =>
  cases y with
  | int k =>
   obtain⟨xs,g,d,f,e,q⟩:=q;exact NO a s σ H _ _ v u Q I c b ⟨l,k,xs,Z,Z,g,d,f,e,λp h=>q p _ (.mk' h)⟩
  | _=>exact False.elim q
 | _=>exact False.elim q
def xF(x:V)(c:Bool):Bool:=match x with
 | .bl d=>d == c
 | _=>false
def Dn{x:V}{v:Value}{c:Bool}(r:aP x v)(a:∀f,x ≠ .ty f):plainIs v (.bool c)=true/\(v == Value.bool c)=xF x c:=by
 cases x with
 | non=>cases r;exact⟨rfl,rfl⟩
 | bl d=>cases r;exact⟨rfl,by cases d<;>cases c<;>rfl⟩
 | int _=>obtain⟨t,rfl⟩:=r;exact⟨rfl,rfl⟩
 | str _=>obtain⟨t,rfl⟩:=r;exact⟨rfl,rfl⟩
 | byt _=>obtain⟨t,rfl⟩:=r;exact⟨rfl,rfl⟩
 | flt _=>obtain⟨t,rfl⟩:=r;exact⟨rfl,rfl⟩
 | ref _=>cases r;exact⟨rfl,rfl⟩
 | ty f=>exact ZR rfl (a f)
def mn(neg:Bool):R2:=λx y H Q=>match y with
 | .non=>Q (.bl (if neg then !decide (x=.non) else decide (x=.non))) H
 | .bl c=>(∀f,x ≠ .ty f)/\Q (.bl (if neg then !xF x c else xF x c)) H
 | _=>False
def jW:aV X (compareOp .Is) (mn false):=by
 intro a s σ H x y v u Q I d b q;cases y with
 | non=>exact NU a s σ H x _ v u Q I d b ⟨rfl,q⟩
 | bl c =>
  cases b;obtain⟨f,e⟩:=Dn (c:=c) d q.1;exact wpAny_is_plain f ⟨.bl _,H,I,by rw[e];rfl,q.2⟩
 | _=>exact False.elim q
def pq:aV X (compareOp .IsNot) (mn true):=by
 intro a s σ H x y v u Q I d b q;cases y with
 | non=>exact NP a s σ H x _ v u Q I d b ⟨rfl,q⟩
 | bl c =>
  cases b;obtain⟨f,e⟩:=Dn (c:=c) d q.1;exact wpAny_isNot_plain f ⟨.bl _,H,I,by rw[e];rfl,q.2⟩
 | _=>exact False.elim q
end
def bf(K:W.Frag)(H:Hp)(d:PyData)(x:V):Prop:=∀(X:Cx) (a:List (Addr × Obj)) (σ:St) (s:fv) (u:Value),X.K=K->ag X a σ H s->aP x u->∃as,Reads s.heap u d as
def cf(K:W.Frag)(H:Hp)(b:List PyData)(xs:List V):Prop:=∀(X:Cx) (a:List (Addr × Obj)) (σ:St) (s:fv) (us:List Value),X.K=K->ag X a σ H s->ay xs us->∃as,ReadsAll s.heap us b as
section
variable {K:W.Frag}{H:Hp}
def bf.non:bf K H .none .non:=λ_ _ _ _ _ _ _ r=>by cases r;exact⟨_,.none⟩
def bf.int(i:Int):bf K H (.int i) (.int i):=λ_ _ _ _ _ _ _ r=>by obtain⟨t,rfl⟩:=r;exact⟨_,.int i t⟩
def bf.str(x:Str):bf K H (.str x) (.str x):=λ_ _ _ _ _ _ _ r=>by obtain⟨t,rfl⟩:=r;exact⟨_,.str x t⟩
def cf.nil:cf K H [] []:=λ_ _ _ _ _ _ _ r=>by cases r;exact⟨_,.nil⟩
def cf.cons{d:PyData}{f:List PyData}{x:V}{xs:List V}(a:bf K H d x)(b:cf K H f xs):cf K H (d::f) (x::xs):=λX c σ s us e I r=>by
 cases r with
 | cons r1 r2 =>
  obtain⟨as,g⟩:=a X c σ s _ e I r1;obtain⟨bs,hb⟩:=b X c σ s _ e I r2;exact⟨_,.cons g hb⟩
def bf.lst{d:List PyData}{p:Addr}{xs:List V}(h:aE K H p xs)(b:cf K H d xs):bf K H (.list d) (.ref p):=λX a σ s u e I r=>by
 cases r;subst e;obtain⟨c,g,⟨o,n,i,j,_,hd⟩,_⟩:=I.list h;obtain⟨as,f⟩:=b X a σ s c rfl I g;exact⟨_,.list i j hd (by simpa using f)⟩
def bf.tup{d:List PyData}{p:Addr}{xs:List V}(h:be K H p xs)(b:cf K H d xs):bf K H (.tuple d) (.ref p):=λX a σ s u e I r=>by
 cases r;subst e;obtain⟨c,g,⟨o,i,j,n,hd⟩,_⟩:=I.tuple h;obtain⟨as,f⟩:=b X a σ s c rfl I g;exact⟨_,.tuple i j hd (by simpa using f)⟩
theorem cf.ints:∀ns:e7,cf K H (ns.map PyData.int) (ns.map V.int)
 | []=>.nil
 | n::ns=>.cons (.int n) (cf.ints ns)
end
open SeqAt (shaped)
def pH(K:W.Frag)(neg:Bool):R2:=λx y H Q=>match x,y with
 | .int i,.int j=>Q (.bl (if neg then !decide (i=j) else decide (i=j))) H
 | .bl a,.bl b=>Q (.bl (if neg then !(a == b) else a == b)) H
 | _,_=>∃d e,bf K H d x/\bf K H e y/\shaped d=true/\shaped e=true/\Q (.bl (if neg then !d.eqv e else d.eqv e)) H
section
variable {X:Cx}
def Gc{a:List (Addr × Obj)}{s:fv}{σ:St}{H:Hp}{x y:V}{v u:Value}{Q:VK}{neg:Bool}(h:X.A.units+64<cLine)(I:ag X a σ H s)(k:aP x v)(j:aP y u)
 (q:∃d e,bf X.K H d x/\bf X.K H e y/\shaped d=true/\shaped e=true/\Q (.bl (if neg then !d.eqv e else d.eqv e)) H) :
 wpAny (model X.prog X.w) X.A (compareOp (if neg then .NotEq else .Eq) v u) (EP X a σ Q) X.xe s:=by
 obtain⟨d,e,hd,i,g,b,q⟩:=q;obtain⟨as,f⟩:=hd X a σ s v rfl I k;obtain⟨bs,c⟩:=i X a σ s u rfl I j;cases neg with
 | true=>exact ne_dataH f c g b h ⟨.bl _,H,I,rfl,q⟩
 | false=>exact eq_dataH f c g b h ⟨.bl _,H,I,rfl,q⟩
def Ge{i j:Int}:decide (V.int i=V.int j)=decide (i=j):=by simp
def RW(d:X.A.units+64<cLine):aV X (compareOp .Eq) (pH X.K false):=by
 intro a s σ H x y v u Q I c b q;have D:=λe=>Gc (neg:=false) (Q:=Q) d I c b e;cases x with
 | int i =>
  cases y with
  | int j=>exact DU a s σ H _ _ v u Q I c b ⟨rfl,by rw[Ge];exact q⟩
  | _=>exact D q
 | bl i =>
  cases y with
  | bl j=>exact DU a s σ H _ _ v u Q I c b ⟨rfl,by rw[sY];exact q⟩
  | _=>exact D q
 | _=>exact D q
def RF(d:X.A.units+64<cLine):aV X (compareOp .NotEq) (pH X.K true):=by
 intro a s σ H x y v u Q I c b q;have D:=λe=>Gc (neg:=true) (Q:=Q) d I c b e;cases x with
 | int i =>
  cases y with
  | int j=>exact DR a s σ H _ _ v u Q I c b ⟨rfl,by rw[Ge];exact q⟩
  | _=>exact D q
 | bl i =>
  cases y with
  | bl j=>exact DR a s σ H _ _ v u Q I c b ⟨rfl,by rw[sY];exact q⟩
  | _=>exact D q
 | _=>exact D q
def rY(K:W.Frag)(neg:Bool):R2:=λx y H Q=>match y with
 | .ref p=>∃xs,(aE K H p xs\/be K H p xs)/\gM x=true/\xs.all gM=true/\Q (.bl (if neg then !gj x xs else gj x xs)) H
 | _=>False
def RU:aV X (compareOp .In) (rY X.K false):=NV.imp λx y H Q q=>by
 cases y with
 | ref p=>obtain⟨xs,b,a,c,q⟩:=q;exact⟨p,xs,Z,b,a,c,q⟩
 | _=>exact False.elim q
def RE:aV X (compareOp .NotIn) (rY X.K true):=NQ.imp λx y H Q q=>by
 cases y with
 | ref p=>obtain⟨xs,b,a,c,q⟩:=q;exact⟨p,xs,Z,b,a,c,q⟩
 | _=>exact False.elim q
def mm(K:W.Frag):R2:=λx y H Q=>match x,y with
 | .ref p,.int i=>∃xs v,(aE K H p xs\/be K H p xs)/\cR xs i=some v/\Q v H
 | _,_=>False
def RK:gS X (mm X.K):=(Pa.or O9).imp λx y H Q q=>by
 cases x with
 | ref p =>
  cases y with
  | int i =>
   obtain⟨xs,v,a,b,q⟩:=q;rcases a with a|a
   ·exact .inl ⟨p,xs,i,v,Z,Z,a,b,q⟩
   ·exact .inr ⟨p,xs,i,v,Z,Z,a,b,q⟩
  | _=>exact False.elim q
 | _=>exact False.elim q
def FN(K:W.Frag):V->Option Int->Option Int->Hp->VK->Prop:=λx lo b H Q=>match x with
 | .ref a=>∃xs,aE K H a xs/\∀p H',bc H p (.lst (cY xs lo b)) H'->Q (.ref p) H'
 | _=>False
def Rt:ka X (FN X.K):=by
 intro b s σ H x v i d lo c h Q I j hs pl e q;cases x with
 | ref a=>obtain⟨xs,f,q⟩:=q;exact Kx b s σ H _ v i d lo c h Q I j hs pl e ⟨a,xs,Z,f,λp g=>q p _ (.mk' g)⟩
 | _=>exact False.elim q
def xT(K:W.Frag):List V->Hp->VK->Prop:=λxs H Q=>match xs with
 | [.ref p]=>∃ys,(aE K H p ys\/be K H p ys)/\Q (.int ys.length) H
 | _=>False
def Tj:cK X (.builtin "len") (xT X.K):=S9.imp λxs H Q q=>by
 unfold xT at q
 split at q
 ·obtain⟨ys,a,q⟩:=q;exact⟨_,ys,Z,a,q⟩
 ·exact q.elim
def rX(K:W.Frag):List V->Hp->VK->Prop:=λxs H Q=>match xs with
 | [.ref p]=>∃ys,(aE K H p ys\/be K H p ys)/\∀l H',bc H l (.lst ys) H'->Q (.ref l) H'
 | _=>False
def Ti:cK X (.type "list") (rX X.K):=S8.imp λxs H Q q=>by
 unfold rX at q
 split at q
 ·obtain⟨ys,a,q⟩:=q;exact⟨_,ys,Z,a,λl b=>q l _ (.mk' b)⟩
 ·exact q.elim
def FP:List V->Hp->VK->Prop:=λxs H Q=>match xs with
 | [.int i]=>Q (.int i) H
 | [.bl k]=>Q (.int (if k then 1 else 0)) H
 | _=>False
def Tk:cK X (.type "int") FP:=Ta.imp λxs H Q q=>by
 unfold FP at q
 split at q
 ·exact .inl ⟨_,Z,q⟩
 ·exact .inr ⟨_,Z,q⟩
 ·exact q.elim
def xU(K:W.Frag):List V->Hp->VK->Prop:=λxs H Q=>match xs with
 | [x,.ty T]=>∃t b,eQ K H x t/\W.kitOne K t (.type T)=some b/\Q (.bl b) H
 | [x,.ref C]=>∃t b,eQ K H x t/\W.kitOne K t (.ref C)=some b/\Q (.bl b) H
 | _=>False
def Tl:cK X (.builtin "isinstance") (xU X.K):=by
 intro f s σ H xs us Q I r q;unfold xU at q
 split at q
 ·obtain⟨t,b,e,a,q⟩:=q;obtain⟨u,g,rfl,c,d⟩:=uz r;cases d;exact EJ I c e a λh=>⟨.bl b,H,I.tok _,Z,q⟩
 ·obtain⟨t,b,e,a,q⟩:=q;obtain⟨u,g,rfl,c,d⟩:=uz r;cases d;exact EJ I c e a λh=>⟨.bl b,H,I.tok _,Z,q⟩
 ·exact q.elim
def Tz {x:Str} {T:String} {pos:Pos} (b:Gl X x) (d:X.mg x=none) (c:bootBuiltins x=some (.type T)) (a:x ≠ "__name__":=by decide) (hd:(x == ("__debug__" : Str))=false:=by decide):PE X (.Name x pos) (tC (.ty T)) :=
 NG b d c rfl a hd
end
def eG:Expr->Bool
 | .Starred _ _=>true
 | _=>false
def cU{e:Expr}{es:List Expr}{env:Env}(h:eG e=false):starEach (e::es) env=(false,eval e env)::starEach es env:=by
 cases e<;>first|rfl|cases h
def dj:List Expr->Bool
 | []=>true
 | e::r=>!eG e && dj r
theorem hU{env:Env}{pos:Pos}:∀ {es:List Expr},dj es=true->(backTo pos (starEach es env)).any (·.1)=false
 | [],_=>rfl
 | e::r,h=>by
  have h':(!eG e && dj r)=true:=h;rw[Xd]at h';have a:eG e=false:=by simpa using h'.1
  rw[cU a];show (false || (backTo pos (starEach r env)).any (·.1))=false;rw[Bool.false_or];exact hU h'.2
def c9{e:Expr}{es:List Expr}(h:dj (e::es)=true):eG e=false/\dj es=true:=by
 have h':(!eG e && dj es)=true:=h;rw[Xd]at h';exact⟨by simpa using h'.1,h'.2⟩
def DN{X:Cx}{e:Expr}{es:List Expr}{a:TE}{t:TA}(b:PE X e a)(c:PA X es t)(hs:eG e=false:=by rfl):PA X (e::es) (je a t):=NI b c (cU hs)
def tj:Expr->Option V
 | .Constant (.int i) _ _=>some (.int i)
 | .Constant (.bool b) _ _=>some (.bl b)
 | .Constant .none _ _=>some .non
 | .Constant (.str x) _ _=>some (.str x)
 | _=>none
def tf:List Expr->Option (List V)
 | []=>some []
 | e::r=>match tj e,tf r with
  | some v,some vs=>some (v::vs)
  | _,_=>none
def Cc(vs:List V):TA:=λ_ H Q=>Q vs H
def Ny{X:Cx}{e:Expr}{v:V}(h:tj e=some v):PE X e (tC v):=by
 unfold tj at h
 split at h
 ·cases h;exact rm
 ·cases h;exact DI
 ·cases h;exact DF
 ·cases h;exact DE
 ·cases h
def SV{e:Expr}{v:V}(h:tj e=some v):eG e=false:=by
 cases e<;>first|rfl|cases h
theorem DM{X:Cx}:∀ {es:List Expr} {vs:List V},tf es=some vs->PA X es (Cc vs)
 | [],vs,h=>by
  cases h;exact DL
 | e::r,vs,h=>by
  unfold tf at h
  split at h
  ·rename_i v ws h1 h2;cases h;exact DN (Ny h1) (DM h2) (SV h1)
  ·cases h
section
variable {X:Cx}{es:List Expr}{t:TA}{pos:Pos}
def Ef(t:TA):TE:=λσ H Q=>t σ H λxs a=>xs.length<=sizeLine/\∀p H',bc a p (.tup xs) H'->Q (.ref p) H'
def Ej(t:TA):TE:=λσ H Q=>t σ H λxs a=>xs.length<=sizeLine/\∀p H',bc a p (.lst xs) H'->Q (.ref p) H'
def Oz{x1}(h:PA X es t):PE X (.Tuple es x1 pos) (Ef t):=by
 intro a s σ H Q I hq;refine wpAny_Tuple_spliced (aw (h pos a s σ H _ I hq) λus s1 ⟨xs,c,d,r,z,q⟩=>⟨by rw[<- r.length];exact z,?_⟩);have f:c s1.heap.objs.size=none:=d.hok.fresh (WB _);refine⟨.ref s1.heap.objs.size,upd c s1.heap.objs.size (.tup xs),d.laid (t':=s1.toks) (λb u e=>WG _ e) (WB _) ?_,Z,q _ _ (.mk' f)⟩;exact⟨z,us,r,⟨_,W5 _ Z,Z,_,Z⟩⟩
def OE(h:PA X es t):PE X (.List es pos) (Ej t):=by
 intro a s σ H Q I hq;refine wpAny_List_spliced (aw (h pos a s σ H _ I hq) λus s1 ⟨xs,c,d,r,z,q⟩=>⟨by rw[<- r.length];exact z,?_⟩);have f:c s1.heap.objs.size=none:=d.hok.fresh (WB _);refine⟨.ref s1.heap.objs.size,upd c s1.heap.objs.size (.lst xs),d.laid (t':=s1.toks) (λb u e=>WG _ e) (WB _) ?_,Z,q _ _ (.mk' f)⟩;exact⟨z,us,0,r,W5 _ Z⟩
def El:TE:=λ_ H Q=>∀p H',bc H p (.dK []) H'->Q (.ref p) H'
def OG:PE X (.Dict [] [] pos) El:=Nu.imp λσ H Q q=>λp a=>q p _ (.mk' a)
end
def cA{Q:VK}{H:Hp}{a b:Bool}(k:Q (.bl a) H)(e:a=b):Q (.bl b) H:=e ▸ k
def xE:V->Bool
 | .int _=>true
 | .bl _=>true
 | _=>false
def EL:V->Bool
 | .bl _=>true
 | _=>false
inductive ij (K:W.Frag) (H:Hp):V->Prop where
 | non:ij K H .non
 | bl (b:Bool):ij K H (.bl b)
 | int (i:Int):ij K H (.int i)
 | str (x:Str):ij K H (.str x)
 | lst {a:Addr} {xs:List V} (e:H a=some (.lst xs)):ij K H (.ref a)
 | tup {a:Addr} {xs:List V} (e:H a=some (.tup xs)):ij K H (.ref a)
 | dK {a:Addr} {kvs:List (aQ × V)} (e:H a=some (.dK kvs)):ij K H (.ref a)
def ij.isInt {K:W.Frag} {H:Hp} {v:V} (k:ij K H v):∃ty,eQ K H v ty/\W.kitOne K ty (.type "int")=some (xE v):=by
 cases k with
 | non=>exact⟨_,.non,by with_unfolding_all rfl⟩
 | bl b=>exact⟨_,.bl b,by with_unfolding_all rfl⟩
 | int i=>exact⟨_,.int i,by with_unfolding_all rfl⟩
 | str x=>exact⟨_,.str x,by with_unfolding_all rfl⟩
 | lst e=>exact⟨_,.lst e,by with_unfolding_all rfl⟩
 | tup e=>exact⟨_,.tup e,by with_unfolding_all rfl⟩
 | dK e=>exact⟨_,.dK e,by with_unfolding_all rfl⟩
def ij.isBl {K:W.Frag} {H:Hp} {v:V} (k:ij K H v):∃ty,eQ K H v ty/\W.kitOne K ty (.type "bool")=some (EL v):=by
 cases k with
 | non=>exact⟨_,.non,by with_unfolding_all rfl⟩
 | bl b=>exact⟨_,.bl b,by with_unfolding_all rfl⟩
 | int i=>exact⟨_,.int i,by with_unfolding_all rfl⟩
 | str x=>exact⟨_,.str x,by with_unfolding_all rfl⟩
 | lst e=>exact⟨_,.lst e,by with_unfolding_all rfl⟩
 | tup e=>exact⟨_,.tup e,by with_unfolding_all rfl⟩
 | dK e=>exact⟨_,.dK e,by with_unfolding_all rfl⟩
def sz{n:Nat}(h:Nat.ble n 1000=true):n<=sizeLine:=WP (WX h) (by decide)
def bM{n:Nat}(h:n<=100000):n<=sizeLine:=WP h (by decide)
def dS{n:Nat}(h:n<=100000):n<sizeLine:=Nat.lt_of_le_of_lt h (by decide)
section
variable {X:Cx}
def LP(bs:List Bool):(List.range bs.length).map (λi=>(bs[i]?).getD false)=bs:=by
 apply List.ext_getElem
 ·simp
 ·intro i b a;simp[W9 a]
def LQ(bs:List Bool):((List.range bs.length).all λi=>(bs[i]?).getD false)=bs.all id:=by
 conv=>rhs;rw[<- LP bs]
 rw[List.all_map]
 rfl
def xV(K:W.Frag)(one:Bool):List V->Hp->VK->Prop:=λxs H Q=>match xs with
 | [.ref p]=>∃bs:List Bool,aE K H p (bs.map V.bl)/\Q (.bl (if one then bs.any id else bs.all id)) H
 | _=>False
def TC{prog:Program}{w:World}{A:Around}{bs:List Bool}{a:List Value}(r:ay (bs.map V.bl) a):TruthOf prog w A (λi v=>a.toArray[i]? = some v) λi=>(bs[i]?).getD false:=λi v s Q E hP hQ=>by
 dsimp only at hP hQ;have f:i<a.length:=by
  have:=(Yu.mp hP).1;simpa using this
 have b:=r.length;rw[WA]at b;have hb:i<bs.length:=by omega
 obtain⟨u,c,d⟩:=r.get (i:=i) (x:=V.bl bs[i]) (by simp[hb]);have e:a.toArray[i]? = some u:=by simpa using c
 rw[e]at hP;cases hP;cases d;rw[W9 hb]at hQ;exact wpAny_truthy_bool hQ
def Tn (h:X.calm=true):cK X (.builtin "all") (xV X.K false):=by
 intro g s σ H xs us Q I r q;unfold xV at q
 split at q
 ·rename_i p;obtain⟨bs,hq,q⟩:=q;obtain⟨u,rfl,m⟩:=jG r;cases m;obtain⟨c,f,pl,_⟩:=I.list hq;have d:=f.length;rw[WA]at d;have a:p≠s.heap.objs.size:=by
   obtain⟨o,n,e,_⟩:=pl;exact WL (WD e)
  refine call_all_walk (wpAny_pyIter_list pl.isList ⟨s.heap.objs.size,_,_,_,_,_,λi=>(bs[i]?).getD false,rfl,Walks.list (A:=X.A.in1) (show X.A.in1.handled=none from I.ok.hd h) s.heap.objs.size p a c.toArray,⟨⟨_,W5 _ rfl,rfl,rfl⟩,?_⟩,TC f,λh' j k=>?_⟩)
  ·exact pl.isList.at λo e=>WG _ e
  ·refine⟨.bl _,H,I.kept (h':=h') (t':=j) λb o e=>k b o (λz=>?_) (WG _ e),?_,q⟩
   ·have l:b=s.heap.objs.size:=by simpa using z
    exact ZR (WD e) (by rw[l];exact Xb _)
   ·show Value.bool _=Value.bool _;rw[WH,<- d,LQ]
    rfl
 ·exact q.elim
def xQ(K:W.Frag):List V->Hp->VK->Prop:=λxs H Q=>match xs with
 | [.ref p]=>∃ys,aE K H p ys/\∀l H',bc H l (.tup ys) H'->Q (.ref l) H'
 | _=>False
def Te:cK X (.type "tuple") (xQ X.K):=S7.imp λxs H Q q=>by
 unfold xQ at q
 split at q
 ·obtain⟨ys,a,q⟩:=q;exact⟨_,ys,Z,.inl ⟨a,λl b=>q l _ (.mk' b)⟩⟩
 ·exact q.elim
def FS:V->List V->Hp->VK->Prop:=λx vs H Q=>match x,vs with
 | .ref l,[y]=>∃xs,H l=some (.lst xs)/\xs.length<sizeLine/\Q .non (upd H l (.lst (xs++[y])))
 | _,_=>False
def hV:gw X "list.append" FS:=by
 intro a s σ H x vs v us Q I e d q;unfold FS at q
 split at q
 ·obtain⟨xs,c,b,q⟩:=q;exact Os a s σ H _ _ v us Q I e d ⟨_,xs,_,Z,Z,c,b,q⟩
 ·exact q.elim
def pF(K:W.Frag):V->List V->Hp->VK->Prop:=λx vs H Q=>match x,vs with
 | .ref l,[.ref b]=>∃xs zs,H l=some (.lst xs)/\H b=some (.lst zs)/\xs.length+zs.length<=sizeLine/\Q .non (upd H l (.lst (xs++zs)))
 | _,_=>False
def Ox:gw X "list.extend" (pF X.K):=by
 intro a s σ H x vs v us Q I g f q;unfold pF at q
 split at q
 ·obtain⟨xs,d,e,b,c,q⟩:=q;exact Oo a s σ H _ _ v us Q I g f ⟨_,_,xs,d,Z,Z,e,b,c,q⟩
 ·exact q.elim
def jV(xs:List V)(i:Int)(y:V):List V:=xs.take (if i<0 then (i+xs.length).toNat else min i.toNat xs.length)++y::xs.drop (if i<0 then (i+xs.length).toNat else min i.toNat xs.length)
def FQ:V->List V->Hp->VK->Prop:=λx vs H Q=>match x,vs with
 | .ref l,[.int i,y]=>∃xs,H l=some (.lst xs)/\xs.length<sizeLine/\-(2 ^ 63)<=i/\i<2 ^ 63/\Q .non (upd H l (.lst (jV xs i y)))
 | _,_=>False
def D9:gw X "list.insert" FQ:=by
 intro d s σ H x vs v us Q I p m q;unfold FQ at q
 split at q
 ·obtain⟨xs,hH,hz,o,f,q⟩:=q;cases p;obtain⟨u,c,rfl,g,h⟩:=uz m;obtain⟨t,rfl⟩:=g;obtain⟨z,a,n,r,j,e⟩:=I.lstM hH;rename_i l i y;have b:¬(!Builtin.List.listFitsIndex i)=true:=by
   rw[fitsIndex_both o f];exact WR
  refine call_meets F.slot_list_insert ⟨_,e,rfl⟩ F.entry_list_insert (F.args_list_insert_3 _ _ _) (AutoSeq1.list_insert_list_int_val_1 l a.toArray n i t c b (by rw[WH];omega)) ⟨e,?_⟩;generalize hk:(if i<0 then (i+(xs.length:Int)).toNat else min i.toNat xs.length)=k at *;refine⟨.non,_,I.lset (its':=a.take k++c::a.drop k) (ys:=jV xs i y) hH e ?_ ?_ ?_,Z,q⟩
  ·show (a.toArray.extract 0 (if i<0 then (i+(a.toArray.size:Int)).toNat else min i.toNat a.toArray.size)).push c++a.toArray.extract (if i<0 then (i+(a.toArray.size:Int)).toNat else min i.toNat a.toArray.size)=_;rw[WH,<- j,hk]
   apply Array.toList_inj.mp
   simp
   first|done|omega|exact Xv (by simp;omega)|(rw[Xv (by simp;omega)])
  ·unfold jV;rw[hk];exact (r.take k).append (.cons h (r.drop k))
  ·unfold jV;rw[hk,WC,W0,WO,Xr];omega
 ·exact q.elim
end
structure bj (P:Program) (w:World) (K:W.Frag) (mg:Str->Option Value) (base:Heap) (x:Str) (k:Nat) (f:Addr) (fd:FuncData) (ps:List Str) (sp:Sp):Prop where
 gm:mg x=some (.ref f)
 kp:W.keepIn K (.ref f)=true
 b:aq K fd ps []
 ok:bo P w K mg base bK k f fd ps sp
section
variable {X:Cx}{k j:Nat}{f:Addr}{fd:FuncData}{ps:List Str}{sp:Sp}{x:Str}{p pos:Pos}{e:Expr}{es:List Expr}{t:TA}
def Td(F:bj X.prog X.w X.K X.mg X.base x j f fd ps sp)(g:bH k X.A)(d:PA X (e::es) t)(hj:j<=k:=by decide)(h:Gl X x:=by rfl)
 (a:(x == ("__debug__" : Str))=false:=by decide) (c:dj (e::es)=true:=by rfl) :
 PE X (.Call (.Name x p) (e::es) [] pos) (mO sp [] E0 t):=ND F.ok (g.mono hj) h F.gm F.kp F.b .nil DK d a (cU (c9 c).1) (hU (c9 c).2)
def Tc{id:String}{r:List V->Hp->VK->Prop}(f:cK X (.builtin id) r)(g:X.mg x=none)(d:bootBuiltins x=some (.builtin id))(c:PA X (e::es) t)(h:Gl X x:=by rfl)(hx:x ≠ "__name__":=by decide)(a:(x == ("__debug__" : Str))=false:=by decide)
 (b:dj (e::es)=true:=by rfl):PE X (.Call (.Name x p) (e::es) [] pos) (jf r t):=NC f h g d c hx a (cU (c9 b).1) (hU (c9 b).2)
def Tb{T:String}{r:List V->Hp->VK->Prop}(f:cK X (.type T) r)(g:X.mg x=none)(d:bootBuiltins x=some (.type T))(c:PA X (e::es) t)(h:Gl X x:=by rfl)(hx:x ≠ "__name__":=by decide)(a:(x == ("__debug__" : Str))=false:=by decide)
 (b:dj (e::es)=true:=by rfl):PE X (.Call (.Name x p) (e::es) [] pos) (jf r t):=NB f h g d c hx a (cU (c9 b).1) (hU (c9 b).2)
def gi{n:Int}{u:Tok}(b:X.mg x=some (.int n u))(a:Gl X x:=by rfl)(hd:(x == ("__debug__" : Str))=false:=by decide):PE X (.Name x pos) (tC (.int n)):=DH a b ⟨u,rfl⟩ hd
end
def gQ(cells:List (Str × Addr)):List (Str × NameKind)->List (Str × Addr)->List (Str × Addr)
 | [],acc=>acc
 | (n,k)::r,acc=>gQ cells r (if (k == NameKind.free)=true then (n,(cells.lookup n).getD 0)::acc else acc)
def Gw{scope:Scope}{env:Env}(h:∀n,(n,NameKind.free)∈scope.names->∃c,env.cells.lookup n=some c):closureFor scope env=pure (gQ env.cells scope.names []):=by
 unfold closureFor;have key:∀(l:List (Str × NameKind)) (a:List (Str × Addr)),(∀n,(n,NameKind.free)∈l->∃c,env.cells.lookup n=some c) ->
  (forIn l a (λx __s=>match x with
    | (name,kind) =>
     if (kind == NameKind.free)=true then do
      let __do_lift <- cellOf env name
      pure (ForInStep.yield ((name,__do_lift)::__s))
     else pure (ForInStep.yield __s)):Sem (List (Str × Addr)))=pure (gQ env.cells l a):=by
  intro l
  induction l with
  | nil=>intro a _;rfl
  | cons x r ih =>
   intro a d;obtain⟨n,k⟩:=x;have g:∀n,(n,NameKind.free)∈r->∃c,env.cells.lookup n=some c:=λn i=>d n (W4 _ i);rw[List.forIn_cons];by_cases hk:(k == NameKind.free)=true
   ·have b:k=NameKind.free:=by simpa using hk
    subst b;obtain⟨c,f⟩:=d n W3;have e:cellOf env n=pure c:=by unfold cellOf;rw[f]
    show (if (NameKind.free == NameKind.free)=true then _ else _) >>= _=_;rw[ZQ hk,e];show (forIn r ((n,c)::a) _:Sem (List (Str × Addr)))=_;rw[ih _ g];show _=pure (gQ env.cells r (if (NameKind.free == NameKind.free)=true then (n,(List.lookup n env.cells).getD 0)::a else a));rw[ZQ hk,f]
    rfl
   ·show (if (k == NameKind.free)=true then _ else _) >>= _=_;rw[ZP hk];show (forIn r a _:Sem (List (Str × Addr)))=_;rw[ih _ g];show _=pure (gQ env.cells r (if (k == NameKind.free)=true then _ else a));rw[ZP hk]
 show (forIn scope.names [] _ >>= _:Sem (List (Str × Addr)))=_;rw[key _ _ h]
 rfl
theorem zO{cells:List (Str × Addr)}:∀(l:List (Str × NameKind)) (a:List (Str × Addr)) (x:Str) (c:Addr),(gQ cells l a).lookup x=some c->(∀n,(n,NameKind.free)∈l->∃c,cells.lookup n=some c)->((x,NameKind.free)∈l/\cells.lookup x=some c)\/a.lookup x=some c
 | [],a,x,c,h,_=>.inr h
 | (n,k)::r,a,x,c,h,hf=>by
  have i:∀n,(n,NameKind.free)∈r->∃c,cells.lookup n=some c:=λn g=>hf n (W4 _ g);rcases zO r _ x c h i with ⟨h1,h2⟩|h1
  ·exact .inl ⟨W4 _ h1,h2⟩
  ·by_cases hk:(k == NameKind.free)=true
   ·rw[ZQ hk]at h1;have d:k=NameKind.free:=by simpa using hk
    subst d;obtain⟨c',f⟩:=hf n W3;rw[f]at h1;rw[Xg]at h1;by_cases e:(x == n)=true
    ·rw[e]at h1;have b:x=n:=by simpa using e
     subst b;have:c'=c:=WZ h1;subst this;exact .inl ⟨W3,f⟩
    ·have b:(x == n)=false:=by simpa using e
     rw[b]at h1;exact .inr h1
   ·rw[ZP hk]at h1;exact .inr h1
theorem zP{cells:List (Str × Addr)}:∀(l:List (Str × NameKind)) (a:List (Str × Addr)) (x:Str),((x,NameKind.free)∈l\/∃c,a.lookup x=some c)->∃c,(gQ cells l a).lookup x=some c
 | [],a,x,h=>by
  rcases h with h|h
  ·cases h
  ·exact h
 | (n,k)::r,a,x,h=>by
  unfold gQ;refine zP r _ x ?_;rcases h with h|⟨c,h⟩
  ·rcases WU.mp h with e|e
   ·cases e;exact .inr ⟨_,by simp;rfl⟩
   ·exact .inl e
  ·refine .inr ?_;by_cases hk:(k == NameKind.free)=true
   ·rw[ZQ hk,Xg];cases (x == n)
    ·exact⟨c,h⟩
    ·exact⟨_,Z⟩
   ·rw[ZP hk];exact⟨c,h⟩
section
variable {prog:Program}{w:World}{A:Around}{s:fv}{R:Result->fv->Prop}
def S2{d a b:Expr}{e:List Expr}{scope:Scope}{pos:Pos}{it f:Value}{env:Env}(I:Nat->fv->Prop)
 (i:∀n s,I n s->wpAny (model prog w) A (pyNext it) (λr j=>match r with
   | none=>R (.ok .next) j
   | some v=>wpAny (model prog w) A (letOwnedTupleGo a it v) (λ_ g=>wpAny (model prog w) A (assign a env v) (λ_ q =>
    wpAny (model prog w) A (forIn e true λc r=>if r=true then do let ok <- isTrue c env (eval c env);pure (ForInStep.yield ok) else pure (ForInStep.yield r)) (λok k =>
     if ok=true then wpAny (model prog w) A (eval d env) (λx u =>
      wpAny (model prog w) A (call (.builtin "list.append") [f,x]) (λ_ o=>∃m,m<n/\I m o) (λ_ _=>False) u) (λ_ _=>False) k
     else ∃m,m<n/\I m k) (λ_ _=>False) q) (λ_ _=>False) g) (λ_ _=>False) j) (λ_ _=>False) s)
 (n:Nat) (h:I n s) :
 codeAny (model prog w) A (.compLoop (.ListComp d [⟨a,b,e,0⟩] scope pos) 0 it f env) R s:=by
 refine codeAny_loop Z I (λn s hI=>?_) n h;show wpAny _ A ((compTurn (.ListComp d [⟨a,b,e,0⟩] scope pos) 0 it f env).onRaise (λx=>do noteFrame x env;theTreesLotGoes x)) _ _ s;refine wpAny_noted ?_;rw[compTurn_list];refine kb (wpAny_standAt (kb (wpAny_mono (i n s hI) (λr j y=>?_) λ_ _ h'=>h'.elim)));cases r with
 | none=>exact ZO y
 | some v =>
  refine kb (wpAny_mono y (λ_ g l=>?_) λ_ _ h'=>h'.elim);refine kb (wpAny_mono l (λ_ q B=>kb (wpAny_mono B (λok k p=>?_) λ_ _ h'=>h'.elim)) λ_ _ h'=>h'.elim);cases ok with
  | false=>exact ZO ⟨rfl,p⟩
  | true =>
   exact kb (kb (wpAny_mono p (λx u C=>kb (wpAny_mono C (λ_ o z=>ZO (ZO ⟨rfl,z⟩)) λ_ _ h'=>h'.elim)) λ_ _ h'=>h'.elim))
end
def da(X:Cx)(Nc:List Str)(scope:Scope)(C:Addr)(s:fv)(H:Hp)(fp:List Addr):Cx where
 prog:=X.prog
 w:=X.w
 K:=X.K
 mg:=X.mg
 base:=X.base
 A:=X.A
 N:=Nc
 s₀:=s
 H₀:=H
 env:=compEnvC scope (gQ X.env.cells scope.names []) C X.env
 outer:=X.stack
 stack:=X.stack
 ex:=fp
 fn:=λ_=>false
 calm:=X.calm
 pn:=X.pn
 xe:=λ_ _=>False
def mH(X:Cx)(b:List Expr)(t:TT):Prop :=
 ∀(a:List (Addr × Obj)) (s:fv) (σ:St) (H:Hp) (Q:Bool->Hp->Prop),ag X a σ H s->t σ H Q ->
  wpAny (model X.prog X.w) X.A (forIn b true λc r=>if r=true then do let ok <- isTrue c X.env (eval c X.env);pure (ForInStep.yield ok) else pure (ForInStep.yield r)) (TP X a σ Q) X.xe s
def jH:TT:=λ_ H Q=>Q true H
def MD{X:Cx}:mH X [] jH:=λ_ _ _ H _ I h=>wpAny_tests_nil ⟨H,I,h⟩
def MC{X:Cx}{c:Expr}{t:TT}(h:PT X c t):mH X [c] t:=λa s σ H Q I q=>wpAny_tests_one (h a s σ H Q I q)
def bC.adopt{P:Program}{w:World}{H:Hp}{h:Heap}{a:Addr}{o:HO}(x:bC P w H h)(d:H a=none)(new:bt P w (upd H a o) h a o):bC P w (upd H a o) h:=λb u e=>by
 by_cases hb:b=a
 ·subst hb;rw[aF]at e;cases e;exact new
 ·rw[ap hb]at e;exact (x b u e).stay (λc v _ q=>q) (λc q=>by rw[ap (aB q d)];exact q) λc xs q=>by rw[ap (aB q d)];exact q
def iG(J:It)(d:Hp)(k:St)(g:TG)(e:TT)(j:TE)(Q:VK):Prop:=∃W:Nat->Nat->List V->St->Hp->Prop,
 (∃m,W 0 m [] k d)/\∀i m ys σ1 H2,W i m ys σ1 H2 ->
   (J.stop i H2/\ys.length<=sizeLine/\∀p H',bc H2 p (.lst ys) H'->Q (.ref p) H') \/
   (J.go i H2/\ys.length<sizeLine/\∃Nx:List V->St->Hp->Prop,(∀ys' σ' H',Nx ys' σ' H'->∃m',m'<m/\W (i+1) m' ys' σ' H') /\
     ∀x H',J.yld i H2 x H'->g x σ1 H' λa f=>e a f λb c=>if b=true then j a c λy h=>Nx (ys++[y]) a h else Nx ys a c)
def qK(nv:Nat)(caps:List Nat)(a:TI)(g:TG)(c:TT)(d:TE):TE:=λσ H Q=>a σ H λJ b=>iG J b (List.replicate nv none++caps.map λj=>(σ[j]?).join) g c d Q
structure cq (X:Cx) (Nc:List Str) (nv:Nat) (caps:List Nat) (scope:Scope):Prop where
 kind:scope.kind=.function
 nocell:∀y∈scope.names,y.2 ≠ .cell
 names:∀y∈scope.names,y.2=.local->scope.names.lookup y.1=some .local
 free:∀n,(n,NameKind.free)∈scope.names->X.env.kindOf n=some .cell\/X.env.kindOf n=some .free
 len:Nc.length=nv+caps.length
 cap:∀k j,caps[k]? = some j->∃x,Nc[nv+k]? = some x/\X.N[j]? = some x/\scope.names.lookup x=some .free
def Gs(fns:List (Str × NameKind))(N Nc:List Str)(nv:Nat)(caps:List Nat)(a:Scope):Bool :=
 (a.kind == .function) && (a.names.all λy=>!(y.2 == .cell)) && (a.names.all λy=>!(y.2 == .local) || a.names.lookup y.1 == some .local) &&
 (a.names.all λy=>!(y.2 == .free) || (fns.lookup y.1 == some .cell || fns.lookup y.1 == some .free)) && (Nc.length == nv+caps.length) &&
 ((List.range caps.length).all λk=>match caps[k]?,Nc[nv+k]? with
   | some j,some x=>N[j]? == some x && a.names.lookup x == some .free
   | _,_=>false)
def cq.of{X:Cx}{fns:List (Str × NameKind)}{N Nc:List Str}{nv:Nat}{caps:List Nat}{b:Scope}(m:X.env.scope.names=fns)(hN:X.N=N)(h:Gs fns N Nc nv caps b=true):cq X Nc nv caps b:=by
 unfold Gs at h;simp only [Xd]at h;obtain⟨⟨⟨⟨⟨o,c⟩,l⟩,d⟩,p⟩,g⟩:=h;refine⟨by simpa using o,λy a e=>?_,λy a e=>?_,λn f=>?_,by simpa using p,λk j e=>?_⟩
 ·have:=Ye.mp c y a;rw[e]at this;simp at this
 ·have:=Ye.mp l y a;rw[e]at this;simpa using this
 ·have:=Ye.mp d _ f;show X.env.scope.names.lookup n=some .cell\/X.env.scope.names.lookup n=some .free;rw[m];simpa using this
 ·have i:k<caps.length:=(WF.mp e).1;have:=Ye.mp g k (WV.mpr i);rw[e]at this;cases ex:Nc[nv+k]? with
  | none=>rw[ex]at this;simp at this
  | some x =>
   rw[ex]at this;simp only [Xd]at this;exact⟨x,rfl,by rw[hN];simpa using this.1,by simpa using this.2⟩
theorem rG{env:Env}:∀ {names:List (Str × NameKind)} {x:Str} {k:NameKind},
 (names.map λ(n,k)=>if (k == NameKind.free && env.scope.kind == .function && env.kindOf n == some .cell) then (n,NameKind.cell) else (n,k)).lookup x=some k ->
 ∃k0,names.lookup x=some k0/\(k=k0\/(k0=.free/\k=.cell))
 | [],_,_,h=>by simp at h
 | (n,k0)::r,x,k,h=>by
  have h':List.lookup x ((if (k0 == NameKind.free && env.scope.kind == .function && env.kindOf n == some .cell)=true then (n,NameKind.cell) else (n,k0)) ::
   r.map λ(n,k)=>if (k == NameKind.free && env.scope.kind == .function && env.kindOf n == some .cell) then (n,NameKind.cell) else (n,k))=some k:=h
  cases hx:x == n with
  | true =>
   refine⟨k0,by simp[Xg,hx],?_⟩;by_cases hc:(k0 == NameKind.free && env.scope.kind == .function && env.kindOf n == some .cell)=true
   ·rw[ZQ hc,Xg,hx]at h';have:NameKind.cell=k:=WZ h';refine .inr ⟨?_,this.symm⟩;rw[Xd,Xd]at hc;simpa using hc.1.1
   ·rw[ZP hc,Xg,hx]at h';exact .inl (WZ h').symm
  | false =>
   have a:(r.map λ(n,k)=>if (k == NameKind.free && env.scope.kind == .function && env.kindOf n == some .cell) then (n,NameKind.cell) else (n,k)).lookup x=some k:=by
    by_cases hc:(k0 == NameKind.free && env.scope.kind == .function && env.kindOf n == some .cell)=true
    ·rw[ZQ hc,Xg,hx]at h';exact h'
    ·rw[ZP hc,Xg,hx]at h';exact h'
   obtain⟨k1,c,b⟩:=rG a;exact⟨k1,by simp[Xg,hx,c],b⟩
def j7{a b n:Addr}(h:a<n)(h':n<=b):a≠b:=WL (WE h h')
theorem oY{α β:Type}[BEq α][LawfulBEq α]:∀ {l:List (α × β)} {x:α} {k:β},l.lookup x=some k->(x,k)∈l
 | [],_,_,h=>by simp at h
 | (n,k0)::r,x,k,h=>by
  cases hx:x == n with
  | true =>
   simp only [Xg,hx]at h;cases h;have e:x=n:=by simpa using hx
   subst e;exact W3
  | false =>
   simp only [Xg,hx]at h;exact W4 _ (oY h)
section
variable {X:Cx}{elt tg iter:Expr}{ifs:List Expr}{scope:Scope}{Nc:List Str}{nv:Nat}{caps:List Nat}
def Pk{f:List (Addr × Obj)}{σ:St}{H:Hp}{s:fv}{fp:List Addr}{U:Heap}{tk:Nat}{D C:Addr}{m:Str->Option Value}(S:cq X Nc nv caps scope)(I:ag X f σ H s)
 (R:∀b∈fp,gT X f H b) (Y:∀b∈fp,b<s.heap.objs.size) (hD:s.heap.objs.size<=D) (hC:s.heap.objs.size<=C) (hDC:D≠C) (hn:U.Ns C m) {oD:Obj} (hDo:U.get? D=some oD) (hDd:∀v,oD.data ≠ .cell v) (l:∀b o,s.heap.get? b=some o->U.get? b=some o) :
 ag (da X Nc scope C s H fp) (f++[(D,oD)]) (List.replicate nv none++caps.map λj=>(σ[j]?).join) H { s with heap:=U,toks:=tk }:=by
 have B:∀n,(n,NameKind.free)∈scope.names->∃c,X.env.cells.lookup n=some c:=λn L=>I.ok.has n (S.free n L);have clX:∀x c,(gQ X.env.cells scope.names []).lookup x=some c->(x,NameKind.free)∈scope.names/\X.env.cells.lookup x=some c:=λx c e=>by
  rcases zO _ _ _ _ e B with h|h
  ·exact h
  ·simp at h
 have V:∀b∈cJ X.stack,b<s.heap.objs.size:=λb hb=>by
  obtain⟨_,o,ho,_⟩:=I.stack.mem hb;exact WD ho
 have cellLt:∀x c,X.env.cells.lookup x=some c->c<s.heap.objs.size:=λx c e=>by
  obtain⟨v,q⟩:=I.cell x c e;exact q.lt
 refine⟨⟨I.ok.mod,S.kind,I.ok.glob,I.ok.blt,hC,λx y c W e2=>I.ok.inj x y c (clX x c W).2 (clX y c e2).2,λx hx=>?_,λx c z=>ZR z (by show ¬(false=true);decide),I.ok.hd,I.ok.frames,.inl rfl,λb hb=>⟨?_,λx c e z=>?_⟩,λb o e=>I.bs b o e,WP I.ok.bsz I.sz,λb o e hb=>?_,λb hb z=>?_,I.stack,I.stkFree⟩,
  rfl,I.bare,Un.kept l,⟨m,hn,λi x v h1 J h3=>?_⟩,λx c e=>?_,I.hok.fresh hC,λx c e=>I.freeC x c (clX x c e).2,λp hp=>?_,I.hok.kept l,?_⟩
 ·-- a cell or free name of the block has its cell
  have g:(relabel scope X.env).names.lookup x=some .cell\/(relabel scope X.env).names.lookup x=some .free:=hx;have L:(x,NameKind.free)∈scope.names:=by
   rcases g with g|g
   ·obtain⟨k0,e,z⟩:=rG g;rcases z with z|⟨z,_⟩
    ·subst z;exact ZR Z (S.nocell _ (oY e))
    ·subst z;exact oY e
   ·obtain⟨k0,e,z⟩:=rG g;rcases z with z|⟨_,z⟩
    ·subst z;exact oY e
    ·cases z
  exact zP _ _ _ (.inl L)
 ·exact WL (WE (Y b hb) hC)
 ·exact (R b hb).2.2.2.2.1 x c (clX x c e).2 z
 ·have hx:=(R b hb).2.2.2.1;rcases hx with z|z
  ·exact I.ok.noex b o e z
  ·exact ZR (WE (WE (WD e) I.ok.bsz) z) (Xb _)
 ·rcases WU.mp (I.stkSub b z) with q|q
  ·exact (R b hb).2.1 q
  ·exact (R b hb).2.2.1 q
 ·-- the names' values
  have hi:nv<=i:=by
   refine Nat.le_of_not_lt λF=>?_;rw[XI (by simpa using F),YK,ZQ F]at J;cases J
  obtain⟨k,rfl⟩:=Nat.le.dest hi;rw[XA (by simp)]at J;simp only [YL,XT,WJ]at J;cases ek:caps[k]? with
  | none=>rw[ek]at J;cases J
  | some j =>
   rw[ek]at J;have r:(σ[j]?).join=some v:=WZ J;have hσ:σ[j]? = some (some v):=by
    cases e:σ[j]? with
    | none=>rw[e]at r;cases r
    | some z=>rw[e]at r;cases z with
     | none=>cases r
     | some z=>have:z=v:=WZ r;rw[this]
   obtain⟨y,W,e2,e3⟩:=S.cap k j ek;have N:Nc[nv+k]? = some x:=h1;rw[W]at N;cases N;have L:=oY e3;have hk:=S.free x L;obtain⟨m0,a8,hl⟩:=I.loc;obtain⟨u,ru,lk⟩:=hl j x v e2 hσ (by
    rcases hk with z|z
    ·exact .inr (.inl z)
    ·exact .inr (.inr z))
   refine⟨u,ru,?_⟩;rcases lk with ⟨z,_⟩|⟨_,c,hc,hcell⟩
   ·rcases hk with G|G<;>rw[z]at G<;>cases G
   ·refine .inr ⟨?_,c,?_,hcell.keeps l⟩
    ·rcases h3 with z|z|z
     ·exfalso
      obtain⟨k0,e,G⟩:=rG (show (relabel scope X.env).names.lookup x=some .local from z);rw[e3]at e;cases e;rcases G with G|⟨_,G⟩<;>cases G
     ·exact .inl z
     ·exact .inr z
    ·obtain⟨c',M⟩:=zP (cells:=X.env.cells) scope.names [] x (.inl L);rw[(clX x c' M).2]at hc;cases hc;exact M
 ·obtain⟨v,z⟩:=I.cell x c (clX x c e).2;exact⟨v,z.keeps l⟩
 ·-- f
  have O:p∈X.pn++(f++[(D,oD)]):=hp;rw[<- Xe]at O;rcases WQ.mp O with z|z
  ·obtain⟨e,n,ne,nf,d⟩:=I.pin p z;have F:=WD e;refine⟨l _ _ e,n,WL (WE F hC),λq=>?_,d⟩;rcases WU.mp (I.stkSub p.1 q) with q|q
   ·exact ne q
   ·exact nf q
  ·have e:p=(D,oD):=by simpa using z
   subst e;exact⟨hDo,I.hok.fresh hD,hDC,λq=>ZR (WE (V _ q) hD) (Xb _),hDd⟩
 ·show (List.replicate nv none++caps.map λj=>(σ[j]?).join).length=Nc.length;rw[WC,YL,WA,S.len]
abbrev jn(its:List Value)(n:Nat):Obj:={ cls:=.type "list",data:=.seq its.toArray n }
def Eo(a:List Value)(n:Nat):∀v,(jn a n).data ≠ .cell v:=λv z=>by
 have b:Data.seq a.toArray n=Data.cell v:=z;cases b
def Gr{g:TG}{tt:TT}{te:TE}{pos:Pos}{a:List (Addr × Obj)}{σ:St}{H:Hp}{s:fv}{Q:VK}{E:Value->fv->Prop}{RR:Value->Addr->Result->fv->Prop}(hc:X.calm=true)(S:cq X Nc nv caps scope)
 (hg:∀C s H fp,PG (da X Nc scope C s H fp) tg g) (ht:∀C s H fp,mH (da X Nc scope C s H fp) ifs tt) (he:∀C s H fp,PE (da X Nc scope C s H fp) elt te)
 {it:Addr} {fp:List Addr} {tn:Nat->Heap->Prop} {J:It} (I:ag X a σ H s) (T:lA X.prog X.w X.K tg J fp it tn) (st:tn 0 s.heap) (R:∀b∈fp,gT X a H b)
 {W:Nat->Nat->List V->St->Hp->Prop} {m0:Nat} (w0:W 0 m0 [] (List.replicate nv none++caps.map λj=>(σ[j]?).join) H)
 (an:∀i m ys U H2,W i m ys U H2->(J.stop i H2/\ys.length<=sizeLine/\∀p l,bc H2 p (.lst ys) l->Q (.ref p) l) \/
   (J.go i H2/\ys.length<sizeLine/\∃Nx:List V->St->Hp->Prop,(∀ys' σ' l,Nx ys' σ' l->∃m',m'<m/\W (i+1) m' ys' σ' l) /\
     ∀x l,J.yld i H2 x l->g x U l λσ2 H3=>tt σ2 H3 λb H4=>if b=true then te σ2 H4 λy H5=>Nx (ys++[y]) σ2 H5 else Nx ys σ2 H4))
 (hRR:∀(D C:Addr) (s1:fv) (l:Hp),ag X a σ l s1->gT X a l C->(∃m,s1.heap.Ns C m)->Q (.ref D) l->RR (.ref D) C (.ok .next) s1) :
 wpAny (model X.prog X.w) X.A (newList []) (λam s₃=>wpAny (model X.prog X.w) X.A (newFunctionEnv scope X.env.globals (gQ X.env.cells scope.names []) [] X.env.qual none .none (some X.env)) (λa2 s₄ =>
  codeAny (model X.prog X.w) X.A (.compStart (.ListComp elt [⟨tg,iter,ifs,0⟩] scope pos) 0 (.ref it) am { a2 with scope:=relabel scope X.env }) (RR am a2.locals) s₄) E s₃) E s:=by
 refine wpAny_newObj_type (wpAny_newFunctionEnv S.nocell (by intro y hy;simp at hy) (λh₁ G k=>?_) S.kind);dsimp only at G k ⊢;generalize hH2:s.heap.push { cls:=.type "list",dict:=none,data:=.seq ([]:List Value).toArray }=h2 at G k ⊢;have hC:h2.objs.size=s.heap.objs.size+1:=by rw[<- hH2,Xz]
 have hDC:s.heap.objs.size≠h2.objs.size:=by rw[hC];exact WL (WW _)
 have hCle:s.heap.objs.size<=h2.objs.size:=by rw[hC];exact Xp _
 have a8:∀b o,s.heap.get? b=some o->h₁.get? b=some o:=λb o e=>k.extBut b o (WL (WE (WD e) hCle)) (WG _ (hH2 ▸ WG _ e));have a4:h₁.get? s.heap.objs.size=some (jn [] 0):=k.extBut _ _ hDC (WG _ (hH2 ▸ W5 _ rfl));have a0:∀b∈fp,b<s.heap.objs.size:=λb hb=>by
  obtain⟨o,ho,_⟩:=T.obj _ _ st b hb;exact WD ho
 have aH:∀b∈cJ X.stack,b<s.heap.objs.size:=λb hb=>by
  obtain⟨_,o,ho,_⟩:=I.stack.mem hb;exact WD ho
 have cellLt:∀x c,X.env.cells.lookup x=some c->c<s.heap.objs.size:=λx c e=>by
  obtain⟨v,q⟩:=I.cell x c e;exact q.lt
 have a1:∀n,(n,NameKind.free)∈scope.names->∃c,X.env.cells.lookup n=some c:=λn hm=>I.ok.has n (S.free n hm);have clX:∀x c,(gQ X.env.cells scope.names []).lookup x=some c->X.env.cells.lookup x=some c:=λx c e=>by
  rcases zO _ _ _ _ e a1 with h|h
  ·exact h.2
  ·simp at h
 have pinLt:∀p∈X.pn++a,p.1<s.heap.objs.size:=λp M=>WD (I.pin p M).1;generalize hDD:s.heap.objs.size=D at a4 hDC ⊢;generalize hCC:h2.objs.size=C at hDC hCle G k ⊢;have leD:s.heap.objs.size<=D:=XH hDD;have leC:s.heap.objs.size<=C:=by omega
 have aa:∀ {B:Hp} (o:Obj),(∀b∈fp,B b=none)->∀b∈fp,gT (da X Nc scope C s H fp) (a++[(D,o)]) B b:=λ{B} o hn b hb=>by
  refine⟨hn b hb,WL (WE (a0 b hb) leC),λz=>?_,.inl hb,λx c e z=>(R b hb).2.2.2.2.1 x c (clX x c e) z,λp M=>?_⟩
  ·rcases WU.mp (I.stkSub b z) with q|q
   ·exact (R b hb).2.1 q
   ·exact (R b hb).2.2.1 q
  ·have aq:p∈X.pn++(a++[(D,o)]):=M;rw[<- Xe]at aq;rcases WQ.mp aq with z|z
   ·exact (R b hb).2.2.2.2.2 p z
   ·have e:p=(D,o):=by simpa using z
    subst e;exact λq=>j7 (a0 b hb) leD q.symm
 have N:∀s₃:fv,s₃ = { s with heap:=h₁,toks:=s.toks+([]:List (Str × Value)).length } ->
  codeAny (model X.prog X.w) X.A (.compLoop (.ListComp elt [⟨tg,iter,ifs,0⟩] scope pos) 0 (.ref it) (.ref D) (compEnvC scope (gQ X.env.cells scope.names []) C X.env)) (RR (.ref D) C) s₃:=by
  rintro s₃ rfl;refine S2 (λn s'=>∃(i:Nat) (ys:List V) (f:List Value) (Y:Nat) (U:St) (B:Hp),ag (da X Nc scope C s H fp) (a++[(D,jn f Y)]) U B s'/\tn i s'.heap/\(∀b∈fp,B b=none)/\ay ys f/\W i n ys U B) ?_ m0
   ⟨0,[],[],0,_,H,Pk S I R a0 leD leC hDC G a4 (Eo _ _) a8,T.keep _ _ _ st λb _ o e=>a8 b o e,λb hb=>(R b hb).1,.nil,w0⟩
  rintro n s' ⟨i,ys,f,Y,U,B,I1,al,ak,rv,w1⟩;have pinD:∀ {σ':St} {l:Hp} {a7:fv} {pl:List (Addr × Obj)},ag (da X Nc scope C s H fp) ((a++[(D,jn f Y)])++pl) σ' l a7->a7.heap.get? D=some (jn f Y)/\l D=none:=λ{σ' l a7 pl} I'=>by
   have z:=I'.pin (D,jn f Y) (W6 _ (Xc _ (W6 _ (by simp))));exact⟨z.1,z.2.1⟩
  rcases an i n ys U B w1 with ⟨stop,hz,q⟩|⟨go,hz,Nx,hNx,step⟩
  ·refine aw (T.done (da X Nc scope C s H fp) Z Z Z hc i _ s' U B _ I1 (aa _ ak) al stop) λr s4 ⟨hr,I4⟩=>?_;subst hr;obtain⟨eD,nD⟩:=pinD (pl:=[]) (by rw[WM];exact I4);obtain⟨m,hnC,_⟩:=I4.loc;have u4:Un (cJ X.stack) fp H B s.heap s4.heap:=I4.base;have dNone:s.heap.get? D=none:=X3 (XH hDD);have noD:∀b o,s.heap.get? b=some o->b≠D:=λb o e z=>by rw[z,dNone]at e;cases e
   have u5:Un (cJ X.stack) fp H (upd B D (.lst ys)) s.heap s4.heap:=by
    refine⟨u4.keep,u4.slot,λb o e n hx=>?_,u4.there,λb xs e=>?_,λb o u e=>?_,λb ps e=>?_⟩
    ·rw[ap (noD b o e)];exact u4.free b o e n hx
    ·have z:=u4.tups b xs e;rw[ap (aB z nD)];exact z
    ·have z:=u4.frzs b o u e;rw[ap (aB z nD)];exact z
    ·obtain⟨more,z⟩:=u4.tbls b ps e;exact⟨more,by rw[ap (aB z nD)];exact z⟩
   have hok:bC X.prog X.w (upd B D (.lst ys)) s4.heap:=bC.adopt I4.hok nD ⟨hz,f,Y,rv,eD⟩;have IX:ag X a σ (upd B D (.lst ys)) s4:=I.call' I4.os u5 hok I4.bare λb hb=>⟨(R b hb).2.2.2.1,(R b hb).2.1,(R b hb).2.2.2.2.1,(R b hb).2.2.2.2.2⟩;have fpC:gT X a (upd B D (.lst ys)) C:=by
    have hl:X.env.locals<s.heap.objs.size:=I.lt;exact⟨by rw[ap (Ne.symm hDC)];exact I4.free,(j7 hl leC).symm,I.nofs leC,.inr (WP I.sz leC),λx c e z=>j7 (cellLt x c e) leC z,λp M z=>j7 (pinLt p M) leC z⟩
   exact hRR D C s4 _ IX fpC ⟨m,hnC⟩ (q D _ (.mk' nD))
  ·refine aw (T.item (da X Nc scope C s H fp) Z Z Z hc i _ s' U B _ I1 (aa _ ak) al go) λr s4 ⟨u,hr,h4⟩=>?_;subst hr;refine aw h4 λ_ s5 ⟨x,H5,I5,r5,y5,a9,aF⟩=>?_;have aI:=I5.pinned (aa _ aF) (T.obj _ _ a9);have back:∀ {σ7:St} {H7:Hp} {s7:fv},ag (da X Nc scope C s H fp) ((a++[(D,jn f Y)])++m8 fp s5.heap) σ7 H7 s7->tn (i+1) s7.heap/\∀b∈fp,H7 b=none:=λ{σ7 H7 s7} I7=>by
    refine⟨T.keep _ _ _ a9 λb hb o e=>(I7.pin (b,o) (W6 _ (W6 _ (rE hb e)))).1,λb hb=>?_⟩;obtain⟨o,e,d⟩:=T.obj _ _ a9 b hb;exact (I7.pin (b,o) (W6 _ (W6 _ (rE hb e)))).2.1
   refine aw (hg _ _ _ _ _ s5 U H5 x u _ aI r5 (step x H5 y5)) λ_ s6 ⟨σ6,H6,I6,q6⟩=>?_;refine aw (ht _ _ _ _ _ s6 σ6 H6 _ I6 q6) λb s7 ⟨H7,I7,q7⟩=>?_;cases b with
   | false =>
    obtain⟨m',hm,w7⟩:=hNx _ _ _ q7;obtain⟨t7,f7⟩:=back I7;exact⟨m',hm,i+1,ys,f,Y,σ6,H7,I7.unpinned,t7,f7,rv,w7⟩
   | true =>
    refine aw (he _ _ _ _ _ s7 σ6 H7 _ I7 q7) λO s8 ⟨y,H8,I8,r8,n8⟩=>?_;obtain⟨m',hm,w8⟩:=hNx _ _ _ n8;obtain⟨t8,f8⟩:=back I8;obtain⟨eD,nD⟩:=pinD I8;have aS:=rv.length;refine call_meets F.slot_list_append ⟨_,eD,rfl⟩ F.entry_list_append (F.args_list_append_2 _ _) (PySem.list_append D f.toArray Y O (by rw[WH];omega)) ⟨eD,?_⟩;have ea:f.toArray.push O=(f++[O]).toArray:=by simp
    obtain⟨n9,e9⟩:∃n9,(s8.heap.update D (Obj.mapSeq (·.push O))).get? D=some (jn (f++[O]) n9):=⟨_,by
     have z:=PySem.IsL.update eD (·.push O);rw[ea]at z;exact z⟩
    have L:∀b o,b≠D->s8.heap.get? b=some o->(s8.heap.update D (Obj.mapSeq (·.push O))).get? b=some o:=λb o hb e=>(Xu _ _ (Ne.symm hb)).trans e;have aJ:∀b∈fp,b≠D:=λb hb z=>j7 (a0 b hb) leD z;have aE:ag (da X Nc scope C s H fp) a σ6 H8 s8:=I8.pins_of λp M=>I8.pin p (W6 _ (Xc _ (Xc _ M)));have I9:=aE.turned (t':=s8.toks) (it:=D) L nD hDC (.inr leD) (λx c e z=>j7 (cellLt x c (clX x c e)) leD z) (λp M z=>j7 (pinLt p M) leD z);have t9:tn (i+1) (s8.heap.update D (Obj.mapSeq (·.push O))):=T.keep _ _ _ t8 λb hb o e=>L b o (aJ b hb) e;refine⟨m',hm,i+1,ys++[y],f++[O],n9,σ6,H8,I9.pins_of λp M=>?_,t9,f8,rv.append (.cons r8 .nil),w8⟩;rcases WQ.mp M with z|z
    ·exact I9.pin p (W6 _ z)
    ·have e:p=(D,jn (f++[O]) n9):=by simpa using z
     subst e;exact⟨e9,nD,hDC,λq=>j7 (aH _ q) leD Z,Eo _ _⟩
 have bs:=λ(s₃:fv) (e:s₃ = { s with heap:=h₁,toks:=s.toks+([]:List (Str × Value)).length })=>N s₃ e;exact codeAny_compStart_list (N _ Z) (T.self _ 0 _ _ _ (T.keep _ _ _ st λb _ o e=>a8 b o e) (N _ Z))
def Nz{p:TI}{g:TG}{l:TT}{r:TE}{pos:Pos}(R:X.calm=true)(S:cq X Nc nv caps scope)(hi:PI X tg iter p)
 (Y:∀C s H fp,PG (da X Nc scope C s H fp) tg g) (z:∀C s H fp,mH (da X Nc scope C s H fp) ifs l) (M:∀C s H fp,PE (da X Nc scope C s H fp) elt r)
 (hs:∀x,foldedSetIterable iter X.env x=pure x:=by intro _;rfl):PE X (.ListComp elt [⟨tg,iter,ifs,0⟩] scope pos) (qK nv caps p g l r):=by
 intro d s σ H Q I h;rw[eval_ListComp];have a:∀n,(n,NameKind.free)∈scope.names->∃c,X.env.cells.lookup n=some c:=λn U=>I.ok.has n (S.free n U);refine wpAny_comprehension_free (use:=none) Z hs (Gw a) S.kind S.names (aw (hi d s σ H _ I h) λv s1 h1=>aw h1 λa4 s2 h2=>?_);obtain⟨it,fp,tn,J,H2,rfl,O,T,k,V,W,⟨m0,B⟩,f⟩:=h2;refine Gr (RR:=λj C=>compPost (model X.prog X.w) X.A X.xe none (EP X d σ Q) j C) R S Y z M O T k V B f λD C L H4 u fC i q=>?_;obtain⟨m,i⟩:=i;refine⟨m,i,λh' sb=>?_⟩;obtain⟨F,f1,N,f3,G,y⟩:=fC;exact⟨.ref D,H4,u.turned (t':=L.toks) (it:=C) (λb o hb e=>sb.extBut b o hb e) F f1 f3 G y,Z,q⟩
def MJ{R:TI}{g:TG}{M:TT}{V:TE}{pos f k:Pos}{i:Nat}{y:Str}(hN:X.N.Nodup)(hy:X.N[i]? = some y)(hx:kh X.env.scope y)(hc:X.calm=true)(S:cq X Nc nv caps scope)(hi:PI X tg iter R)
 (hg:∀C s H fp,PG (da X Nc scope C s H fp) tg g) (ht:∀C s H fp,mH (da X Nc scope C s H fp) ifs M) (he:∀C s H fp,PE (da X Nc scope C s H fp) elt V)
 (F:swapsWith (.ListComp elt [⟨tg,iter,ifs,0⟩] scope pos) (some (.Name y k)) f.line X.env=pure true:=by rfl)
 (hs:∀x,foldedSetIterable iter X.env x=pure x:=by intro _;rfl) (hf:X.fn y=true\/X.env.scope.names.lookup y=some .local:=by first|exact .inl rfl|exact .inr rfl|assumption) :
 PS X (.Assign [.Name y k] (.ListComp elt [⟨tg,iter,ifs,0⟩] scope pos) f) (qL (qK nv caps R g M V) (cO i)):=by
 intro a s σ H B I h;have d:∀n,(n,NameKind.free)∈scope.names->∃c,X.env.cells.lookup n=some c:=λn hm=>I.ok.has n (S.free n hm);rw[exec_Assign_Name_used _ _ _ _ F];refine kb (wpAny_standAt (kb ?_));show wpAny _ X.A (do let _ <- comprehension (.ListComp elt [⟨tg,iter,ifs,0⟩] scope pos) scope X.env _ (newList []) false (eval iter X.env) (some (assign (.Name y k) X.env))) _ _ s;refine kb (wpAny_mono (wpAny_comprehension_free (use:=some (assign (.Name y k) X.env)) (Q:=λ_ p=>SP X a B .next p) Z hs (Gw d) S.kind S.names
  (aw (hi a s σ H _ I h) λv s1 h1=>aw h1 λam s2 h2=>?_)) (λ_ p hq=>ZO (ZO hq)) λ_ _ e=>e)
 obtain⟨it,fp,tn,J,H2,rfl,I2,T,L,f2,W,⟨m0,w0⟩,l⟩:=h2;refine Gr (RR:=λG C=>compPost (model X.prog X.w) X.A X.xe (some (assign (.Name y k) X.env)) (λ_ p=>SP X a B .next p) G C) (Q:=λx H1=>cO i x σ H1 B.nx) hc S hg ht he I2 T L f2 w0 l λD C s4 H4 Y fC r q=>?_;obtain⟨m,r⟩:=r;obtain⟨f0,U,a6,f3,O,f5⟩:=fC;show wpAny _ X.A (assign (.Name y k) X.env (.ref D)) _ _ _;refine wpAny_assign_Name (Ch Y hN hy hx (show aP (.ref D) (.ref D) from rfl) (λs5 I5 j=>?_) hf);obtain⟨a5,j,u⟩:=j;have hCa:C≠a5:=by
  rcases u with z|z
  ·rw[z];exact U
  ·exact λe=>O _ _ z e.symm
 refine⟨m,r.sameBut j hCa,λh' sb=>?_⟩;exact⟨_,H4,I5.turned (t':=s5.toks) (it:=C) (λb o hb e=>sb.extBut b o hb e) f0 U f3 O f5,q⟩
end
def j5{K:W.Frag}{a:Addr}{xs:List V}{cs:St}{l:TT}{r:TE}{H:Hp}{Q:VK}(f:Nat->List V->Hp->Prop)(B:f 0 [] H)(u:∀i ys H,i<=xs.length->f i ys H->aE K H a xs/\ys.length<=i)(hz:xs.length<=sizeLine)
 (hs:∀i x ys H (N:List V->Hp->Prop),xs[i]? = some x->f i ys H->(∀c d,f (i+1) c d->N c d)->l (some x::cs) H λb k=>if b=true then r (some x::cs) k λy v=>N (ys++[y]) v else N ys k)
 (hd:∀ys H p d,f xs.length ys H->bc H p (.lst ys) d->Q (.ref p) d) :
 iG (il K a) H (List.replicate 1 none++cs) (cO 0) l r Q:=by
 refine⟨λi m ys σ H=>m=xs.length-i/\i<=xs.length/\f i ys H/\∃h,σ=h::cs,⟨xs.length,by simp,WT _,B,none,rfl⟩,?_⟩;rintro i m ys σ n ⟨rfl,s,p,h,rfl⟩;obtain⟨q,C⟩:=u i ys n s p;by_cases hlt:i<xs.length
 ·refine .inr ⟨⟨xs,xs[i],q,by simp[hlt]⟩,by omega,λc o d=>f (i+1) c d/\∃h,o=h::cs,λc o d ⟨j,e⟩=>⟨xs.length-(i+1),by omega,rfl,hlt,j,e⟩,λx d y=>?_⟩;obtain⟨e,y⟩:=y;subst e;exact hs i x ys d (λc d=>f (i+1) c d/\∃h,some x::cs=h::cs) (y xs q) p λ_ _ z=>⟨z,_,Z⟩
 ·have e:i=xs.length:=by omega
  subst e;exact .inl ⟨⟨xs,q,WB _⟩,by omega,λj d g=>hd ys n j d p g⟩
def SZ{lo:Int}{n:Nat}{cs:St}{k:TT}{q:TE}{H:Hp}{Q:VK}(d:Nat->List V->Hp->Prop)(v:d 0 [] H)(s:∀i ys H,i<=n->d i ys H->ys.length<=i)(hz:n<=sizeLine)
 (hs:∀i ys H (N:List V->Hp->Prop),i<n->d i ys H->(∀a c,d (i+1) a c->N a c)->k (some (.int (lo+i))::cs) H λb j=>if b=true then q (some (.int (lo+i))::cs) j λy u=>N (ys++[y]) u else N ys j)
 (hd:∀ys H p c,d n ys H->bc H p (.lst ys) c->Q (.ref p) c) :
 iG (ik lo n) H (List.replicate 1 none++cs) (cO 0) k q Q:=by
 refine⟨λi m ys σ H=>m=n-i/\i<=n/\d i ys H/\∃f,σ=f::cs,⟨n,by simp,WT _,v,none,rfl⟩,?_⟩;rintro i m ys σ l ⟨rfl,r,p,f,rfl⟩;have B:=s i ys l r p;by_cases hlt:i<n
 ·refine .inr ⟨hlt,by omega,λa o c=>d (i+1) a c/\∃f,o=f::cs,λa o c ⟨h,e⟩=>⟨n-(i+1),by omega,rfl,hlt,h,e⟩,λx c y=>?_⟩;obtain⟨e,y⟩:=y;subst e y;exact hs i ys c (λa c=>d (i+1) a c/\∃f,some (V.int (lo+i))::cs=f::cs) hlt p λ_ _ z=>⟨z,_,Z⟩
 ·have e:i=n:=by omega
  subst e;exact .inl ⟨WB _,by omega,λh c g=>hd ys l h c p g⟩
def gn{α:Type}(xs:List α)(lo a:Option Int):List α:=(xs.drop (HT.sIx xs.length 0 lo)).take (HT.sIx xs.length xs.length a-HT.sIx xs.length 0 lo)
def ST{α β:Type}(f:α->β)(xs:List α)(lo a:Option Int):gn (xs.map f) lo a=(gn xs lo a).map f:=by
 unfold gn;rw[WA,Yf,YR]
def zA{α:Type}(xs:List α)(k:Nat):gn xs none (some (k:Int))=xs.take k:=by
 unfold gn HT.sIx;simp only [YS,Nat.sub_zero];have h:¬((k:Int)<0):=by omega
 rw[ZP h,XC,<- List.take_take,WY]
def qa{α:Type}(xs:List α)(k:Nat):gn xs (some (k:Int)) none=xs.drop k:=by
 unfold gn HT.sIx;have h:¬((k:Int)<0):=by omega
 dsimp only;rw[ZP h,XC];by_cases hk:k<=xs.length
 ·rw[Yv hk];exact Xv (by simp)
 ·rw[YT (by omega),YU,YV,Yw (by omega)]
def zB{α:Type}(xs:List α)(k m:Nat):gn xs (some (k:Int)) (some ((k:Int)+(m:Int)))=(xs.drop k).take m:=by
 unfold gn HT.sIx;have h:¬((k:Int)<0):=by omega
 have h':¬((k:Int)+(m:Int)<0):=by omega
 have e:((k:Int)+(m:Int)).toNat=k+m:=by omega
 dsimp only;rw[ZP h,ZP h',XC,e];by_cases hk:k<=xs.length
 ·rw[Yv hk];by_cases hm:k+m<=xs.length
  ·rw[Yv hm,XT]
  ·rw[YT (by omega),Xv (by simp),Xv (by simp;omega)]
 ·rw[YT (by omega:xs.length<=k),YU,YV,Yw (by omega),YV]
def ib(ns:e7)(lo a:Option Int):cY (ns.map V.int) lo a=(gn ns lo a).map V.int:=ST _ _ _ _
def sW(ns a:e7):PyData.eqv (.list (ns.map PyData.int)) (.list (a.map PyData.int))=decide (ns=a):=by
 show PyData.eqvAll _ _=_;exact W.ked_eqvAll ns a
def Sw{K:W.Frag}{H:Hp}{a b:Addr}{ns c:e7}{neg:Bool}{Q:VK}(e:aE K H a (ns.map V.int))(d:aE K H b (c.map V.int))(q:Q (.bl (if neg then !decide (ns=c) else decide (ns=c))) H) :
 pH K neg (.ref a) (.ref b) H Q:=by
 refine⟨_,_,bf.lst e (cf.ints ns),bf.lst d (cf.ints c),W.ke_shaped_ints ns,W.ke_shaped_ints c,?_⟩;rw[sW];exact q
structure QE (X:Cx) (e:Expr) (t:TE):Prop where
 h:PE X e t
structure QT (X:Cx) (e:Expr) (t:TT):Prop where
 h:PT X e t
structure QW (X:Cx) (e:Expr) (t:TT):Prop where
 h:PW X e t
structure QA (X:Cx) (es:List Expr) (t:TA):Prop where
 h:PA X es t
structure QS (X:Cx) (st:Stmt) (t:TS):Prop where
 h:PS X st t
structure fw (X:Cx) (st:List Stmt) (t:TS):Prop where
 h:gv X st t
structure QG (X:Cx) (e:Expr) (t:TG):Prop where
 h:PG X e t
structure qo (X:Cx) (es:List Expr) (t:i8):Prop where
 h:qr X es t
structure QI (X:Cx) (tg e:Expr) (t:TI):Prop where
 h:PI X tg e t
structure QO (X:Cx) (e:Option Expr) (t:TO):Prop where
 h:PO X e t
structure uf (X:Cx) (es:List Expr) (t:TT):Prop where
 h:mH X es t
section
variable {X:Cx}{a b c e o:Expr}{es bv:List Expr}{pos p p2:Pos}{ta tb tc te to:TE}{tA tB' tt:TT}{t tk:TA}
def ah{i j pos}:QE X (.Constant (.int i) j pos) (tC (.int i)):=⟨rm⟩
def ix{b j pos}:QE X (.Constant (.bool b) j pos) (tC (.bl b)):=⟨DI⟩
def bY{j pos}:QE X (.Constant .none j pos) (tC .non):=⟨DF⟩
def cj{x j pos}:QE X (.Constant (.str x) j pos) (tC (.str x)):=⟨DE⟩
def aa(i:Nat){x:Str}(hN:X.N[i]? = some x:=by rfl)(b:uc X.env.scope x:=by first|exact Or.inl rfl|exact Or.inr (Or.inl rfl)|exact Or.inr (Or.inr rfl))(hd:(x == ("__debug__" : Str))=false:=by decide)
 (a:(x == ("__classdict__" : Str))=false:=by decide):QE X (.Name x pos) (mV i):=⟨vv i hN b hd a⟩
def bU{x:Str}{n:Int}{u:Tok}(b:X.mg x=some (.int n u))(a:Gl X x:=by rfl)(hd:(x == ("__debug__" : Str))=false:=by decide):QE X (.Name x pos) (tC (.int n)):=⟨gi b a hd⟩
def iP {x:Str} {v:V} {u:Value} (a:Gl X x) (b:X.mg x=some u) (r:aP v u) (hd:(x == ("__debug__" : Str))=false:=by decide):QE X (.Name x pos) (tC v):=⟨DH a b r hd⟩
def m7 {x:Str} {T:String} (b:Gl X x) (d:X.mg x=none) (c:bootBuiltins x=some (.type T)) (a:x ≠ "__name__":=by decide) (hd:(x == ("__debug__" : Str))=false:=by decide):QE X (.Name x pos) (tC (.ty T)):=⟨Tz b d c a hd⟩
def dA{j:Int}{k:Nat}(b:QE X a ta)(hj:0<j/\j<1073741824:=by decide):QE X (.BinOp a .FloorDiv (.Constant (.int j) k p) pos) (Ek j ta):=⟨OF b.h hj⟩
def cG{j:Int}{k:Nat}(b:QE X a ta)(hj:0<j:=by decide):QE X (.BinOp a .Mod (.Constant (.int j) k p) pos) (Ei j ta):=⟨OD b.h hj⟩
def az{c:Operator}{r:R2}(e:aV X (binaryOp c) r)(d:QE X a ta)(hb:QE X b tb):QE X (.BinOp a c b pos) (dR r ta tb):=⟨Nl e d.h hb.h⟩
def Dt{b:UnaryOp}{r:V->Hp->VK->Prop}(d:qk X (unaryOp b) r)(c:QE X a ta):QE X (.UnaryOp b a pos) (BV r ta):=⟨Nj d c.h⟩
def Dx(b:QE X a ta):QE X (.UnaryOp .Not a pos) (Eh ta):=⟨OC b.h⟩
def ky(c:QE X a ta)(hb:QE X (.BoolOp .And (b::bv) pos) tb):QE X (.BoolOp .And (a::b::bv) pos) (Em ta tb):=⟨OI c.h hb.h⟩
def rk(c:QE X a ta)(hb:QE X (.BoolOp .Or (b::bv) pos) tb):QE X (.BoolOp .Or (a::b::bv) pos) (Eg ta tb):=⟨OB c.h hb.h⟩
def jO{op}(h:QE X a ta):QE X (.BoolOp op [a] pos) ta:=⟨Nm h.h⟩
def kx{c:CmpOp}{r:R2}(e:aV X (compareOp c) r)(d:QE X a ta)(hb:QE X b tb)(f:behindInMarks c b=false):QE X (.Compare a [c] [b] pos) (dR r ta tb):=⟨NA e d.h hb.h f⟩
def m6{e d:CmpOp}{r g:R2}(j:aV X (compareOp e) r)(f:aV X (compareOp d) g)(i:QE X a ta)(hb:QE X b tb)(k:QE X c tc)
 (l:lastMarks [e,d] [b,c]=false:=by with_unfolding_all rfl):QE X (.Compare a [e,d] [b,c] pos) (rF r g ta tb tc):=⟨OH j f i.h hb.h k.h l⟩
def iO(e:QT X c tA)(d:QE X a ta)(hb:QE X b tb):QE X (.IfExp c a b pos) (B7 tA ta tb):=⟨Nq e.h d.h hb.h⟩
def dU(h:QW X e tt):QT X e tt:=⟨PW.pt h.h⟩
def lS(b:QT X a tA):QW X (.BoolOp .And [a] pos) tA:=⟨Mz b.h⟩
def gX(b:QT X a tA):QW X (.BoolOp .Or [a] pos) tA:=⟨Mw b.h⟩
def ku(c:QT X a tA)(hb:QW X (.BoolOp .And (b::bv) pos) tB'):QW X (.BoolOp .And (a::b::bv) pos) (Cf tA tB'):=⟨MA c.h hb.h⟩
def gY(c:QT X a tA)(hb:QW X (.BoolOp .Or (b::bv) pos) tB'):QW X (.BoolOp .Or (a::b::bv) pos) (B1 tA tB'):=⟨Mx c.h hb.h⟩
def fZ(b:QT X a tA):QT X (.UnaryOp .Not a pos) (B2 tA):=⟨ME b.h⟩
def aA{c:CmpOp}{r:R2}(e:aV X (compareOp c) r)(d:QE X a ta)(hb:QE X b tb)(f:behindInMarks c b=false):QT X (.Compare a [c] [b] pos) (mB (dR r ta tb)):=⟨Op e d.h hb.h f⟩
def Dv{e d:CmpOp}{r g:R2}(j:aV X (compareOp e) r)(f:aV X (compareOp d) g)(i:QE X a ta)(hb:QE X b tb)(k:QE X c tc)
 (l:lastMarks [e,d] [b,c]=false:=by with_unfolding_all rfl):QT X (.Compare a [e,d] [b,c] pos) (mB (rF r g ta tb tc)):=⟨Oq j f i.h hb.h k.h l⟩
def eB(h:QE X e te)(a:∀whole,isTrue e X.env whole=(do let v <- whole;standAt e.pos;holding [v] (truthy v)):=by intro _;rfl):QT X e (mB te):=⟨Oj h.h a⟩
def Mo(h:QE X e te)(a:∀whole,isTrue e X.env whole=(do let v <- whole;standAt e.pos;holding [v] (truthy v)):=by intro _;rfl):QT X e (xu X.K te):=⟨Ol h.h a⟩
def ae:QA X [] ff:=⟨DL⟩
def ad(a:QE X e te)(b:QA X es t)(hs:eG e=false:=by rfl):QA X (e::es) (je te t):=⟨DN a.h b.h hs⟩
def rj{vs:List V}(h:tf es=some vs):QA X es (Cc vs):=⟨DM h⟩
def aT(h:QA X es t):QE X (.List es pos) (Ej t):=⟨OE h.h⟩
def bF{x1}(h:QA X es t):QE X (.Tuple es x1 pos) (Ef t):=⟨Oz h.h⟩
def Dz:QE X (.Dict [] [] pos) El:=⟨OG⟩
def gf:QO X none B3:=⟨M3⟩
def ci(h:QE X e te):QO X (some e) (B0 te):=⟨M0 h.h⟩
def dw{r:V->Option Int->Option Int->Hp->VK->Prop}{lo b:Option Expr}{a c:TO}(i:ka X r)(d:QE X e te)(f:QO X lo a)(g:QO X b c):QE X (.Subscript e (.Slice lo b none p2) pos) (BX r te a c):=⟨Nk i d.h f.h g.h⟩
def au{r:R2}(d:gS X r)(c:QE X a ta)(hb:QE X b tb)(hs:GU b):QE X (.Subscript a b pos) (dR r ta tb):=⟨Np d c.h hb.h hs⟩
section
variable {k j:Nat}{f:Addr}{fd:FuncData}{ps:List Str}{sp:Sp}{x:Str}
def aS(F:bj X.prog X.w X.K X.mg X.base x j f fd ps sp)(d:bH k X.A)(b:QA X (e::es) t)(hj:j<=k:=by decide)(g:Gl X x:=by rfl)
 (a:(x == ("__debug__" : Str))=false:=by decide) (c:dj (e::es)=true:=by rfl):QE X (.Call (.Name x p) (e::es) [] pos) (mO sp [] E0 t):=⟨Td F d b.h hj g a c⟩
def bz{id:String}{r:List V->Hp->VK->Prop}(f:cK X (.builtin id) r)(g:X.mg x=none)(d:bootBuiltins x=some (.builtin id))(b:QA X (e::es) t)(i:Gl X x:=by rfl)(hx:x ≠ "__name__":=by decide)(a:(x == ("__debug__" : Str))=false:=by decide)
 (c:dj (e::es)=true:=by rfl):QE X (.Call (.Name x p) (e::es) [] pos) (jf r t):=⟨Tc f g d b.h i hx a c⟩
def dI{T:String}{r:List V->Hp->VK->Prop}(f:cK X (.type T) r)(g:X.mg x=none)(d:bootBuiltins x=some (.type T))(b:QA X (e::es) t)(i:Gl X x:=by rfl)(hx:x ≠ "__name__":=by decide)(a:(x == ("__debug__" : Str))=false:=by decide)
 (c:dj (e::es)=true:=by rfl):QE X (.Call (.Name x p) (e::es) [] pos) (jf r t):=⟨Tb f g d b.h i hx a c⟩
end
section
variable {name:Str}{apos cpos:Pos}{T id:String}{r:V->List V->Hp->VK->Prop}
def Mm (e:PlainAttrs T) (slot:Slot T name id) (c:typeOf (.builtin id)=pure (.type "method_descriptor")) (f:gw X id r) (d:QE X o to)
 (a:attributeBase o name X.env (eval o X.env)=eval o X.env:=by rfl) (b:(apos.endLine == cpos.line)=true:=by rfl):QE X (.Call (.Attribute o name apos) [] [] cpos) (uI X.K T r to):=⟨NE e slot c f d.h a b⟩
theorem DY{env:Env}{pos:Pos}:∀ {es:List Expr},dj es=true->(backTo pos (starEach es env)).all (λx=>!x.1)=true
 | [],_=>rfl
 | e::r,h=>by
  obtain⟨b,a⟩:=c9 h;rw[cU b];show (!false && (backTo pos (starEach r env)).all (λx=>!x.1))=true;rw[DY a]
  rfl
def Mn (j:PlainAttrs T) (slot:Slot T name id) (c:typeOf (.builtin id)=pure (.type "method_descriptor")) (k:gw X id r) (i:QE X o to) (f:QA X (e::es) t)
 (a:attributeBase o name X.env (eval o X.env)=eval o X.env:=by rfl) (d:dj (e::es)=true:=by rfl) (g:decide ((e::es).length+0+0<30)=true:=by rfl)
 (b:(apos.endLine == cpos.line)=true:=by rfl):QE X (.Call (.Attribute o name apos) (e::es) [] cpos) (kt X.K T r to t) :=
 ⟨NF j slot c k i.h f.h a (by rw[DY d];exact g) b (cU (c9 d).1) (hU (c9 d).2)⟩
end
section
variable {st:Stmt}{sts ss2:List Stmt}{s t1 u1:TS}{tg it:Expr}{g:TG}{gs:i8}{wi:TI}
def aK:fw X [] jI:=⟨MG⟩
def ai(b:QS X st t1)(a:fw X sts u1):fw X (st::sts) (mM t1 u1):=⟨MH b.h a.h⟩
def aj(a:QS X st t1):fw X [st] t1:=⟨MF a.h⟩
def iw:QS X st B4:=⟨MM⟩
def Mf:QS X (.Break pos) Cd:=⟨MT⟩
def am(a:QE X e te):QS X (.Return (some e) pos) (BZ te):=⟨ML a.h⟩
def bE(a:QE X e te)(hs:swapsWith e none pos.line X.env=pure false:=by rfl):QS X (.Expr e pos) (lK te):=⟨MR a.h hs⟩
def aI(b:QT X c tA)(a:fw X sts t1)(hb:fw X ss2 u1):QS X (.If c sts ss2 pos) (iq tA t1 u1):=⟨MN b.h a.h hb.h⟩
def aL{i:Nat}{x:Str}{a:Pos}(hN:X.N.Nodup)(b:X.N[i]? = some x)(hx:kh X.env.scope x)(c:QE X e te)(hs:swapsWith e (some (.Name x a)) pos.line X.env=pure false:=by rfl)(d:X.fn x=true\/X.env.scope.names.lookup x=some .local:=by first|exact .inl rfl|exact .inr rfl|assumption) :
 QS X (.Assign [.Name x a] e pos) (qL te (cO i)):=⟨MK hN b hx c.h hs d⟩
def aX{i:Nat}{x:Str}(hN:X.N.Nodup)(a:X.N[i]? = some x)(hx:kh X.env.scope x)(b:X.fn x=true\/X.env.scope.names.lookup x=some .local:=by first|exact .inl rfl|exact .inr rfl|assumption):QG X (.Name x pos) (cO i):=⟨Nh hN a hx b⟩
def gF:qo X [] pv:=⟨Nd⟩
def cD(b:QG X e g)(a:qo X es gs)(hs:(assignEach (e::es) X.env).map (·.2)=assign e X.env::(assignEach es X.env).map (·.2):=by rfl):qo X (e::es) (jX g gs):=⟨Nf b.h a.h hs⟩
def Ml{k n:Nat}(c:X.calm=true)(h:qo X es gs)(b:(assignEach es X.env).length=n:=by rfl)(a:(assignEach es X.env).findIdx? (·.1)=none:=by rfl):QG X (.Tuple es k pos) (ml X.K n gs):=⟨Ng c h.h b a⟩
def Mj{l:Expr}{a:TE}(b:QE X l a):QI X tg l (xH X.K a):=⟨Na b.h⟩
def Mh{l:Expr}{a:TE}(b:QE X l a):QI X tg l (xG X.K a):=⟨M6 b.h⟩
def m5 (c:Gl X "range") (d:X.mg "range" = none) (b:QA X [a] t) (hs:eG a=false:=by rfl):QI X tg (.Call (.Name "range" p) [a] [] pos) (ET t):=⟨M9 c d b.h (cU hs)⟩
def Ds (e:Gl X "range") (f:X.mg "range" = none) (d:QA X [a,b] t) (hs:eG a=false:=by rfl) (c:eG b=false:=by rfl):QI X tg (.Call (.Name "range" p) [a,b] [] pos) (ES t) :=
 ⟨M8 e f d.h (by rw[cU hs,cU c];rfl) (cU c)⟩
def cw{body:List Stmt}{tb1:TS}(c:PassesOwn (model X.prog X.w) X.A X.env X.xe)(d:X.calm=true)(a:QI X tg it wi)(b:QG X tg g)(hb:fw X body tb1)
 (hs:∀x,foldedSetIterable it X.env x=pure x:=by intro _;rfl):QS X (.For tg it body [] pos) (B8 wi g tb1):=⟨MO c d a.h b.h hb.h hs⟩
def Me{body:List Stmt}{tb1:TS}(a:PassesOwn (model X.prog X.w) X.A X.env X.xe)(b:QT X c tA)(hb:fw X body tb1):QS X (.While c body [] pos) (BU tA tb1):=⟨MI a b.h hb.h⟩
def fX:uf X [] jH:=⟨MD⟩
def lT(h:QT X c tA):uf X [c] tA:=⟨MC h.h⟩
def hG{scope:Scope}{Nc:List Str}{nv:Nat}{caps:List Nat}{a:List Expr}(f:X.calm=true)(S:cq X Nc nv caps scope)(b:QI X tg it wi)
 (i:∀C s H fp,QG (da X Nc scope C s H fp) tg g) (d:∀C s H fp,uf (da X Nc scope C s H fp) a tt) (c:∀C s H fp,QE (da X Nc scope C s H fp) e te)
 (hs:∀x,foldedSetIterable it X.env x=pure x:=by intro _;rfl):QE X (.ListComp e [⟨tg,it,a,0⟩] scope pos) (qK nv caps wi g tt te) :=
 ⟨Nz f S b.h (λC s H fp=>(i C s H fp).h) (λC s H fp=>(d C s H fp).h) (λC s H fp=>(c C s H fp).h) hs⟩
def jN{scope:Scope}{Nc:List Str}{nv:Nat}{caps:List Nat}{b:List Expr}{a d:Pos}{i:Nat}{y:Str}(hN:X.N.Nodup)(o:X.N[i]? = some y)(hx:kh X.env.scope y)(m:X.calm=true)(S:cq X Nc nv caps scope)(f:QI X tg it wi)
 (n:∀C s H fp,QG (da X Nc scope C s H fp) tg g) (l:∀C s H fp,uf (da X Nc scope C s H fp) b tt) (j:∀C s H fp,QE (da X Nc scope C s H fp) e te)
 (c:swapsWith (.ListComp e [⟨tg,it,b,0⟩] scope pos) (some (.Name y d)) a.line X.env=pure true:=by rfl)
 (hs:∀x,foldedSetIterable it X.env x=pure x:=by intro _;rfl) (k:X.fn y=true\/X.env.scope.names.lookup y=some .local:=by first|exact .inl rfl|exact .inr rfl|assumption) :
 QS X (.Assign [.Name y d] (.ListComp e [⟨tg,it,b,0⟩] scope pos) a) (qL (qK nv caps wi g tt te) (cO i)) :=
 ⟨MJ hN o hx m S f.h (λC s H fp=>(n C s H fp).h) (λC s H fp=>(l C s H fp).h) (λC s H fp=>(j C s H fp).h) c hs k⟩
end
end
section
variable {X:Cx}{K:W.Frag}{a b c e o:Expr}{es bv:List Expr}{pos p p2:Pos}{ta tb tc te to:TE}{tA tB' tt:TT}{t tk:TA}
def av(h:X.K=K):gS X (mm K):=by subst h;exact RK
def dQ(h:X.K=K):ka X (FN K):=by subst h;exact Rt
def bh(h:X.K=K):aV X (binaryOp .Add) (FT K):=by subst h;exact R8
def bG(h:X.K=K)(a:X.A.units+64<cLine):aV X (compareOp .Eq) (pH K false):=by subst h;exact RW a
def iC(h:X.K=K)(a:X.A.units+64<cLine):aV X (compareOp .NotEq) (pH K true):=by subst h;exact RF a
def FK(h:X.K=K):aV X (compareOp .In) (rY K false):=by subst h;exact RU
def RD(h:X.K=K):aV X (compareOp .NotIn) (rY K true):=by subst h;exact RE
def bW (h:X.K=K):cK X (.builtin "len") (xT K):=by subst h;exact Tj
def fk (h:X.K=K):cK X (.type "list") (rX K):=by subst h;exact Ti
def Ab (h:X.K=K):cK X (.type "tuple") (xQ K):=by subst h;exact Te
def Tm (h:X.K=K) (a:X.calm=true):cK X (.builtin "all") (xV K false):=by subst h;exact Tn a
def qe (h:X.K=K):cK X (.builtin "isinstance") (xU K):=by subst h;exact Tl
def iB (h:X.K=K):gw X "list.extend" (pF K):=by subst h;exact Ox
def gK(h:X.K=K)(q:QE X e te)(a:∀whole,isTrue e X.env whole=(do let v <- whole;standAt e.pos;holding [v] (truthy v)):=by intro _;rfl):QT X e (xu K te):=by subst h;exact Mo q a
def cC{b l:Expr}{a:TE}(h:X.K=K)(c:QE X l a):QI X b l (xH K a):=by subst h;exact Mj c
def Mg{b l:Expr}{a:TE}(h:X.K=K)(c:QE X l a):QI X b l (xG K a):=by subst h;exact Mh c
def gH{k n:Nat}{b:i8}(h:X.K=K)(d:X.calm=true)(q:qo X es b)(c:(assignEach es X.env).length=n:=by rfl)(a:(assignEach es X.env).findIdx? (·.1)=none:=by rfl):QG X (.Tuple es k pos) (ml K n b):=by subst h;exact Ml d q c a
def ck {name:Str} {b a:Pos} {T id:String} {r:V->List V->Hp->VK->Prop} (h:X.K=K) (l:PlainAttrs T) (slot:Slot T name id) (f:typeOf (.builtin id)=pure (.type "method_descriptor")) (m:gw X id r) (k:QE X o to) (g:QA X (e::es) t)
 (c:attributeBase o name X.env (eval o X.env)=eval o X.env:=by rfl) (i:dj (e::es)=true:=by rfl) (j:decide ((e::es).length+0+0<30)=true:=by rfl)
 (d:(b.endLine == a.line)=true:=by rfl):QE X (.Call (.Attribute o name b) (e::es) [] a) (kt K T r to t):=by subst h;exact Mn l slot f m k g c i j d
def Du {name:Str} {b a:Pos} {T id:String} {r:V->List V->Hp->VK->Prop} (h:X.K=K) (g:PlainAttrs T) (slot:Slot T name id) (e:typeOf (.builtin id)=pure (.type "method_descriptor")) (i:gw X id r) (f:QE X o to)
 (c:attributeBase o name X.env (eval o X.env)=eval o X.env:=by rfl) (d:(b.endLine == a.line)=true:=by rfl):QE X (.Call (.Attribute o name b) [] [] a) (uI K T r to):=by subst h;exact Mm g slot e i f c d
end
def Fun.okQ{P:Program}{w:World}{K:W.Frag}{mg:Str->Option Value}{base:Heap}{x qual:Str}{st:Stmt}{f:Addr}{c:FuncData}{N ps:List Str}{k:Nat}{sp:Sp}(F:Fun K x qual st f c)(S:ax N ps (al st))(len:∀vs H Q E,sp vs H Q E->vs.length=ps.length)
 (b:∀(a:Value) (A:Around) (outer:List Env) (s:fv) (H:Hp) (vs:List V) (Q:VK) (E:XK),bH k (A.deeper (envOfC qual (al st) s.heap.objs.size f a))->sp vs H Q E ->
   ∃t,fw (gO bK P w K mg base N qual (al st) f a A outer s H E).nox (dD st) t/\t { nx:=λ_ d=>Q .non d,rt:=Q } (ir N vs) H):bo P w K mg base bK (k+1) f c ps sp :=
 F.ok S len λa A outer s H vs Q E e h=>let ⟨t,q,r⟩:=b a A outer s H vs Q E e h;⟨t,q.h,r⟩
section
variable {X:Cx}{pins:List (Addr × Obj)}{σ:St}{H:Hp}{s:fv}{h':Heap}
def ag.turnedL{t':Nat}{fp:List Addr}(I:ag X pins σ H s)(k:∀b o,b∉fp->s.heap.get? b=some o->h'.get? b=some o)(f:∀b∈fp,gT X pins H b):ag X pins σ H { s with heap:=h',toks:=t' }:=by
 have d:∀b u,H b=some u->b∉fp:=λb u e z=>by rw[(f b z).1]at e;cases e
 refine I.step (g':=s.gens) (d':=s.drawn) (ch:=fp) (λb hb=>?_) (λb o _ _ a e _=>k b o a e) (λb o _ _ a e _=>⟨o.slots,k b o a e⟩) (λ_ _ _ _ n=>n) (λb o a e=>⟨o,k b o a e⟩) (λ_ _ e=>e) (λ_ _ _ e=>e) (λb ps e=>⟨#[],by rw[e];simp⟩) (λm j=>?_) (λb u e=>?_) I.bare
 ·obtain⟨y,l,B,x,p,h⟩:=f b hb;exact⟨x,l,p,h⟩
 ·obtain⟨o,es,g,i,r⟩:=j;exact⟨o,es,g,k _ o (λz=>(f _ z).2.1 Z) i,r⟩
 ·refine (I.hok b u e).stay (λc v a q=>k c v ?_ q) (λ_ q=>q) λ_ _ q=>q;rcases a with z|z
  ·rw[z];exact d b u e
  ·exact d c _ z
def ag.turnedN{t':Nat}{fp:List Addr}{T:Addr}{d:HO}(I:ag X pins σ H s)(k:∀b o,b∉fp->s.heap.get? b=some o->h'.get? b=some o)(c:∀b∈fp,gT X pins H b)(hT:s.heap.objs.size<=T)
 (new:bt X.prog X.w (upd H T d) h' T d):ag X pins σ (upd H T d) { s with heap:=h',toks:=t' }:=by
 have g:ag X pins σ H { s with heap:=h',toks:=t' }:=I.turnedL k c;have f:H T=none:=I.hok.fresh hT;have ne:∀b u,H b=some u->b≠T:=λb u e z=>by rw[z,f]at e;cases e
 refine I.step (g':=s.gens) (d':=s.drawn) (ch:=fp) (λb hb=>?_) (λb o _ _ a e _=>k b o a e) (λb o _ _ a e _=>⟨o.slots,k b o a e⟩) (λb o _ e n=>?_) (λb o a e=>⟨o,k b o a e⟩) (λb xs e=>by rw[ap (ne b _ e)];exact e) (λb o u e=>by rw[ap (ne b _ e)];exact e) (λb ps e=>⟨#[],by rw[ap (ne b _ e),e];simp⟩) (λm l=>?_) (g.hok.adopt f new) I.bare
 ·obtain⟨x,p,y,v,q,i⟩:=c b hb;exact⟨v,p,q,i⟩
 ·rw[ap (λz=>ZR (WE (WD e) (by rw[z];exact hT)) (Xb _))];exact n
 ·obtain⟨o,es,h,j,r⟩:=l;exact⟨o,es,h,k _ o (λz=>(c _ z).2.1 Z) j,r⟩
end
def iF(K:W.Frag)(a:Addr):It :=
 ⟨λi H=>∃xs x,aE K H a xs/\xs[i]? = some x,λi H x b=>∃p v,x=.ref p/\(∀xs,aE K H a xs->xs[i]? = some v)/\bc H p (.tup [.int (i:Int),v]) b,λi H=>∃xs,aE K H a xs/\xs.length<=i⟩
def NH{P:Program}{w:World}{H:Hp}{h:Heap}{T:Addr}{b c:V}{a u2:Value}(hT:h.IsTuple T #[a,u2])(d:aP b a)(e:aP c u2):bt P w (upd H T (.tup [b,c])) h T (.tup [b,c]):=by
 refine⟨sz Z,[a,u2],.cons d (.cons e .nil),?_⟩;exact hT
def Je{P:Program}{w:World}{K:W.Frag}{es:List Expr}{kk:Nat}{pp:Pos}(a e it:Addr)(B:e≠it):lA P w K (.Tuple es kk pp) (iF K a) [e,it] e (λi h=>(∃f,IsEnum h e it i f)/\h.IsListIter it a i) where
 mem:=by simp
 obj:=λi h st b hb=>by
  obtain⟨⟨f,l⟩,o,e2,c,d⟩:=st;have n:b=e\/b=it:=by simpa using hb
  rcases n with z|z
  ·subst z;exact⟨_,l,λv z=>by cases (show Data.fields _=Data.cell v from z)⟩
  ·subst z;exact⟨o,e2,λv z=>by rw[d]at z;cases z⟩
 keep:=λi h h' st k=>by
  obtain⟨⟨f,l⟩,q⟩:=st
  exact⟨⟨f,k e (by simp) _ l⟩,q.at λo x=>k it (by simp) o x⟩
 item:=by
  intro X hP hw hK S i g s σ H E I G st O;subst hP hw hK;obtain⟨⟨f,l⟩,q⟩:=st;obtain⟨xs,x,hq,hx⟩:=O;obtain⟨M,R,p,hz⟩:=I.list hq;obtain⟨u,V,Y⟩:=R.get hx;have j:e<s.heap.objs.size:=WD l;have C:it<s.heap.objs.size:=by obtain⟨_,z,_⟩:=q;exact WD z
  refine wpAny_pyNext_enum_item l q p.isList (x:=u) (by simpa using V) B λh' ho r hT hsz U=>?_;refine⟨_,rfl,wpAny_letOwnedTupleGo_enum (s:={ s with heap:=h',toks:=s.toks+1 }) ho λD L m=>?_⟩;have hTe:s.heap.objs.size≠e:=X7 j;have hT2:D.get? s.heap.objs.size=some { cls:=.type "tuple",data:=.seq #[.int i s.toks,u] }:=(m.2 _ hTe).trans hT;have I2:ag X g σ (upd H s.heap.objs.size (.tup [.int (i:Int),x])) { s with heap:=D,toks:=s.toks+1 }:=by
   refine I.turnedN (fp:=[e,it]) (λb o hb J=>?_) G (WB _) (NH ⟨_,hT2,Z,_,Z⟩ ⟨_,Z⟩ Y);have F:b≠e:=λz=>hb (by simp[z]);have N:b≠it:=λz=>hb (by simp[z]);exact (m.2 b F).trans (U b o F N J)
  refine⟨.ref s.heap.objs.size,_,I2,rfl,⟨_,x,rfl,λys hy=>by rw[I.list_inj hy hq];exact hx,.mk' I.fresh⟩,⟨⟨_,by simpa using L⟩,r.at λo y=>(m.2 it B.symm).trans y⟩,λb hb=>?_⟩;have n:b=e\/b=it:=by simpa using hb
  rw[ap (by rcases n with z|z<;>(rw[z];first|exact WL j|exact WL C))];exact (G b hb).1
 done:=by
  intro X hP hw hK S i g s σ H E I G st O;subst hP hw hK;obtain⟨⟨f,l⟩,q⟩:=st;obtain⟨xs,hq,hx⟩:=O;obtain⟨M,R,p,hz⟩:=I.list hq;have hl:=R.length;refine wpAny_pyNext_enum_end (I.ok.hd S) l q p.isList (by simp;omega) λh' eb=>⟨rfl,I.turnedL (t':=s.toks) (fp:=[e,it]) (λb o hb J=>eb b o (λz=>hb (by simp[z])) J) G⟩
 self:=λ_ _ _ _ _ st h=>wpAny_pyIter_enum st.1.choose_spec h
def EU(K:W.Frag)(c:TA):TI:=λσ H R=>c σ H λvs b=>∃a xs,vs=[.ref a]/\aE K b a xs/\R (iF K a) b
section
variable {X:Cx}{tg:Expr}{es:List Expr}{kk:Nat}{pp:Pos}
def Nb {a:Expr} {m:TA} {p pos:Pos} (B:Gl X "enumerate") (y:X.mg "enumerate" = none) (n:PA X [a] m) (hs:starEach [a] X.env=[(false,eval a X.env)]:=by rfl):PI X (.Tuple es kk pp) (.Call (.Name "enumerate" p) [a] [] pos) (EU X.K m):=by
 intro c s σ H R I h;refine Call_ (jo I B y boot_enumerate (Xy (aw (n pos c s σ H _ I h) λus s1 ⟨vs,j,f,o,x⟩=>?_) hs Z));obtain⟨l,xs,e,hq,q⟩:=x;subst e;cases o with
 | cons r rr =>
  cases rr;cases r;obtain⟨C,D,pl,hz⟩:=f.list hq;refine call_enumerate_list pl.isList λh' k g hsz v=>?_;refine wpAny_pyIter_enum (s:={ s1 with heap:=h' }) k ?_;have u:ag X c σ j { s1 with heap:=h' }:=f.kept (t':=s1.toks) v;refine⟨s1.heap.objs.size+1,[s1.heap.objs.size+1,s1.heap.objs.size],_,iF X.K l,j,Z,u,Je l _ _ (Nat.succ_ne_self _),⟨⟨_,k⟩,g⟩,λb hb=>?_,q⟩;have i:b=s1.heap.objs.size+1\/b=s1.heap.objs.size:=by simpa using hb
  have d:s1.heap.objs.size<=b:=by
   rcases i with z|z
   ·rw[z];exact Xp _
   ·rw[z];exact WB _
  exact f.fpOk d (f.hok.fresh d)
end
def LE:typeLookup (.type "list_reverseiterator") "__len__" = pure none:=by rw[typeLookup_type,builtinLookup_eq_fast];kernel_rfl
def LF:typeLookup (.type "list_reverseiterator") "__length_hint__" = pure (some (.builtin "list_reverseiterator.__length_hint__")):=by rw[typeLookup_type,builtinLookup_eq_fast];kernel_rfl
section
variable {prog:Program}{w:World}{A:Around}{E:Value->fv->Prop}{s:fv}{r:Addr}
def LG {Q:Bool->fv->Prop} (hT:s.TypeIs (.ref r) "list_reverseiterator") (h:Q false s):wpAny (model prog w) A (Builtin.List.listLengthHint (.ref r)) Q E s:=by
 unfold Builtin.List.listLengthHint;refine kb (wpAny_specialOf hT LE ?_);show wpAny _ A (specialOf (Value.ref r) (Str.ofString "__length_hint__") >>= _) _ _ _;refine kb (wpAny_specialOf hT LF ?_);generalize hid:("list_reverseiterator.__length_hint__" : String)=id0
 wp_delta
 rw[show splitId id0=some ("list_reverseiterator", "__length_hint__") from by subst hid;decide +kernel];subst hid;refine kb (wpAny_isInstance (T := "list_reverseiterator") (b:=true) hT (by rw[isSubtype_type];kernel_rfl) ?_);refine wpAny_ite_split (λa=>ZR a (by decide)) (λ_=>?_);refine wpAny_ite_split (λ_=>?_) (λa=>ZR (by decide +kernel) a);refine wpAny_ite_split (λa=>ZR a (by decide +kernel)) (λ_=>?_);exact ZO h
def LH{R:Result->fv->Prop}{l:Addr}{items:Array Value}(D:A.handled=none)(S:Addr)(res:Value)(q:Nat)(p:l≠r)(hSr:S≠r)(hSl:S≠l)(d:s.heap.IsRevIter r l ((items.size:Int)-1))(z:s.heap.IsList l items)
 (hS:s.heap.get? S=some { cls:=.type "list",data:=.seq #[] q })
 (hR:∀h' tk a c',(∀b o,b≠S->b≠r->s.heap.get? b=some o->h'.get? b=some o)->h'.get? S=some { cls:=.type "list",dict:=none,data:=.seq a c',slots:=#[] }->ItemsOf (λi v=>items[items.size-1-i]? = some v) a items.size->R (.ok (.ret res)) { s with heap:=h',toks:=tk }) (y:items.size<=sizeLine) :
 wpAny (model prog w) A.in1 (Builtin.List.listExtendWith (.ref S) (.ref r) res)
  (λj g=>match j with|.done f=>R (.ok f) g|.again c'=>c'.quiet=true/\codeAny (model prog w) A c' R g) (λe g=>R (.error e) g) s:=by
 have W:=(Walks.listRev (prog:=prog) (w:=w) (A:=A.in1) D r l p items);have hSf:S∉[r,l]:=by simp[hSr,hSl]
 unfold Builtin.List.listExtendWith;refine kb (wpAny_typeOf (T := "list_reverseiterator") d.typeIs ?_);have C:Builtin.List.listSameRef (.ref S) (.ref r)=false:=by simp[Builtin.List.listSameRef,hSr]
 have x:(Value.type "list_reverseiterator" == Value.type "list")=false:=by decide
 have B:(Value.type "list_reverseiterator" == Value.type "tuple")=false:=by decide
 simp only [C,x,B,Bool.or_false,Yt,if_false];refine kb (wpAny_pyIter_revIter d ?_);refine kb (wpAny_holding (LG d.typeIs ?_));refine wpAny_ite_split (λn=>ZR n (by decide +kernel)) (λ_=>ZO ⟨plainId_quiet PySem.F.plain_extend_loop _,?_⟩);refine codeAny_extend_loopS W.toS y S hSf res items.size 0 _ #[] q rfl (WT _) ⟨WT _,by simpa using d,z⟩ hS (ItemsOf.nil _) λg a c' u m h=>?_;rw[Moved.eq_with u];refine hR g.heap g.toks a c' (λb o hb k e=>u.heap b o (λc=>?_) e) m h;rcases WU.mp c with e'|c
 ·exact hb e'
 ·exact k (WK.mp c)
def LJ{l:Addr}{items:Array Value}{Q:Value->fv->Prop}(q:A.handled=none)(h:l≠r)(d:s.heap.IsRevIter r l ((items.size:Int)-1))(k:s.heap.IsList l items)(n:items.size<=sizeLine)
 (hQ:∀h' j a c',(∀b o,b≠r->s.heap.get? b=some o->h'.get? b=some o)->h'.get? s.heap.objs.size=some { cls:=.type "list",dict:=none,data:=.seq a c',slots:=#[] }->ItemsOf (λi v=>items[items.size-1-i]? = some v) a items.size->Q (.ref s.heap.objs.size) { s with heap:=h',toks:=j }) :
 wpAny (model prog w) A (call (.type "list") [.ref r]) Q E s:=by
 refine callType_codes (Q₁:=λobj m=>obj=.ref s.heap.objs.size/\m = { s with heap:=s.heap.push { cls:=.type "list",data:=.seq #[] } }) PySem.F.called_list (PySem.F.typeCall_list_1 _) PySem.F.entry_list_init
  (code_list_new _ ⟨rfl,rfl⟩) λobj m u=>?_
 obtain⟨rfl,rfl⟩:=u;have hS:(s.heap.push { cls:=.type "list",data:=.seq #[] }).get? s.heap.objs.size=some { cls:=.type "list",data:=.seq #[] }:=W5 _ rfl;have lr:r<s.heap.objs.size:=by obtain⟨o,e,_⟩:=d;exact WD e
 have ll:l<s.heap.objs.size:=by obtain⟨o,e,_⟩:=k;exact WD e
 refine⟨⟨_,hS,Z⟩,PySem.F.args_list_init_2 _ _,?_⟩;show wpAny _ _ (do let old <- Builtin.List.listItems (.ref s.heap.objs.size);Builtin.List.listUpdate (.ref s.heap.objs.size) (λ_=>#[]);letGo old.toList.reverse;Builtin.List.listExtendWith (.ref s.heap.objs.size) (.ref r) .none) _ _ _;refine kb ?_;unfold Builtin.List.listItems;refine kb (wpAny_seqItems hS Z (ZO ?_));show wpAny _ _ (updateSeq s.heap.objs.size (λ_=>#[]) >>= λ_=>letGo (#[]:Array Value).toList.reverse >>= λ_=>Builtin.List.listExtendWith (.ref s.heap.objs.size) (.ref r) .none) _ _ _;refine kb (wpAny_updateSeq hS Z ?_);have hS₂:=XU (Obj.mapSeq (λ_=>(#[]:Array Value))) hS rfl;have c:∀b o,b≠s.heap.objs.size->s.heap.get? b=some o->((s.heap.push { cls:=.type "list",data:=.seq #[] }).update s.heap.objs.size (Obj.mapSeq (λ_=>(#[]:Array Value)))).get? b=some o :=
  λb o hb e=>(Xu _ _ (Ne.symm hb)).trans (WG _ e)
 refine kb (wpAny_letGo ?_);refine LH (A:=A.in1) q _ .none _ h (X7 lr) (X7 ll) (d.at λo e=>c r o (WL lr) e) (k.at λo e=>c l o (WL ll) e) hS₂ (λh' j a c' p g f=>?_) n;exact⟨rfl,hQ h' j a c' (λb o hb e=>p b o (WL (WD e)) hb (c b o (WL (WD e)) e)) g f⟩
end
def BY(K:W.Frag)(c:TA):TE:=λσ H Q=>c σ H λvs b=>∃a xs,vs=[.ref a]/\aE K b a xs/\∀p H',bc b p (.lst xs.reverse) H'->Q (.ref p) H'
def OA {X:Cx} {a:Expr} {G:TA} {V x pos f:Pos} (R:X.calm=true) (D:Gl X "list") (B:X.mg "list" = none) (C:Gl X "reversed") (y:X.mg "reversed" = none) (W:PA X [a] G) (hs:starEach [a] X.env=[(false,eval a X.env)]:=by rfl)
 (u:starEach [.Call (.Name "reversed" x) [a] [] f] X.env=[(false,eval (.Call (.Name "reversed" x) [a] [] f) X.env)]:=by rfl):PE X (.Call (.Name "list" V) [.Call (.Name "reversed" x) [a] [] f] [] pos) (BY X.K G):=by
 intro g s σ H Q I h;refine Call_ (jo I D B boot_list (Xy ?_ u Z));rw[u];refine Calls.spliced_cons (Call_ (jo I C y boot_reversed (Xy (aw (W f g s σ H _ I h) λus s1 ⟨vs,N,n,L,Y⟩=>?_) hs Z)));obtain⟨l,xs,e,hq,q⟩:=Y;subst e;cases L with
 | cons r F =>
  cases F;cases r;obtain⟨c,J,pl,hz⟩:=n.list hq;have m:=J.length;refine call_reversed_list pl.isList (Calls.spliced_nil ?_);have ll:l<s1.heap.objs.size:=by obtain⟨o,_,e,_⟩:=pl;exact WD e
  have O:ag X g σ N { s1 with heap:=s1.heap.push (revObj l ((c.toArray.size:Int)-1)) }:=n.kept (t':=s1.toks) λb o e=>WG _ e;refine LJ (s:={ s1 with heap:=s1.heap.push (revObj l ((c.toArray.size:Int)-1)) }) (items:=c.toArray) (I.ok.hd R) (WL ll) ⟨_,W5 _ rfl,rfl,rfl⟩ (pl.isList.at λo e=>WG _ e) (by rw[WH,<- m];exact hz) λh' tk d c' M hS j=>?_;have k:d.toList=c.reverse:=by
   refine List.ext_getElem? λi=>?_;have hn:d.size=c.length:=j.1.trans WH;have U:∀i v,d[i]? = some v->c.toArray[c.length-1-i]? = some v:=λi v e=>by
    have z:=j.2 i v e
    rwa [WH]at z
   by_cases hlt:i<c.length
   ·have p:i<d.size:=by omega
    have S:=U i d[i] (YW p);rw[Zq hlt,Zp,YW p,<- S];simp
   ·rw[XD (by rw[Yq];omega),XD (by rw[YO];omega)]
  have F:ay xs.reverse c.reverse:=J.reverse;refine⟨.ref _,_,?_,Z,q _ _ (.mk' O.fresh)⟩;refine n.turnedN (s:=s1) (fp:=[s1.heap.objs.size]) (t':=tk) (λb o hb e=>M b o (λz=>hb (by simp[z])) (WG _ e)) (λb hb=>?_) ?_ ⟨by rw[YO];exact hz,c.reverse,c',F,?_⟩
  ·have e:b=s1.heap.objs.size:=by simpa using hb
   subst e;exact n.fpOk (WB _) n.fresh
  ·exact WP (Xp _) (XH (Xz _ _).symm)
  ·have e:d=c.reverse.toArray:=by rw[<- k]
   rw[<- e];exact hS
def ul(lo c:Int)(n:Nat):It:=⟨λi _=>i<n,λi H x a=>a=H/\x=.int (lo+i*c),λi _=>n<=i⟩
def Jb{P:Program}{w:World}{K:W.Frag}{F:Expr}(it:Addr)(lo c:Int)(n:Nat):lA P w K F (ul lo c n) [it] it (λi h=>IsRangeIter h it (lo+(i:Nat)*c) ((n:Int)-(i:Nat)) c) where
 mem:=by simp
 obj:=λi h st b hb=>by
  have e:b=it:=by simpa using hb
  subst e;exact⟨_,st,λv z=>by
   have B:Data.fields _=Data.cell v:=z;cases B⟩
 keep:=λi h h' st k=>k it (by simp) _ st
 item:=by
  intro X hP hw hK j i a s σ H E I f st r;subst hP hw hK;obtain⟨l,m,D,q,p,g⟩:=f it (by simp);have W:=Walks.range (prog:=X.prog) (w:=X.w) (I.ok.hd j) it lo c n;refine W.item i s _ _ r st λv h' u C d x=>?_;obtain⟨t,rfl⟩:=C;have G:ag X a σ H { s with heap:=h',toks:=u }:=I.turned (λb o hb e=>x b o (by simpa using hb) e) l m q p g;exact⟨_,rfl,rT (s:={ s with heap:=h',toks:=u }) (n := "range_iterator") d rfl rfl (by decide) ⟨.int (lo+i*c),H,G,⟨t,rfl⟩,⟨rfl,rfl⟩,d,λb hb=>(f b hb).1⟩⟩
 done:=by
  intro X hP hw hK j i a s σ H E I f st r;subst hP hw hK;obtain⟨l,m,D,q,p,g⟩:=f it (by simp);exact wpAny_pyNext_range_end (I.ok.hd j) st (by have:n<=i:=r;omega) λh' y=>⟨rfl,I.turned (t':=s.toks) (λb o hb e=>y b o hb e) l m q p g⟩
 self:=λ_ _ _ _ _ st h=>wpAny_pyIter_rangeiter st h
def ER(b:TA):TI:=λσ H R=>b σ H λvs a=>∃(n c:Nat),vs=[.int 0,.int (n:Int),.int (c:Int)]/\n<=1000000000/\0<c/\c<=1000000/\R (ul 0 (c:Int) ((n+(c-1))/c)) a
def Kr{n c:Nat}(d:n<=1000000000)(g:0<c)(f:c<=1000000):Builtin.Range.rangeSize 0 (n:Int) (c:Int)=(((n+(c-1))/c:Nat):Int)/\Builtin.Range.small 0 (n:Int) (c:Int)=true:=by
 have e:Builtin.Range.rangeSize 0 (n:Int) (c:Int)=(((n+(c-1))/c:Nat):Int):=by
  rw[rangeSize_pos (by omega) (by omega)];rw[Int.natCast_ediv]
  congr 1
  omega
 refine⟨e,?_⟩;have b:(n+(c-1))/c<=n+(c-1):=YX _ _;have a:(((n+(c-1))/c:Nat):Int)*(c:Int)<=n+(c-1):=by
  have:=Nat.div_mul_le_self (n+(c-1)) c;rw[<- Int.natCast_mul];omega
 unfold Builtin.Range.small;rw[e];generalize (n+(c-1))/c=k at b a ⊢;simp only [Builtin.Range.rangeFitsLong,Xd,Bool.or_eq_true,decide_eq_true_eq,beq_iff_eq];refine⟨by omega,Or.inr ?_⟩;rw[ZQ (by omega)];simp only [Xd,decide_eq_true_eq];omega
section
variable {X:Cx}{tg:Expr}
def M7 {a b d:Expr} {m:TA} {p pos:Pos} (F:Gl X "range") (y:X.mg "range" = none) (u:PA X [a,b,d] m) (hs:starEach [a,b,d] X.env=(false,eval a X.env)::starEach [b,d] X.env:=by rfl) (j:(backTo pos (starEach [b,d] X.env)).any (·.1)=false:=by rfl) :
 PI X tg (.Call (.Name "range" p) [a,b,d] [] pos) (ER m):=by
 intro f s σ H R I h;refine Call_ (jo I F y boot_range (Xy (aw (u pos f s σ H _ I h) λus s1 ⟨vs,l,D,v,i⟩=>?_) hs j));obtain⟨n,c,e,i,z,x,q⟩:=i;subst e;cases v with
 | cons r rr =>
  cases rr with
  | cons r' rr =>
   cases rr with
   | cons r'' rr =>
    cases rr;obtain⟨t,rfl⟩:=r;obtain⟨t',rfl⟩:=r';obtain⟨k,rfl⟩:=r'';obtain⟨e,sm⟩:=Kr i z x;refine call_range_3 (by omega) ?_ (Or.inl (Zk (by omega)));refine wpAny_pyIter_range (IsRange.new ..) sm ?_;have g:ag X f σ l { s1 with heap:=s1.heap.push { cls:=.type "range",data:=.fields #[.int 0 t,.int n t',.int c k] },toks:=s1.toks }:=D.kept λb o e=>WG _ e;refine⟨_,[_],_,_,l,Z,g.kept (t':=s1.toks) λb o e=>WG _ e,Jb _ 0 (c:Int) ((n+(c-1))/c),?_,λb hb=>?_,q⟩
    ·show IsRangeIter _ _ (0+((0:Nat):Int)*_) ((((n+(c-1))/c:Nat):Int)-((0:Nat):Int)) _;have C:(0:Int)+((0:Nat):Int)*(c:Int)=0:=by simp
     have B:((((n+(c-1))/c:Nat):Int)-((0:Nat):Int))=Builtin.Range.rangeSize 0 (n:Int) (c:Int):=by rw[e];simp
     rw[C,B];exact W5 _ Z
    ·have e:=WK.mp hb;subst e;exact g.fpOk (WB _) (g.hok.fresh (WB _))
def jY{K:W.Frag}{a:Addr}{xs:List V}{g:TG}{tb:TS}{D:dZ}{σ:St}{H:Hp}(c:Nat->St->Hp->Prop)(l:c 0 σ H)(k:∀i σ H,i<=xs.length->c i σ H->aE K H a xs)
 (hs:∀i x p σ H b,xs[i]? = some x->c i σ H->bc H p (.tup [.int (i:Int),x]) b->g (.ref p) σ b λf d=>tb { D with nx:=c (i+1),ct:=c (i+1),bk:=D.nx } f d) (hd:∀σ H,c xs.length σ H->D.nx σ H) :
 ∃W:Nat->Nat->St->Hp->Prop,(∃m,W 0 m σ H)/\∀i m σ H,W i m σ H ->
  ((iF K a).stop i H/\D.nx σ H)\/((iF K a).go i H/\∃N:St->Hp->Prop,(∀h b,N h b->∃m',m'<m/\W (i+1) m' h b)/\∀x b,(iF K a).yld i H x b->g x σ b λf d=>tb { D with nx:=N,ct:=N,bk:=D.nx } f d):=by
 refine⟨λi m σ H=>m=xs.length-i/\i<=xs.length/\c i σ H,⟨xs.length,by simp,WT _,l⟩,?_⟩;rintro i m σ H ⟨rfl,j,p⟩;have q:=k i σ H j p;by_cases hlt:i<xs.length
 ·refine .inr ⟨⟨xs,xs[i],q,by simp[hlt]⟩,c (i+1),λh b n=>⟨xs.length-(i+1),by omega,rfl,hlt,n⟩,λx b y=>?_⟩;obtain⟨pp,v,rfl,y,o⟩:=y;exact hs i v pp σ H b (y xs q) p o
 ·have e:i=xs.length:=by omega
  subst e;exact .inl ⟨⟨xs,q,WB _⟩,hd σ H p⟩
end
def xR(K:W.Frag):List V->Hp->VK->Prop:=λxs H Q=>match xs with
 | [.ref p]=>∃ns:e7,aE K H p (ns.map V.int)/\Q (.int ns.sum) H
 | _=>False
theorem DC(ns:e7):∀k,k<=ns.length->preSum (λi=>(ns[i]?).getD 0) k=(ns.take k).sum
 | 0,_=>by simp[preSum]
 | k+1,h=>by
  have a:k<ns.length:=by omega
  rw[preSum,DC ns k (by omega),<- List.take_append_getElem a,List.sum_append];simp[W9 a]
def Th {X:Cx} (m:X.calm=true):cK X (.builtin "sum") (xR X.K):=by
 intro l s σ H xs us Q I r q;unfold xR at q
 split at q
 ·rename_i p;obtain⟨ns,hq,q⟩:=q;obtain⟨u,rfl,F⟩:=jG r;cases F;obtain⟨a,j,pl,_⟩:=I.list hq;have h:=j.length;rw[WA]at h;have c:p<s.heap.objs.size:=by
   obtain⟨o,n,e,_⟩:=pl;exact WD e
  have f:p≠s.heap.objs.size:=WL c;refine call_sum_walkG (wpAny_pyIter_list pl.isList ⟨s.heap.objs.size,_,_,_,_,_,λi=>(ns[i]?).getD 0,rfl,Walks.list (A:=X.A.in1) (show X.A.in1.handled=none from I.ok.hd m) s.heap.objs.size p f a.toArray,⟨⟨_,W5 _ rfl,rfl,rfl⟩,?_⟩,λb hb=>?_,λi v d=>?_,λh' B t' k=>?_⟩)
  ·exact pl.isList.at λo e=>WG _ e
  ·have g:b=s.heap.objs.size\/b=p:=by simpa using hb
   show b<(s.heap.push _).objs.size;rw[Xz];rcases g with z|z
   ·rw[z];exact WW _
   ·rw[z];exact YY c
  ·have G:i<a.length:=by
    have:=(Yu.mp d).1;simpa using this
   have hb:i<ns.length:=by omega
   obtain⟨u,y,C⟩:=j.get (i:=i) (x:=V.int ns[i]) (by simp[hb]);have e:a.toArray[i]? = some u:=by simpa using y
   rw[e]at d;cases d;obtain⟨t,rfl⟩:=C;exact⟨t,by simp[hb]⟩
  ·refine⟨.int ns.sum,H,I.kept (h':=h') (t':=B) λb o e=>k b o (λz=>?_) (WG _ e),⟨t',?_⟩,q⟩
   ·have D:b=s.heap.objs.size:=by simpa using z
    exact ZR (WD e) (by rw[D];exact Xb _)
   ·rw[WH,<- h,DC ns _ (WB _),WY]
 ·exact q.elim
def Wf(i j:Int):Prop:=0<=j/\(Builtin.Int.intBits i:Int)+j<=2 ^ 27
def FG{X:Cx}:aV X (binaryOp .LShift) (gI Wf λi j=>.int (i*2 ^ j.toNat)):=rZ (m9 λ_ _ _ _ _ _ _ a q=>lshift_int a.1 a.2 q)
def FR:V->List V->Hp->VK->Prop:=λx vs H Q=>match x,vs with
 | .int i,[]=>Q (.int (Builtin.Int.intBits i)) H
 | _,_=>False
def Oy {X:Cx}:gw X "int.bit_length" FR:=by
 intro a s σ H x vs v us Q I c b q;unfold FR at q
 split at q
 ·obtain⟨t,rfl⟩:=c;cases b;exact call_int_bit_length ⟨.int _,H,I.tok _,⟨_,Z⟩,q⟩
 ·exact q.elim
def S1{K:W.Frag}{a:Addr}{xs:List V}{cs:St}{o:TT}{u:TE}{H:Hp}{Q:VK}(f:Nat->List V->Hp->Prop)(F:f 0 [] H)(C:∀i ys H,i<=xs.length->f i ys H->aE K H a xs/\ys.length<=i)(hz:xs.length<=sizeLine)
 (hs:∀i x ys H c (N:List V->Hp->Prop),xs[i]? = some x->f i ys H->af H c->(∀d c,f (i+1) d c->N d c)->o (some (.int (i:Int))::some x::cs) c λb n=>if b=true then u (some (.int (i:Int))::some x::cs) n λy D=>N (ys++[y]) D else N ys n)
 (hd:∀ys H p c,f xs.length ys H->bc H p (.lst ys) c->Q (.ref p) c) :
 iG (iF K a) H (List.replicate 2 none++cs) (ml K 2 (jX (cO 0) (jX (cO 1) pv))) o u Q:=by
 refine⟨λi m ys σ H=>m=xs.length-i/\i<=xs.length/\f i ys H/\∃j h,σ=j::h::cs,⟨xs.length,by simp,WT _,F,none,none,rfl⟩,?_⟩;rintro i m ys σ k ⟨rfl,B,p,j,h,rfl⟩;obtain⟨q,G⟩:=C i ys k B p;by_cases hlt:i<xs.length
 ·refine .inr ⟨⟨xs,xs[i],q,by simp[hlt]⟩,by omega,λd s c=>f (i+1) d c/\∃j h,s=j::h::cs,λd s c ⟨l,e⟩=>⟨xs.length-(i+1),by omega,rfl,hlt,l,e⟩,λx c y=>?_⟩;obtain⟨pp,v,rfl,y,r⟩:=y;refine⟨pp,_,Z,r.tup,Z,_,_,Z,_,_,Z,Z,?_⟩;exact hs i v ys k c (λd c=>f (i+1) d c/\∃j h,some (V.int (i:Int))::some v::cs=j::h::cs) (y xs q) p r.sm λ_ _ z=>⟨z,_,_,Z⟩
 ·have e:i=xs.length:=by omega
  subst e;exact .inl ⟨⟨xs,q,WB _⟩,by omega,λl c g=>hd ys k l c p g⟩
section
variable {X:Cx}{K:W.Frag}{a b c e o:Expr}{es bv:List Expr}{pos p p2 pos2:Pos}{t:TA}{kk:Nat}
def Tf (h:X.K=K) (a:X.calm=true):cK X (.builtin "sum") (xR K):=by subst h;exact Th a
def Mp (h:X.K=K) (g:X.calm=true) (d:X.mg "list" = none) (b:X.mg "reversed" = none) (f:QA X [a] t) (e:Gl X "list":=by rfl) (c:Gl X "reversed":=by rfl) (hs:eG a=false:=by rfl) :
 QE X (.Call (.Name "list" p) [.Call (.Name "reversed" p2) [a] [] pos2] [] pos) (BY K t):=by subst h;exact⟨OA g e d c b f.h (cU hs) (cU Z)⟩
def gZ (h:X.K=K) (c:Gl X "enumerate") (d:X.mg "enumerate" = none) (b:QA X [a] t) (hs:eG a=false:=by rfl):QI X (.Tuple es kk p2) (.Call (.Name "enumerate" p) [a] [] pos) (EU K t):=by subst h;exact⟨Nb c d b.h (cU hs)⟩
def Mi {i:Expr} (j:Gl X "range") (g:X.mg "range" = none) (f:QA X [a,b,c] t) (hs:eG a=false:=by rfl) (d:eG b=false:=by rfl) (e:eG c=false:=by rfl):QI X i (.Call (.Name "range" p) [a,b,c] [] pos) (ER t) :=
 ⟨M7 j g f.h (cU hs) (by rw[cU d,cU e];rfl)⟩
end
def cW:e7->List Value->Bool
 | [],[]=>true
 | n::r,.int m _::u=>n == m && cW r u
 | _,_=>false
theorem cW.vals:∀ {ns:e7} {us:List Value},cW ns us=true->ay (ns.map V.int) us
 | [],[],_=>.nil
 | n::r,.int m _::u,h=>by
  have h':(n == m && cW r u)=true:=h;rw[Xd,beq_iff_eq]at h';obtain⟨rfl,a⟩:=h';exact .cons ⟨_,Z⟩ (cW.vals a)
def eh {K:W.Frag} {a:Addr} {d:Option Addr} {b:Array Value} {n:Nat} {e:Array (Option Value)} {ns:e7} (h:K.lookup a=some ⟨.type "tuple",d,.seq b n,e⟩) (c:cW ns b.toList=true) (hz:b.size<=1000:=by decide) (H:Hp):be K H a (ns.map V.int) :=
 .inr ⟨_,b,n,h,rfl,rfl,sz (Zr hz),cW.vals c⟩
def bc.after{H a b:Hp}{p:Addr}{o:HO}(s:af H a)(g:bc a p o b):bc H p o b:=⟨s.free g.nw,s.trans g.sm,g.at_⟩
def cg(b:Nat)(ps:e7):Int:=ps.foldl (λa p=>a*2 ^ b+p) 0
theorem uD(b:Nat):∀(ps:e7) (a:Int),ps.foldl (λa p=>a*2 ^ b+p) a=a*2 ^ (b*ps.length)+cg b ps
 | [],a=>by simp[cg]
 | p::r,a=>by
  unfold cg;rw[Yd,Yd,uD b r,uD b r,W0,YZ,Y0];generalize (2:Int) ^ (b*r.length)=X;generalize (2:Int) ^ b=Y;rw[Y1,Y1,Int.mul_assoc,Y2 Y X];omega
def BS(b:Nat)(ps a:e7):cg b (ps++a)=cg b ps*2 ^ (b*a.length)+cg b a:=by
 conv=>lhs;unfold cg
 rw[List.foldl_append,uD b a]
 rfl
def Jf(b:Nat)(ps:e7)(p:Int):cg b (ps++[p])=cg b ps*2 ^ b+p:=by
 rw[BS];simp[cg]
def qG(k:Nat):(0:Int)<2 ^ k:=Int.pow_pos (by decide)
def Jg{b:Nat}:∀ {ps:e7},(∀p∈ps,0<=p/\p<2 ^ b)->0<=cg b ps/\cg b ps<2 ^ (b*ps.length):=by
 intro ps h
 induction ps with
 | nil=>simp[cg]
 | cons p r ih =>
  have c:=h p (.head _);have d:=ih λq hq=>h q (.tail _ hq);have e:cg b (p::r)=p*2 ^ (b*r.length)+cg b r:=by
   have:=BS b [p] r;simpa [cg] using this
  rw[e,W0,YZ,Y0];have a:=qG (b*r.length);generalize (2:Int) ^ (b*r.length)=X at *;generalize (2:Int) ^ b=Y at *;have g:0<=p*X:=Int.mul_nonneg c.1 (Yg a);have f:p*X+X<=X*Y:=by
   have:(p+1)*X<=Y*X:=Int.mul_le_mul_of_nonneg_right (by omega) (Yg a);rw[Y1,Int.one_mul]at this;rw[Y2 X Y];exact this
  omega
def fB(b a:Nat)(n:Int):e7:=(List.range a).map λi=>n/2 ^ (b*(a-1-i))%2 ^ b
def MV(b a:Nat)(n:Int):(fB b a n).length=a:=by simp[fB]
def MU(b a:Nat)(n:Int):((List.range a).map λi=>n/2 ^ (b*i)%2 ^ b).reverse=fB b a n:=by
 refine List.ext_getElem? λi=>?_;by_cases h:i<a
 ·rw[Zq (by simpa using h)];simp[fB,h,show a-1-i<a by omega]
 ·rw[XD (by simp;omega),XD (by simp[fB];omega)]
def SH(n:Int)(b j:Nat):n/2 ^ (b*j)/2 ^ b=n/2 ^ (b*(j+1)):=by
 rw[Int.ediv_ediv_of_nonneg (Yg (qG _)),<- Y0,YZ]
def Ot(x:Int)(b:Nat):x-x/2 ^ b*2 ^ b=x%2 ^ b:=by
 rw[Int.emod_def,Y2]
abbrev aW(r:e7):Prop:=∀p∈r,0<=p/\p<256
def dO{α:Type}{a:List α}{i:Nat}{y:α}(h:a[i]? = some y):a.take (i+1)=a.take i++[y]:=by rw[Yx,h];rfl
def QM{α β:Type}{xs:List α}{a:List β}{i:Nat}{x:α}(b:a.length=xs.length)(h:xs[i]? = some x):∃y,a[i]? = some y:=by
 have:=(WF.mp h).1;exact⟨a[i]'(by omega),by simp⟩
def qc{K:W.Frag}{a:Addr}{xs:List V}{cs:St}{f:TE}{H:Hp}{Q:VK}(d:List V)(e:d.length=xs.length)(hq:aE K H a xs)(hz:xs.length<=sizeLine)
 (hs:∀(i:Nat) x y b (N:VK),xs[i]? = some x->d[i]? = some y->af H b->(∀c,af b c->N y c)->f (some x::cs) b N) (hd:∀p b,bc H p (.lst d) b->Q (.ref p) b) :
 iG (il K a) H (List.replicate 1 none++cs) (cO 0) jH f Q:=by
 refine j5 (λi ys b=>af H b/\ys=d.take i) ⟨af.refl _,rfl⟩ (λi ys b k z=>⟨z.1.seq hq,by rw[z.2,WO];omega⟩) hz (λi x ys b N hx z hN=>?_) λys b p c z g=>?_
 ·obtain⟨s,rfl⟩:=z;obtain⟨y,h⟩:=QM e hx;simp only [jH,if_true];exact hs i x y b _ hx h s λc j=>hN _ _ ⟨s.trans j,by rw[dO h]⟩
 ·obtain⟨s,rfl⟩:=z;rw[<- e,WY]at g;exact hd p c (g.after s)
def SX{lo:Int}{n:Nat}{cs:St}{e:TE}{H:Hp}{Q:VK}(c:List V)(h:c.length=n)(hz:n<=sizeLine)
 (hs:∀(i:Nat) y a (N:VK),i<n->c[i]? = some y->af H a->(∀b,af a b->N y b)->e (some (.int (lo+(i:Int)))::cs) a N) (hd:∀p a,bc H p (.lst c) a->Q (.ref p) a) :
 iG (ik lo n) H (List.replicate 1 none++cs) (cO 0) jH e Q:=by
 refine SZ (λi ys a=>af H a/\ys=c.take i) ⟨af.refl _,rfl⟩ (λi ys a d z=>by rw[z.2,WO];omega) hz (λi ys a N d z hN=>?_) λys a p b z g=>?_
 ·obtain⟨s,rfl⟩:=z;have f:c[i]? = some (c[i]'(by omega)):=by simp
  simp only [jH,if_true];exact hs i (c[i]'(by omega)) a _ d f s λb j=>hN _ _ ⟨s.trans j,by rw[dO f]⟩
 ·obtain⟨s,rfl⟩:=z;rw[<- h,WY]at g;exact hd p b (g.after s)
def fK{ns:e7}{i:Nat}{x:V}(h:(ns.map V.int)[i]? = some x):∃p,ns[i]? = some p/\x=.int p:=by
 rw[WJ]at h;cases e:ns[i]? with
 | none=>rw[e]at h;cases h
 | some p=>rw[e]at h;cases h;exact⟨p,Z,Z⟩
def SU{α:Type}(xs:List α)(lo a:Option Int):(gn xs lo a).length<=xs.length:=by
 unfold gn;rw[WO,Xr];omega
def SS{α:Type}{xs:List α}{lo a:Option Int}{x:α}(h:x∈gn xs lo a):x∈xs:=Y3 (XV h)
def fV{t u:TS}{D:dZ}{σ:St}{H:Hp}(M:St->Hp->Prop)(b:∀nx:St->Hp->Prop,(∀σ' H',M σ' H'->nx σ' H')->t { D with nx:=nx } σ H)(a:∀σ' H',M σ' H'->u D σ' H'):mM t u D σ H:=b (u D) a
structure bB (P:Program) (w:World) (K:W.Frag) (mg:Str->Option Value) (base:Heap) (C:Addr) (m:Str) (k:Nat) (f:Addr) (fd:FuncData) (ps:List Str) (sp:Sp):Prop where
 c:Cls K C
 mt:Meth K C m f
 b:aq K fd ps []
 ok:bo P w K mg base bK k f fd ps sp
structure Wo (P:Program) (w:World) (K:W.Frag) (mg:Str->Option Value) (base:Heap) (x:Str) (C:Addr) (k:Nat) (f:Addr) (fd:FuncData) (ps:List Str) (sp:Sp):Prop where
 g:mg x=some (.ref C)
 mkx:Mk K C f
 b:aq K fd ps []
 ok:bo P w K mg base bK k f fd ps sp
section
variable {X:Cx}{K:W.Frag}{k j:Nat}{f C:Addr}{fd:FuncData}{ps:List Str}{sp:Sp}{x m:Str}{p pos apos pos':Pos}{e o value:Expr}{es:List Expr}{ta tv:TE}{t:TA}
def ro{X:Cx}:kg bK X E0:=λ_ _ _ _ _ _ _ z=>z.elim
def cN{pl:Sem Bool}(F:bB X.prog X.w X.K X.mg X.base C m j f fd ps sp)(l:bH k X.A)(i:QE X o ta)(d:QA X (e::es) t)(hj:j<=k:=by decide)(a:dj (e::es)=true:=by rfl)
 (g:eval (.Call (.Attribute o m apos) (e::es) [] pos) X.env=(do
   let ov <- eval o X.env
   standAt apos.atName
   let (f,first) <- holding [ov] (getMethod ov m pl)
   callWith pos f first (backTo pos (starEach (e::es) X.env)) (backToKw pos (keywordEach [] X.env))):=by rfl) :
 QE X (.Call (.Attribute o m apos) (e::es) [] pos) (fS C m sp [] E0 ta t) :=
 ⟨DG (pl:=pl) i.h F.c F.mt F.ok (l.mono hj) F.b .nil ro d.h (cU (c9 a).1) (hU (c9 a).2) g⟩
def cF{pl:Sem Bool}(F:bB X.prog X.w X.K X.mg X.base C m j f fd ps sp)(a:bH k X.A)(e:QE X o ta)(hj:j<=k:=by decide)
 (d:eval (.Call (.Attribute o m apos) [] [] pos) X.env=(do
   let ov <- eval o X.env
   standAt apos.atName
   let (f,first) <- holding [ov] (getMethod ov m pl)
   callWith pos f first (backTo pos (starEach [] X.env)) (backToKw pos (keywordEach [] X.env))):=by rfl) :
 QE X (.Call (.Attribute o m apos) [] [] pos) (fS C m sp [] E0 ta ff) :=
 ⟨Nn (pl:=pl) e.h F.c F.mt F.ok (a.mono hj) F.b .nil ro d⟩
def aJ{f:Str}(h:X.K=K)(a:QE X e ta)(hb:attributeBase e f X.env (eval e X.env)=eval e X.env:=by rfl):QE X (.Attribute e f pos) (kr K ta f):=by subst h;exact⟨Nr a.h hb⟩
def c8{f:Str}(h:X.K=K)(a:QE X o ta)(b:QE X value tv)(hs:swapsWith value (some (.Attribute o f pos')) pos.line X.env=pure false:=by rfl):QS X (.Assign [.Attribute o f pos'] value pos) (Dc K ta tv f):=by subst h;exact⟨MQ a.h b.h hs⟩
end
structure Mk0 (K:W.Frag) (C:Addr):Prop where
 makes:W.makesIn K C=true
 init:W.findIn K (.ref C) "__init__" = some (some (.builtin "object.__init__"))
 kp:W.keepIn K (.ref C)=true
def B5(C:Addr):TE:=λ_ H Q=>∀x dx,H x=none->H dx=none->dx≠x->Q (.ref x) (upd (upd H dx (.own x)) x (.ins C dx []))
section
variable {X:Cx}{C:Addr}{x:Str}{p pos:Pos}
def LL{c:List (Addr × Obj)}{σ:St}{H:Hp}{s:fv}{Q:VK}(M:Mk0 X.K C)(I:ag X c σ H s)(h:B5 C σ H Q) :
 wpAny (model X.prog X.w) X.A (call (.ref C) []) (EP X c σ Q) X.xe s:=by
 have hq:=h (s.heap.objs.size+1) s.heap.objs.size (I.hok.fresh (Xp _)) (I.hok.fresh (WB _)) (WL (WW _));have i:=ag.made (C:=C) I;have Y:=W.makes_of (M:=model X.prog X.w) I.kIn M.makes;refine wpAny_call (OK I.kIn M.makes M.init (λself=>W.Looks.of_pure (W.oi_bind self)) ?_);obtain⟨a,g,d,t,os⟩:=s;have j:((a.push W.emptyDict).push (W.instObj C a.objs.size)).get? (a.objs.size+1)=some (W.instObj C a.objs.size):=by
  have:=W5 (a.push W.emptyDict) (o:=W.instObj C a.objs.size) rfl
  rwa [Xz]at this
 have k:W.Looks (model X.prog X.w) ((a.push W.emptyDict).push (W.instObj C a.objs.size)) (typeOf (.ref (a.objs.size+1))) (.ref C):=(W.Looks.ld j).andThen .now;have f:W.Looks (model X.prog X.w) ((a.push W.emptyDict).push (W.instObj C a.objs.size)) (isInstance (.ref (a.objs.size+1)) (.type "object")) true :=
  k.andThen (Y.top.keeps λb o e=>WG _ (WG _ e))
 refine codeAny_call_builtin W.oi_plain W.entry_oi (@W.check_slot (model X.prog X.w) _ _ _ "object.__init__" "object" "__init__" (.ref (a.objs.size+1)) [] [] _ W.oi_kind W.oi_split f (W.oi_args (.ref (a.objs.size+1))) ?_);rw[W.oi_run];exact ZO (And.intro Z ⟨V.ref (a.objs.size+1),_,i,Z,hq⟩)
def Dw(M:Mk0 X.K C)(d:X.mg x=some (.ref C))(c:Gl X x:=by rfl)(a:(x == ("__debug__" : Str))=false:=by decide):QE X (.Call (.Name x p) [] [] pos) (B5 C):=⟨by
 intro b s σ H Q I h;refine wpAny_Call_Name_kw (kN I c d ?_ a);exact W.callWith_K0 I.kIn M.kp (LL M I h)⟩
end
structure FunD (K:W.Frag) (x qual:Str) (st:Stmt) (f:Addr) (fd:FuncData) (vs:List Value):Prop where
 ex:∃(oc:Value) (od:Option Addr) (kV doc pm:Value) (an:Option Addr) (cdv ct:Value) (osl:Array (Option Value)) (d:Addr) (dc:Value) (dd:Option Addr) (n:Nat) (dsl:Array (Option Value)),
  fd=W.fnOf x qual (eK st) (dD st) (al st) (.ref d) kV doc pm an cdv ct/\K.lookup f=some ⟨oc,od,.func fd,osl⟩/\W.codeIn K cdv qual=true/\K.lookup d=some ⟨dc,dd,.seq vs.toArray n,dsl⟩
 kp:W.keepIn K (.ref f)=true
section
variable {P:Program}{w:World}{K:W.Frag}{mg:Str->Option Value}{base:Heap}{x qual:Str}{st:Stmt}{f:Addr}{fd:FuncData}{N ps:List Str}{k:Nat}{sp:Sp}{vs:List Value}
def FunD.okQ(F:FunD K x qual st f fd vs)(S:ax N ps (al st))(len:∀vs H Q E,sp vs H Q E->vs.length=ps.length)
 (b:∀(a:Value) (A:Around) (outer:List Env) (s:fv) (H:Hp) (vs:List V) (Q:VK) (E:XK),bH k (A.deeper (envOfC qual (al st) s.heap.objs.size f a))->sp vs H Q E ->
   ∃t,fw (gO bK P w K mg base N qual (al st) f a A outer s H E).nox (dD st) t/\t { nx:=λ_ i=>Q .non i,rt:=Q } (ir N vs) H):bo P w K mg base bK (k+1) f fd ps sp:=by
 obtain⟨y,v,kV,m,z,u,a,ct,l,d,r,p,n,g,rfl,j,c,_⟩:=F.ex;refine xY j c S len λA outer s H vs Q E o e=>?_;obtain⟨t,h,q⟩:=b a A outer s H vs Q E o e;exact⟨t,h.h.nox,q⟩
def funD_mk{p m:Value}{o h j:Option Addr}{e g:Array (Option Value)}{kV b i a ct:Value}{d:Addr}{n:Nat}(l:K.lookup f=some ⟨p,o,.func (W.fnOf x qual (eK st) (dD st) (al st) (.ref d) kV b i h a ct),e⟩)
 (c:W.codeIn K a qual=true) (k:W.keepIn K (.ref f)=true) (ld:K.lookup d=some ⟨m,j,.seq vs.toArray n,g⟩):FunD K x qual st f (W.fnOf x qual (eK st) (dD st) (al st) (.ref d) kV b i h a ct) vs :=
 ⟨⟨p,o,kV,b,i,h,a,ct,e,d,m,j,n,g,rfl,l,c,ld⟩,k⟩
def FunD.binds{c:List Value}(F:FunD K x qual st f fd vs)
 (h:∀(d:Addr) (kV b i:Value) (g:Option Addr) (a ct:Value) (us:List Value),(us++c).length=ps.length->∃e:Option (Array Value)->Sem (List (Str × Value)),
   bindArgs (W.fnOf x qual (eK st) (dD st) (al st) (.ref d) kV b i g a ct) ⟨us,[]⟩=seqItems? (.ref d) >>= e/\e (some vs.toArray)=pure (ps.zip (us++c))):aq K fd ps c:=by
 obtain⟨z,y,kV,b,i,g,a,ct,q,d,v,u,n,o,rfl,r,k,ld⟩:=F.ex;intro s us m l;obtain⟨e,p,j⟩:=h d kV b i g a ct us l;exact BindsTo.of_defaults (T:=d) Z (m _ _ ld) Z p j
end
structure eV (P:Program) (w:World) (K:W.Frag) (mg:Str->Option Value) (base:Heap) (C:Addr) (m:Str) (k:Nat) (f:Addr) (fd:FuncData) (ps:List Str) (dvs:List V) (sp:Sp):Prop where
 c:Cls K C
 mt:Meth K C m f
 b:∃ds,aq K fd ps ds/\ay dvs ds
 ok:bo P w K mg base bK k f fd ps sp
section
variable {X:Cx}{k j:Nat}{f C:Addr}{fd:FuncData}{ps:List Str}{sp:Sp}{m:Str}{pos apos:Pos}{e o:Expr}{es:List Expr}{ta:TE}{t:TA}{dvs:List V}
def cE{pl:Sem Bool}(F:eV X.prog X.w X.K X.mg X.base C m j f fd ps dvs sp)(l:bH k X.A)(i:QE X o ta)(d:QA X (e::es) t)(hj:j<=k:=by decide)(a:dj (e::es)=true:=by rfl)
 (g:eval (.Call (.Attribute o m apos) (e::es) [] pos) X.env=(do
   let ov <- eval o X.env
   standAt apos.atName
   let (f,first) <- holding [ov] (getMethod ov m pl)
   callWith pos f first (backTo pos (starEach (e::es) X.env)) (backToKw pos (keywordEach [] X.env))):=by rfl) :
 QE X (.Call (.Attribute o m apos) (e::es) [] pos) (fS C m sp dvs E0 ta t):=by
 obtain⟨n,hb,hd⟩:=F.b;exact⟨DG (pl:=pl) i.h F.c F.mt F.ok (l.mono hj) hb hd ro d.h (cU (c9 a).1) (hU (c9 a).2) g⟩
end
def vI:Value->Option Int
 | .int k _=>some k
 | _=>none
def vR:Value->Option Addr
 | .ref a=>some a
 | _=>none
def Iz{v:Value}{k:Int}(h:vI v=some k):∃t,v=.int k t:=by
 cases v<;>cases h;exact⟨_,Z⟩
def Iy{v:Value}{a:Addr}(h:vR v=some a):v=.ref a:=by
 cases v<;>cases h
 rfl
def lg:List DictEntry->Option (List (Int × Addr))
 | []=>some []
 | e::r=>(vI e.key).bind λk=>(vR e.val).bind λa=>if e.hash == hashInt k then (lg r).bind λl=>some ((k,a)::l) else none
theorem lg.pairs{P:Program}{w:World}:∀ {es:List DictEntry} {m:List (Int × Addr)},lg es=some m ->
 (∀e∈es,∃k,(cz P w).is k e.key=true/\e.hash=(cz P w).hash k)/\Pairs (cz P w) es (m.map λp=>((Sum.inl p.1:aQ),Value.ref p.2))
 | [],m,h=>by cases h;exact⟨λ_ z=>(nomatch z),.nil⟩
 | e::r,m,h=>by
  obtain⟨k,d,h⟩:=Yh.mp h;obtain⟨a,b,h⟩:=Yh.mp h;obtain⟨i,d⟩:=Iz d;have b:=Iy b;by_cases c:e.hash == hashInt k
  ·rw[ZQ c]at h;obtain⟨l,q,h⟩:=Yh.mp h;cases h;obtain⟨g,j⟩:=lg.pairs (P:=P) (w:=w) q;have f:(cz P w).is (.inl k) e.key=true:=by rw[d];exact D7 P w k i
   refine⟨λx hx=>?_,.cons f b j⟩;cases hx with
   | head=>exact⟨.inl k,f,eq_of_beq c⟩
   | tail _ z=>exact g x z
  ·rw[ZP c]at h;cases h
structure ur (K:W.Frag) (a:Addr) (m:List (Int × Addr)):Prop where
 ex:∃es ep,K.lookup a=some ⟨.type "dict",none,.dict es ep,#[]⟩/\lg es.toList=some m
 nd:(m.map (·.1)).Nodup
 ns:(a == sysModules)=false
def ur.rd{K:W.Frag}{a:Addr}{m:List (Int × Addr)}{P:Program}{w:World}{h:Heap}(D:ur K a m)(X:K.In h):h.DictOf (cz P w) a (m.map λp=>((Sum.inl p.1:aQ),Value.ref p.2)):=by
 obtain⟨es,d,l,e⟩:=D.ex;obtain⟨g,f⟩:=lg.pairs (P:=P) (w:=w) e;refine⟨_,es,d,X _ _ l,⟨rfl,rfl,rfl⟩,rfl,λe c=>g e (Zt.mpr c),f,?_⟩;rw[XE];have:(((λx=>x.1) ∘ λp:Int × Addr=>((Sum.inl p.1:aQ),Value.ref p.2)):Int × Addr->aQ)=(λi:Int=>(Sum.inl i:aQ)) ∘ (·.1):=rfl;rw[this,<- XE];exact List.Pairwise.map _ (λa b (z:a≠b) (q:(Sum.inl a:aQ)=Sum.inl b)=>z (Sum.inl.inj q)) D.nd
def o9(m:List (Int × Addr))(i:Int):Option V:=(m.find? λp=>decide (p.1=i)).map λp=>V.ref p.2
theorem Fz:∀(m:List (Int × Addr)) (i:Int) (z:V) (r:Value),aP z r->aP ((o9 m i).getD z) ((valueAt (m.map λp=>((Sum.inl p.1:aQ),Value.ref p.2)) (Sum.inl i)).getD r)
 | [],i,z,r,h=>h
 | p::m,i,z,r,h=>by
  have ih:=Fz m i z r h;unfold o9 valueAt at ih ⊢;rw[W7,Xf,Xf];by_cases c:p.1=i
  ·have c':(Sum.inl p.1:aQ)=Sum.inl i:=congrArg _ c;simp only [ZT c,ZT c',XM,Option.getD_some]
   rfl
  ·have c':¬(Sum.inl p.1:aQ)=Sum.inl i:=λq=>c (Sum.inl.inj q);simp only [ZU c,ZU c'];exact ih
def B9(m:List (Int × Addr))(ty a:TE):TE:=λσ H Q=>ty σ H λy c=>a σ c λz b=>∃i,y=.int i/\Q ((o9 m i).getD z) b
section
variable {X:Cx}{K:W.Frag}{a:Addr}{m:List (Int × Addr)}{e f:Expr}{x:Str}{p apos cpos:Pos}{ty tx:TE}
def Mt (h:X.K=K) (D:ur K a m) (V:Gl X x) (U:X.mg x=some (.ref a)) (M:QE X e ty) (B:QE X f tx) (hd:(x == ("__debug__" : Str))=false:=by decide)
 (g:attributeBase (.Name x p) "get" X.env (eval (.Name x p) X.env)=eval (.Name x p) X.env:=by rfl)
 (j:((backTo cpos (starEach [e,f] X.env)).all (λx=>!x.1) && (backToKw cpos (keywordEach [] X.env)).all (λx=>x.1.isSome)
   && decide (([e,f]:List Expr).length+([]:List Keyword).length+(if ([]:List Keyword).isEmpty then 0 else 1)<30))=true:=by rfl)
 (d:(apos.endLine == cpos.line)=true:=by rfl) (l:backTo cpos (starEach [e,f] X.env)=[(false,eval e X.env),(false,eval f X.env)]:=by rfl) :
 QE X (.Call (.Attribute (.Name x p) "get" apos) [e,f] [] cpos) (B9 m ty tx):=⟨by
 subst h;intro c s σ H Q I h;have ho:PE X (.Name x p) (tC (.ref a)):=(iP (v:=.ref a) V U rfl hd).h;refine wpAny_Call_method g j d Zn Yb Zo (aw (ho c s σ H (λv C=>v=.ref a/\B9 m ty tx σ C Q) I ⟨rfl,h⟩) λu s1 ⟨x,N,n,rx,ex,q1⟩=>?_);subst ex;obtain rfl:u=Value.ref a:=rx;have d1:=D.rd (P:=X.prog) (w:=X.w) n.kIn;refine⟨d1.typeIs,λb q=>?_,?_⟩
 ·cases q;obtain⟨L,_,_,h1,Y,_⟩:=d1;exact⟨L,h1,Y.2.1⟩
 rw[l];refine Calls.callWith_builtin Z (Calls.evalArgs_plain (Calls.spliced_cons (aw (M.h c s1 σ N _ n q1) λiv W ⟨y,H2,O,ry,G⟩ =>
  Calls.spliced_cons (aw (B.h c W σ H2 _ O G) λr s3 ⟨z,H3,o,J,i,S,R⟩=>Calls.spliced_nil ?_))))
 subst S;have d3:=D.rd (P:=X.prog) (w:=X.w) o.kIn;exact call_meetsIn Yb d3.typeIs YM (PySem.F.args_dict_get_3 _ _ _) (meets_dict_get_default (cz X.prog X.w) a (jq (k:=.inl i) ry) D.ns r) ⟨_,d3.mapOf,_,_,o.tok _,Fz m i z r J,R⟩⟩
end
def jm{o:Obj}{vs:Array Value}(hd:o.data=.fields vs)(f:Array Value->Array Value):o.mapFields f = { o with data:=.fields (f vs) }:=by
 obtain⟨c,d,a,b⟩:=o;obtain rfl:a=.fields vs:=hd
 rfl
structure cS (h:Heap) (e C:Addr) (od:Option Addr) (tb:Value) (oe:Obj) (vs:Array Value) (q:Option Addr:=none):Prop where
 at_:h.get? e=some oe
 cls:oe.cls=.ref C
 dict:oe.dict=od
 data:oe.data=.fields vs
 size:vs.size=6
 tb1:vs[1]? = some tb
 cx:vs[2]? = some (q.elim .none .ref)
def j9(h:Heap)(e T:Addr)(a:Value):Prop:=∃oT ts,h.get? T=some oT/\oT.data=.fields ts/\ts[3]? = some a/\T≠e
section
variable {M:Model}{A:Around}{E:Value->fv->Prop}{s:fv}
structure mI (l:List Env) (e C T':Addr) (od:Option Addr) (tb fl:Value) (h h':Heap) (q:Option Addr:=none):Prop where
 keep:∀b o,h.get? b=some o->b≠e->.ref b≠tb->b∉cJ l->h'.get? b=some o
 slot:∀b o,h.get? b=some o->b∈cJ l->∃sl,h'.get? b=some { o with slots:=sl }
 there:∀b o,h.get? b=some o->∃o',h'.get? b=some o'
 new:h.objs.size<=T'
 size:h.objs.size<=h'.objs.size
 exc:∃oe vs,cS h' e C od (.ref T') oe vs q
 ent:j9 h' e T' fl
def DZ{base:Heap}{env:Env}{outer:List Env}{L e C:Addr}{p:Option Addr}{h:Obj}{vs:Array Value}{hd tb:Value}{nx:Bool}{q:Option Addr}{Q:Unit->fv->Prop}
 (hA:A.frames=some (env::outer)) (hF:s.heap.FunFrames base (env::outer)) (hL:env.frame=some L) (x:cS s.heap e C p tb h vs q)
 (k:∀h' T',mI (env::outer) e C T' p .none (rawInt L) s.heap h' q->Q () { s with heap:=h' }) :
 wpAny M A (do let a <- frameOf env;let pl <- entryPlaceOf L nx;let b <- EntryCells.newEntry hd a .none (rawInt L) .none pl;setField (.ref e) 1 b) Q E s:=by
 have ne:e∉cJ (env::outer):=λm=>by
  obtain⟨_,o,j,v⟩:=hF.mem m;rw[x.at_]at j;cases j;exact v vs x.data
 refine kb (wpAny_frameOf_fun hA hF hL λc y=>kb (wpAny_entryPlaceOf λpl i=>?_));unfold EntryCells.newEntry newFields;refine kb (wpAny_newObj_type ?_ (i.sizeOk5 _ _ _ _ _));have g:c.get? e=some h:=(y.2.1 e ne).trans x.at_;obtain⟨N,hN⟩:∃N:Obj,N = { cls:=.type "traceback",dict:=none,data:=.fields ([hd,.ref L,.none,rawInt L,.none]++(if pl.isEmpty then List.replicate 6 Value.none else pl)).toArray }:=⟨_,rfl⟩;rw[<- hN];have f:=WG N g;have nT:c.objs.size≠e:=X7 (WD g);refine wpAny_setField f x.data (by rw[x.size];decide) (k _ c.objs.size ?_);have d:=XU (Obj.mapFields (·.setIfInBounds 1 (Value.ref c.objs.size))) f (by rw[jm x.data];rfl);rw[jm x.data]at d;have tN:N.data=.fields ([hd,.ref L,.none,rawInt L,.none]++(if pl.isEmpty then List.replicate 6 Value.none else pl)).toArray:=by rw[hN]
 have r:=(Xu (c.push N) (Obj.mapFields (·.setIfInBounds 1 (Value.ref c.objs.size))) (Ne.symm nT)).trans (W5 c (o:=N) (by rw[hN];rfl));have kp:∀b o,b≠e->c.get? b=some o->((c.push N).update e (Obj.mapFields (·.setIfInBounds 1 (Value.ref c.objs.size)))).get? b=some o:=λb o n q=>by
  rw[Xu _ _ (Ne.symm n)];exact WG _ q
 have sz:s.heap.objs.size=c.objs.size:=y.1.symm;refine⟨λb o q u _ B=>kp b o u ((y.2.1 b B).trans q),λb o q m=>?_,λb o q=>?_,XH sz,by rw[Yy,Xz,sz];exact Xp _,⟨_,_,d,x.cls,x.dict,Z,?_,?_,?_⟩,⟨N,_,r,tN,?_,nT⟩⟩
 ·obtain⟨l,hs⟩:=y.2.2 b o q;exact⟨l,kp b _ (λz=>ne (z ▸ m)) hs⟩
 ·by_cases n:b=e
  ·subst n;exact⟨_,d⟩
  ·obtain⟨l,hs⟩:=y.2.2 b o q;exact⟨_,kp b _ n hs⟩
 ·rw[Array.size_setIfInBounds];exact x.size
 ·have:1<vs.size:=by rw[x.size];decide
  simp[this]
 ·rw[Array.getElem?_setIfInBounds_ne (by decide)];exact x.cx
 ·rcases i with rfl|⟨_,_,_,_,_,_,_,rfl⟩<;>simp
def ud(h:Heap)(e:Addr)(tb:Value):Prop:=tb=.none\/∃T,tb=.ref T/\j9 h e T .none
def DX{base:Heap}{env:Env}{outer:List Env}{L e C:Addr}{g:Option Addr}{h:Obj}{vs:Array Value}{tb:Value}{q:Option Addr}{Q:Unit->fv->Prop}
 (hA:A.frames=some (env::outer)) (hF:s.heap.FunFrames base (env::outer)) (hL:env.frame=some L) (x:cS s.heap e C g tb h vs q) (i:ud s.heap e tb)
 (k:∀h' c,mI (env::outer) e C c g tb (rawInt L) s.heap h' q->Q () { s with heap:=h' }):wpAny M A (noteFrame (.ref e) env) Q E s:=by
 unfold noteFrame;simp only [hL];refine kb (wpAny_field x.at_ x.data x.tb1 ?_);rcases i with rfl|⟨T,rfl,oT,ts,hT,dT,fT,nT⟩
 ·rw[ZP (by decide)];exact DZ hA hF hL x k
 ·rw[ZQ (show (Value.ref T != Value.none)=true by simp)];refine kb (wpAny_field hT dT fT ?_);rw[ZP (show ¬(Value.none == rawInt L)=true by simp[rawInt])];refine kb (wpAny_setField hT dT (Yu.mp fT).1 ?_);have a:∀b,b≠T->(s.heap.update T (Obj.mapFields (·.setIfInBounds 3 Value.none))).get? b=s.heap.get? b:=λb n=>Xu _ _ (Ne.symm n);have self:=XU (Obj.mapFields (·.setIfInBounds 3 Value.none)) hT (by rw[jm dT];rfl);have nF:T∉cJ (env::outer):=λm=>by
   obtain⟨_,o,f,d⟩:=hF.mem m;rw[hT]at f;cases f;exact d ts dT
  refine DZ (base:=base) hA (hF.of_keeps λb o q d=>⟨o,(a b λz=>?_).trans q,rfl⟩) hL ⟨(a e (Ne.symm nT)).trans x.at_,x.cls,x.dict,x.data,x.size,x.tb1,x.cx⟩ λh' c N=>k h' c ⟨λb o q l p j=>?_,λb o q m=>?_,λb o q=>?_,by have:=N.new;rwa [Yy]at this,by have:=N.size;rwa [Yy]at this,N.exc,N.ent⟩
  ·subst z;rw[hT]at q;cases q;exact d ts dT
  ·exact N.keep b o ((a b λz=>p (by rw[z])).trans q) l (by simp) j
  ·exact N.slot b o ((a b λz=>nF (z ▸ m)).trans q) m
  ·by_cases n:b=T
   ·subst n;exact N.there _ _ self
   ·exact N.there b o ((a b n).trans q)
def EA{e C T:Addr}{d:Option Addr}{c:Obj}{vs:Array Value}{g:Value}{q:Option Addr}{Q:Unit->fv->Prop}(x:cS s.heap e C d (.ref T) c vs q)(t:j9 s.heap e T g)
 (k:∀h',h'.objs.size=s.heap.objs.size->(∀b o,s.heap.get? b=some o->b≠T->h'.get? b=some o)->(∀b o,s.heap.get? b=some o->∃o',h'.get? b=some o')->cS h' e C d (.ref T) c vs q->j9 h' e T .none->Q () { s with heap:=h' }):wpAny M A (setFlight (.ref e) none) Q E s:=by
 obtain⟨oT,h,hT,dT,fT,nT⟩:=t;unfold setFlight;refine kb (wpAny_field x.at_ x.data x.tb1 ?_);rw[ZQ (show (Value.ref T != Value.none)=true by simp)];have z3:=(Yu.mp fT).1;have a:∀b,b≠T->(s.heap.update T (Obj.mapFields (·.setIfInBounds 3 ((none:Option Addr).elim Value.none λf=>rawInt f)))).get? b=s.heap.get? b:=λb n=>Xu _ _ (Ne.symm n);have self:=XU (Obj.mapFields (·.setIfInBounds 3 ((none:Option Addr).elim Value.none λf=>rawInt f))) hT (by rw[jm dT];rfl);refine wpAny_setField hT dT z3 (k _ (Yy ..) (λb o q n=>(a b n).trans q) (λb o q=>?_) ⟨(a e (Ne.symm nT)).trans x.at_,x.cls,x.dict,x.data,x.size,x.tb1,x.cx⟩ ⟨_,_,self,by rw[jm dT],by simp[z3],nT⟩);by_cases n:b=T
 ·subst n;exact⟨_,self⟩
 ·exact⟨o,(a b n).trans q⟩
def OX{base:Heap}{env:Env}{outer:List Env}{L e C:Addr}{f:Option Addr}{u:Obj}{vs:Array Value}{tb:Value}{q:Option Addr}{Q:Unit->fv->Prop}
 (hA:A.frames=some (env::outer)) (hF:s.heap.FunFrames base (env::outer)) (hL:env.frame=some L) (x:cS s.heap e C f tb u vs q) (g:ud s.heap e tb)
 (k:∀h' T',mI (env::outer) e C T' f tb .none s.heap h' q->Q () { s with heap:=h' }):wpAny M A (leaving env (.ref e)) Q E s:=by
 unfold leaving;refine kb (DX hA hF hL x g λF d a=>?_);obtain⟨i,B,r⟩:=a.exc;have c:∀b o,s.heap.get? b=some o->b≠d:=λb o q=>WL (WE (WD q) a.new);refine EA r a.ent λp sz k2 l n y=>k p d ⟨λb o q h z D=>?_,λb o q m=>?_,λb o q=>?_,a.new,by rw[sz];exact a.size,⟨_,_,n⟩,y⟩
 ·exact k2 b o (a.keep b o q h z D) (c b o q)
 ·obtain⟨v,hs⟩:=a.slot b o q m;exact⟨v,k2 b _ hs (c b o q)⟩
 ·obtain⟨j,hs⟩:=a.there b o q;exact l b j hs
end
def xφ(e C:Addr)(a:Option Addr)(q:Option Addr):Heap->Prop:=λh=>∃tb oe vs,cS h e C a tb oe vs q
def xν(e C:Addr)(a:Option Addr):Heap->Prop:=λh=>∃oe vs,cS h e C a .none oe vs
def XO(e C:Addr)(a:Option Addr)(q:Option Addr:=none):HO:=.ext (xφ e C a q)
def XN(e C:Addr)(a:Option Addr):HO:=.ext (xν e C a)
def cS.keeps{h h':Heap}{e C:Addr}{b:Option Addr}{tb:Value}{a:Obj}{vs:Array Value}{q:Option Addr}(x:cS h e C b tb a vs q)(k:∀o,h.get? e=some o->h'.get? e=some o):cS h' e C b tb a vs q:=⟨k _ x.at_,x.cls,x.dict,x.data,x.size,x.tb1,x.cx⟩
section
variable {P:Program}{w:World}{H:Hp}{h:Heap}{e C:Addr}{od:Option Addr}
def BG{tb:Value}{a:Obj}{vs:Array Value}{q:Option Addr}(x:cS h e C od tb a vs q):bt P w H h e (XO e C od q) :=
 ⟨⟨tb,a,vs,x⟩,⟨a,x.at_⟩,λ_ _ ⟨tb,a,vs,y⟩ k=>⟨tb,a,vs,y.keeps k⟩⟩
def uu{a:Obj}{vs:Array Value}(x:cS h e C od .none a vs):bt P w H h e (XN e C od) :=
 ⟨⟨a,vs,x⟩,⟨a,x.at_⟩,λ_ _ ⟨a,vs,y⟩ k=>⟨a,vs,y.keeps k⟩⟩
end
def iH(P:Program)(w:World):gU:=λouter H s E v a=>∃(e C T:Addr) (c:Option Addr) (q:Option Addr) (b:Hp) (d:Obj) (vs:Array Value),v=.ref e/\a.os=s.os/\AllBare a.gens /\
 Un (cJ outer) [] H b s.heap a.heap/\bC P w b a.heap/\b e=some (XO e C c q)/\s.heap.get? e=none/\s.heap.objs.size<=T/\s.heap.objs.size<=a.heap.objs.size/\b T=none /\
 cS a.heap e C c (.ref T) d vs q/\j9 a.heap e T .none/\E (.ref C) (some e) b
def bt.there{P:Program}{w:World}{H:Hp}{h:Heap}{a:Addr}{o:HO}(x:bt P w H h a o):∃u,h.get? a=some u:=by
 cases o with
 | lst xs=>obtain⟨_,_,_,_,e⟩:=x;exact⟨_,e⟩
 | tup xs=>obtain⟨_,_,_,b,e,_⟩:=x;exact⟨_,e⟩
 | dK kvs=>obtain⟨_,_,_,_,b,_,_,e,_⟩:=x;exact⟨_,e⟩
 | dT kvs=>obtain⟨_,_,_,_,b,_,_,e,_⟩:=x;exact⟨_,e⟩
 | set S n=>obtain⟨b,_,_,_,e,_⟩:=x;exact⟨_,e⟩
 | ins C dx fs=>obtain⟨_,_,_,e,_⟩:=x;exact⟨_,e⟩
 | own y=>exact x
 | xd fs=>obtain⟨_,⟨_,_,_,e,_⟩,_⟩:=x;exact⟨_,e⟩
 | rng lo hi=>obtain⟨_,_,_,e⟩:=x;exact⟨_,e⟩
 | frz b u=>obtain⟨e,_⟩:=x;exact⟨_,e⟩
 | tbl ps=>exact⟨_,show h.get? a=some _ from x⟩
 | met f y=>exact⟨_,show h.get? a=some _ from x⟩
 | ext φ=>exact x.2.1
def uo(X:Cx)(a:List (Addr × Obj))(Es:St->XK)(v:Value)(c:fv):Prop:=∃(σ:St) (b:Hp) (e C:Addr) (d:Option Addr) (q:Option Addr) (tb:Value) (f:Obj) (vs:Array Value),v=.ref e/\ag X a σ b c /\
 b e=some (XO e C d q)/\cS c.heap e C d tb f vs q/\ud c.heap e tb/\(∀T,tb=.ref T->b T=none/\X.s₀.heap.objs.size<=T/\∀p∈X.pn++a,p.1≠T)/\(X.ex=[]->X.s₀.heap.get? e=none)/\Es σ (.ref C) (some e) b
structure lE (X:Cx) (Es:St->XK):Prop where
 up:∀pins v s',uo X pins Es v s'->X.xe v s'
section
variable {X:Cx}{pins:List (Addr × Obj)}{σ:St}{H:Hp}{s s':fv}{Es:St->XK}{v:Value}
def ag.newx{e:Addr}(I:ag X pins σ H s)(hx:X.ex=[])(a:s.heap.get? e=none):X.s₀.heap.get? e=none:=by
 cases q:X.s₀.heap.get? e with
 | none=>rfl
 | some o =>
  obtain⟨b,z⟩:=I.base.there e o q (by rw[hx];simp);rw[a]at z;cases z
def Si(I:ag X pins σ H s)(h:iH X.prog X.w X.stack H s (Es σ) v s'):uo X pins Es v s':=by
 obtain⟨e,C,T,k,g,i,d,vs,rfl,f,l,un,hok,hx,c,hT,hz,nT,x,tb,q⟩:=h;refine⟨σ,i,e,C,k,g,.ref T,d,vs,rfl,I.call' (ch:=[]) f un hok l (λb z=>ZR z (by simp)),hx,x,.inr ⟨T,rfl,tb⟩,λm z=>?_,λa=>I.newx a c,q⟩;cases z;refine⟨nT,WP I.sz hT,λp j z=>?_⟩;exact ZR (WE (WD (I.pin p j).1) hT) (by rw[z];exact Xb _)
def ag.old_x{e C:Addr}{a:Option Addr}(I:ag X pins σ H s)(hx:H e=some (XN e C a)):ag X pins σ (upd H e (XO e C a)) s:=by
 obtain⟨⟨c,vs,x⟩,_⟩:=I.hok e _ hx;have q:=ag.write (t':=s.toks) (e:=e) (h':=s.heap) (o:=XO e C a) I (by rw[hx];trivial) (.inl rfl) (λb u _ z=>z) ⟨_,x.at_⟩ (BG x);exact q
def Sh{e C:Addr}{a:Option Addr}(I:ag X pins σ H s)(hx:H e=some (XN e C a))(c:X.ex=[]->X.s₀.heap.get? e=none)(q:Es σ (.ref C) (some e) (upd H e (XO e C a))):uo X pins Es (.ref e) s:=by
 obtain⟨⟨b,vs,x⟩,_⟩:=I.hok e _ hx;exact⟨σ,_,e,C,a,none,.none,b,vs,rfl,I.old_x hx,aF,x,.inl rfl,λT z=>(by cases z),c,q⟩
def mI.hok{P:Program}{w:World}{l:List Env}{e C i:Addr}{g:Option Addr}{tb k:Value}{h h':Heap}{f:Option Addr}(N:mI l e C i g tb k h h' f)(ok:bC P w H h)(hx:H e=some (XO e C g f))(r:∀T,tb=.ref T->H T=none)
 (p:∀b∈cJ l,H b=none):bC P w H h':=λb o q=>by
 have kp:∀c u d,H c=some u->c≠e->h.get? c=some d->h'.get? c=some d:=λc u d z n y=>N.keep c d y n (λj=>by rw[r c j.symm]at z;cases z) λm=>by rw[p c m]at z;cases z
 by_cases n:b=e
 ·subst n;rw[hx]at q;cases q;obtain⟨s,vs,x⟩:=N.exc;exact BG x
 ·refine (ok b o q).stay (λc u a y=>?_) (λ_ z=>z) λ_ _ z=>z;rcases a with rfl|a
  ·exact kp c o u q n y
  ·refine kp c _ u a (λz=>?_) y;rw[z,hx]at a;cases a
end
def OV{P:Program}{w:World}{K:W.Frag}{mg:Str->Option Value}{base:Heap}{Ns:List Str}{qual:Str}{scope:Scope}{f:Addr}{c:Value}{A:Around}{outer:List Env}{s:fv}{H:Hp}{E:XK} :
 lE (gO (iH P w) P w K mg base Ns qual scope f c A outer s H E) (λ_=>E):=⟨by
 rintro l v O ⟨σ,g,e,C,D,J,tb,R,vs,rfl,I,hx,x,r,hT,k,q⟩;refine OX (base:=base) I.ok.frames I.stack Z x r λM a N=>?_;have L:s.heap.objs.size<=(gO (iH P w) P w K mg base Ns qual scope f c A outer s H E).env.locals:=I.ok.above;have B:∀b o,s.heap.get? b=some o->b∉cJ outer->b∉cJ (gO (iH P w) P w K mg base Ns qual scope f c A outer s H E).stack:=λb o z n m=>by
  rcases WU.mp (I.stkSub b m) with y|y
  ·exact ZR (WE (WD z) L) (by rw[y];exact Xb _)
  ·exact n y
 have nx:∀b:Addr,b∉([]:List Addr):=λb z=>by cases z
 have ne:∀b o,s.heap.get? b=some o->b≠e:=λb o z y=>by
  have:=k rfl;rw[<- y]at this;have z2:(gO (iH P w) P w K mg base Ns qual scope f c A outer s H E).s₀.heap.get? b=some o:=z;rw[this]at z2;cases z2
 have p:∀b o,s.heap.get? b=some o->Value.ref b≠tb:=λb o z y=>ZR (WE (WD z) (hT b y.symm).2.1) (Xb _);obtain⟨i,d,F⟩:=N.exc;have h:g a=none:=by
  cases z:g a with
  | none=>rfl
  | some o =>
   obtain⟨u,y⟩:=bt.there (I.hok a o z);exact ZR (WE (WD y) N.new) (Xb _)
 refine⟨e,C,a,D,J,g,i,d,Z,I.os,I.bare,⟨λb o z n m _=>?_,λb o z n m _=>?_,λb o z n _=>?_,λb o z _=>?_,I.base.tups,I.base.frzs,I.base.tbls⟩,
  N.hok I.hok hx (λT z=>(hT T z).1) I.stkFree,hx,k rfl,WP I.sz N.new,WP I.sz N.size,h,F,N.ent,q⟩
 ·exact N.keep b o (I.base.keep b o z n m (nx b)) (ne b o z) (p b o z) (B b o z m)
 ·obtain⟨S,y⟩:=I.base.slot b o z n m (nx b);obtain⟨j,G⟩:=N.slot b _ y (by show b∈cJ (_::outer);unfold cJ;rw[Yn];exact W4 _ m);exact⟨j,G⟩
 ·exact I.base.free b o z n (nx b)
 ·obtain⟨o1,y⟩:=I.base.there b o z (nx b);exact N.there b o1 y⟩
section
variable {P:Program}{w:World}{K:W.Frag}{mg:Str->Option Value}{base:Heap}{x qual:Str}{st:Stmt}{f:Addr}{fd:FuncData}{N ps:List Str}{k:Nat}{sp:Sp}{ds:List Value}
def Fun.okX(F:Fun K x qual st f fd)(S:ax N ps (al st))(len:∀vs H Q E,sp vs H Q E->vs.length=ps.length)
 (b:∀(a:Value) (A:Around) (outer:List Env) (s:fv) (H:Hp) (vs:List V) (Q:VK) (E:XK),bH k (A.deeper (envOfC qual (al st) s.heap.objs.size f a))->sp vs H Q E ->
   ∃t,fw (gO (iH P w) P w K mg base N qual (al st) f a A outer s H E) (dD st) t/\t { nx:=λ_ e=>Q .non e,rt:=Q } (ir N vs) H):bo P w K mg base (iH P w) (k+1) f fd ps sp:=by
 obtain⟨o,n,kV,j,p,m,a,ct,i,rfl,g,c⟩:=F.ex;exact xY g c S len λA outer s H vs Q E l d=>let ⟨t,h,q⟩:=b a A outer s H vs Q E l d;⟨t,h.h,q⟩
end
structure GZ (P:Program) (w:World) (K:W.Frag) (mg:Str->Option Value) (base:Heap) (x:Str) (k:Nat) (f:Addr) (fd:FuncData) (ps:List Str) (dvs:List V) (sp:Sp):Prop where
 g:mg x=some (.ref f)
 kp:W.keepIn K (.ref f)=true
 b:∃ds,aq K fd ps ds/\ay dvs ds
 ok:bo P w K mg base (iH P w) k f fd ps sp
structure Wl (P:Program) (w:World) (K:W.Frag) (mg:Str->Option Value) (base:Heap) (C:Addr) (m:Str) (k:Nat) (f:Addr) (fd:FuncData) (ps:List Str) (dvs:List V) (sp:Sp):Prop where
 c:Cls K C
 mt:Meth K C m f
 b:∃ds,aq K fd ps ds/\ay dvs ds
 ok:bo P w K mg base (iH P w) k f fd ps sp
structure Wn (P:Program) (w:World) (K:W.Frag) (mg:Str->Option Value) (base:Heap) (x:Str) (C:Addr) (k:Nat) (f:Addr) (fd:FuncData) (ps:List Str) (dvs:List V) (sp:Sp):Prop where
 g:mg x=some (.ref C)
 mkx:Mk K C f
 b:∃ds,aq K fd ps ds/\ay dvs ds
 ok:bo P w K mg base (iH P w) k f fd ps sp
def Jp(sp:Sp)(a:List V)(Es:St->XK)(t:TA):TE:=λσ H Q=>t σ H λvs b=>sp (vs++a) b Q (Es σ)
section
variable {X:Cx}{k j:Nat}{f C:Addr}{fd:FuncData}{ps:List Str}{sp:Sp}{x m:Str}{p pos apos:Pos}{e o:Expr}{es:List Expr}{ta:TE}{t:TA}{dvs:List V}{ds:List Value}{Es:St->XK}
def LK{a:List (Addr × Obj)}{σ:St}{H:Hp}{s:fv}{Q:VK}{us:List Value}{vs:List V}(F:bo X.prog X.w X.K X.mg X.base (iH X.prog X.w) k f fd ps sp)(c:bH k X.A)(hb:aq X.K fd ps ds)(hd:ay dvs ds)(hx:lE X Es)
 (I:ag X a σ H s) (r:ay vs us) (h:sp (vs++dvs) H Q (Es σ)):wpAny (model X.prog X.w) X.A (call (.ref f) us) (EP X a σ Q) X.xe s:=by
 have b:ay (vs++dvs) (us++ds):=r.append hd;refine wpAny_call (codeAny_mono (F.run X.A X.stack s H ⟨us,[]⟩ (us++ds) (vs++dvs) Q (Es σ) c I.env0 (hb s us I.kIn (by rw[<- b.length];exact F.len _ _ _ _ h)) b h) λr d hq=>?_);cases r with
 | error e=>exact hx.up _ _ _ (Si I hq)
 | ok fl =>
  cases fl with
  | ret u=>exact I.after hq
  | next=>exact hq.elim
  | brk=>exact hq.elim
  | cont=>exact hq.elim
def Mu(F:GZ X.prog X.w X.K X.mg X.base x j f fd ps dvs sp)(m:bH k X.A)(hx:lE X Es)(l:QA X (e::es) t)(hj:j<=k:=by decide)(n:Gl X x:=by rfl)
 (c:(x == ("__debug__" : Str))=false:=by decide) (d:dj (e::es)=true:=by rfl):QE X (.Call (.Name x p) (e::es) [] pos) (Jp sp dvs Es t):=⟨by
 intro a s σ H Q I h;obtain⟨o,hb,hd⟩:=F.b;refine wpAny_Call_Name_kw (kN I n F.g ?_ c);refine W.callWith_K (h₀:=X.base) I.ok.mod.kin F.kp (aw (l.h pos a s σ H _ I h) λus s1 ⟨vs,u,i,r,q⟩=>⟨i.kIn,?_⟩) (cU (c9 d).1) (hU (c9 d).2);exact LK F.ok (m.mono hj) hb hd hx i r q⟩
end
section
variable {X:Cx}{pins:List (Addr × Obj)}{σ:St}{H:Hp}{s:fv}{h':Heap}
def ag.adopt{e:Addr}{o:HO}{t':Nat}(I:ag X pins σ H s)(k:∀b u,s.heap.get? b=some u->h'.get? b=some u)(d:s.heap.get? e=none)(new:bt X.prog X.w (upd H e o) h' e o):ag X pins σ (upd H e o) { s with heap:=h',toks:=t' }:=by
 have a:H e=none:=by
  cases q:H e with
  | none=>rfl
  | some u=>obtain⟨z,y⟩:=bt.there (I.hok e u q);rw[d]at y;cases y
 have ne:∀b u,s.heap.get? b=some u->b≠e:=λb u q z=>by rw[z,d]at q;cases q
 refine I.un ⟨λb u q _ _ _=>k b u q,λb u q _ _ _=>⟨u.slots,k b u q⟩,λb u q n _=>by rw[ap (ne b u q)];exact n,λb u q _=>⟨u,k b u q⟩,λb xs q=>by rw[ap (aB q a)];exact q,λb u xs q=>by rw[ap (aB q a)];exact q,λb ps q=>⟨#[],by rw[ap (aB q a),q];simp⟩⟩ λb u q=>?_;by_cases hb:b=e
 ·subst hb;rw[aF]at q;cases q;exact new
 ·rw[ap hb]at q;exact (I.hok b u q).stay (λc v _ z=>k c v z) (λc z=>by rw[ap (aB z a)];exact z) λc xs z=>by rw[ap (aB z a)];exact z
end
abbrev jx:List Value:=[.type "ValueError",.type "Exception",.type "BaseException",.type "object"]
section
variable {X:Cx}{pins:List (Addr × Obj)}{σ:St}{H:Hp}{s:fv}{h':Heap}
def qE{M:Model}{A:Around}{E:Value->fv->Prop}{j:Nat}{n:Str}{pos:Pos}{Q:Unit->fv->Prop}(I:ag X pins σ H s)(hN:X.N.Nodup)(hj:X.N[j]? = some n)(l:X.env.scope.names.lookup n=some .local)
 (k:∀s',ag X pins (σ.set j none) H s'->Q () s'):wpAny M A (do bindName X.env n .none;unbindBehindTheSuite X.env n pos) Q E s:=by
 have h:j<σ.length:=by rw[I.len];exact (WF.mp hj).1
 refine kb (wpAny_bindName (qM (v:=.non) I hN hj (.inl l) Z (λs1 a=>?_) (.inr l)));have L:X.env.kindOf n=some .local:=l;have R:(X.env.scope.kind == .class || (X.env.scope.kind == .module && X.env.locals != X.env.globals))=false:=by rw[I.ok.kind];rfl
 obtain⟨m,D,G⟩:=id a.loc;obtain⟨u,_,look⟩:=G j n .non hj (by rw[Yo h]) (.inl l);have V:m n=some u:=by
  rcases look with z|⟨z,_⟩
  ·exact z.2
  ·rcases z with z|z<;>(rw[L]at z;cases z)
 unfold unbindBehindTheSuite;refine wpAny_onRaise ?_;unfold unbindName;refine kb (wpAny_point (kb ?_));unfold deleteName;simp only [L,R];rw[ZP (by decide)];refine kb (wpAny_nsDel_keeps D λh2 v B sb=>?_);rw[V];simp only [Option.isSome_some,if_true,Bool.not_true,Yt,if_false];refine ZO (wpAny_point (k _ ?_));obtain⟨oL,_,_,hoL,_⟩:=id D;have f:∀b o,X.s₀.heap.get? b=some o->b≠X.env.locals:=λb o e=>WL (WE (WD e) I.ok.above);refine⟨a.ok,a.os,a.bare,⟨λb o e g hb hx=>(sb.2 b (f b o e)).trans (a.base.keep b o e g hb hx),λb o e g hb hx=>?_,a.base.free,λb o e hx=>?_,a.base.tups,a.base.frzs,a.base.tbls⟩,⟨_,B,λi y w J x Y=>?_⟩,λy c e=>?_,a.free,a.freeC,λp C=>?_,λb S e=>?_,?_⟩
 ·obtain⟨sl,z⟩:=a.base.slot b o e g hb hx;exact⟨sl,(sb.2 b (f b o e)).trans z⟩
 ·obtain⟨U,z⟩:=a.base.there b o e hx;exact⟨U,(sb.2 b (f b o e)).trans z⟩
 ·by_cases c:i=j
  ·subst c;rw[Yo h]at x;cases x
  ·rw[Yp (Ne.symm c)]at x;obtain⟨u',O,q⟩:=G i y w J (by rw[Yp (Ne.symm c)];exact x) Y;refine⟨u',O,?_⟩;rcases q with ⟨z1,z2⟩|⟨z1,cc,z2,z3⟩
   ·refine .inl ⟨z1,?_⟩;have:y≠n:=λz=>c (xm hN J (z ▸ hj));simp[this,z2]
   ·exact .inr ⟨z1,cc,z2,z3.sameBut sb (a.cne y cc z2)⟩
 ·obtain⟨F,z⟩:=a.cell y c e;exact⟨F,z.sameBut sb (a.cne y c e)⟩
 ·obtain⟨e,g,ne,W,d⟩:=a.pin p C;exact⟨(sb.2 p.1 ne).trans e,g,ne,W,d⟩
 ·refine (a.hok b S e).stay (λc F r q=>(sb.2 c ?_).trans q) (λ_ q=>q) λ_ _ q=>q;rintro rfl;rcases r with rfl|r
  ·rw[a.free]at e;cases e
  ·rw[a.free]at r;cases r
 ·rw[List.length_set];exact I.len
abbrev Cx.tryc(X:Cx)(pn:List (Addr × Obj))(W:Value->fv->Prop):Cx:={ X with pn:=pn,xe:=W }
abbrev Cx.hand(X:Cx)(e:Addr)(W:Value->fv->Prop):Cx:={ X with A:=X.A.mark (some (.ref e)),calm:=false,xe:=W }
def Cx.Ok.tryc{pn:List (Addr × Obj)}{W:Value->fv->Prop}(ok:X.Ok):(X.tryc pn W).Ok :=
 ⟨ok.mod,ok.kind,ok.glob,ok.blt,ok.above,ok.inj,ok.has,ok.cab,ok.hd,ok.frames,ok.stk,ok.exf,ok.bs,ok.bsz,ok.noex,ok.exfs,ok.funs,ok.frf⟩
def Cx.Ok.untry{pn:List (Addr × Obj)}{W:Value->fv->Prop}(ok:(X.tryc pn W).Ok):X.Ok :=
 ⟨ok.mod,ok.kind,ok.glob,ok.blt,ok.above,ok.inj,ok.has,ok.cab,ok.hd,ok.frames,ok.stk,ok.exf,ok.bs,ok.bsz,ok.noex,ok.exfs,ok.funs,ok.frf⟩
def ag.tryc{W:Value->fv->Prop}(I:ag X pins σ H s):ag (X.tryc (X.pn++pins) W) [] σ H s :=
 ⟨I.ok.tryc,I.os,I.bare,I.base,I.loc,I.cell,I.free,I.freeC,λp a=>I.pin p (by simpa using a),I.hok,I.len⟩
def ag.untry{W:Value->fv->Prop}{a:List (Addr × Obj)}(I:ag (X.tryc (X.pn++pins) W) a σ H s):ag X pins σ H s :=
 ⟨I.ok.untry,I.os,I.bare,I.base,I.loc,I.cell,I.free,I.freeC,λp b=>I.pin p (Xc _ b),I.hok,I.len⟩
def ag.hand{e:Addr}{W:Value->fv->Prop}(I:ag X pins σ H s):ag (X.hand e W) pins σ H s :=
 ⟨⟨I.ok.mod,I.ok.kind,I.ok.glob,I.ok.blt,I.ok.above,I.ok.inj,I.ok.has,I.ok.cab,(λz=>nomatch z),I.ok.frames,I.ok.stk,I.ok.exf,I.ok.bs,I.ok.bsz,I.ok.noex,I.ok.exfs,I.ok.funs,I.ok.frf⟩,I.os,I.bare,I.base,I.loc,I.cell,I.free,I.freeC,I.pin,I.hok,I.len⟩
def ag.unhand{e:Addr}{W:Value->fv->Prop}(I:ag (X.hand e W) pins σ H s)(hd:X.calm=true->X.A.handled=none):ag X pins σ H s :=
 ⟨⟨I.ok.mod,I.ok.kind,I.ok.glob,I.ok.blt,I.ok.above,I.ok.inj,I.ok.has,I.ok.cab,hd,I.ok.frames,I.ok.stk,I.ok.exf,I.ok.bs,I.ok.bsz,I.ok.noex,I.ok.exfs,I.ok.funs,I.ok.frf⟩,I.os,I.bare,I.base,I.loc,I.cell,I.free,I.freeC,I.pin,I.hok,I.len⟩
def SP.untry{W:Value->fv->Prop}{D:dZ}{f:Flow}(h:SP (X.tryc (X.pn++pins) W) [] D f s):SP X pins D f s:=by
 cases f with
 | next=>obtain⟨b,a,I,q⟩:=h;exact⟨b,a,I.untry,q⟩
 | brk=>obtain⟨b,a,I,q⟩:=h;exact⟨b,a,I.untry,q⟩
 | cont=>obtain⟨b,a,I,q⟩:=h;exact⟨b,a,I.untry,q⟩
 | ret u=>obtain⟨v,b,a,I,r,q⟩:=h;exact⟨v,b,a,I.untry,r,q⟩
def ag.noTb{T e:Addr}{f:Value}(I:ag X pins σ H s)(t:j9 s.heap e T f):T≠X.env.locals/\∀x c,X.env.cells.lookup x=some c->c≠T:=by
 obtain⟨oT,i,d,b,_⟩:=t;refine⟨λz=>?_,λx c g z=>?_⟩
 ·obtain⟨m,⟨o,es,h,a,hd,_⟩,_⟩:=I.loc;rw[<- z,d]at a;cases a;rw[b]at hd;cases hd
 ·obtain⟨v,o,a,hd⟩:=I.cell x c g;rw[z,d]at a;cases a;rw[b]at hd;cases hd
def ag.noted{e C a:Addr}{f:Option Addr}{tb h:Value}{d:Option Addr}(I:ag X pins σ H s)(hx:H e=some (XO e C f d))(j:ud s.heap e tb)(hT:∀T,tb=.ref T->H T=none/\X.s₀.heap.objs.size<=T/\∀p∈X.pn++pins,p.1≠T)
 (N:mI X.stack e C a f tb h s.heap h' d):ag X pins σ H { s with heap:=h' }:=by
 have ne:∀b,H b=none->b≠e:=λb n z=>by rw[z,hx]at n;cases n
 have ok:=N.hok I.hok hx (λT z=>(hT T z).1) I.stkFree;have un:∀ch:List Addr,(∀T,tb=.ref T->T∈ch)->Un (cJ X.stack) ch H H s.heap h':=λch k=>⟨λb o q n m c=>N.keep b o q (ne b n) (λz=>c (k b z.symm)) m,λb o q n m c=>N.slot b o q m,λ_ _ _ n _=>n,λb o q _=>N.there b o q,λ_ _ q=>q,λ_ _ _ q=>q,λb ps q=>⟨#[],by rw[q];simp⟩⟩;rcases j with rfl|⟨T,rfl,t⟩
 ·exact I.call (g':=s.gens) (d':=s.drawn) (t':=s.toks) (ch:=[]) (un [] λT z=>by cases z) ok I.bare λb z=>ZR z (by simp)
 ·refine I.call (g':=s.gens) (d':=s.drawn) (t':=s.toks) (ch:=[T]) (un [T] λa z=>by cases z;simp) ok I.bare λb hb=>?_;have u:b=T:=by simpa using hb
  subst u;obtain⟨v,g,i⟩:=hT b rfl;obtain⟨l,r⟩:=I.noTb t;exact⟨.inr g,l,r,i⟩
end
def BW(K:W.Frag)(c:Value)(tb:(St->XK)->TS)(j:Nat)(d:TS):TS:=λD σ H=>∃Eb:St->XK,tb Eb D σ H/\∀σ' C e od qq H',Eb σ' (.ref C) (some e) H'->H' e=some (XO e C od qq)->W.exmOne K (.ref C) c=some true /\
 d { nx:=λb a=>D.nx (b.set j none) a,rt:=D.rt,bk:=λb a=>D.bk (b.set j none) a,ct:=λb a=>D.ct (b.set j none) a } (σ'.set j (some (.ref e))) H'
section
variable {X:Cx}{y n:Str}{np hpos pos:Pos}{body suite:List Stmt}{b₀:Stmt}{Cy:Addr}{tb:(St->XK)->TS}{th:TS}{j:Nat}{hs:List ExceptHandler}
def Mc(r:X.stack=X.env::X.outer/\X.env.frame=some X.env.locals)(hN:X.N.Nodup)(hj:X.N[j]? = some n)(hk:X.env.scope.names.lookup n=some .local)(hm:X.mg y=some (.ref Cy))(hb:∀pn W Eb,lE (X.tryc pn W) Eb->fw (X.tryc pn W) body (tb Eb))(hh:∀e,fw (X.hand e λ_ _=>False) (b₀::suite) th)
 (hg:Gl X y:=by rfl) (hd:(y == ("__debug__" : Str))=false:=by decide):QS X (.Try body (.ExceptHandler (some (.Name y np)) (some n) (b₀::suite) hpos::hs) [] [] pos) (BW X.K (.ref Cy) tb j th):=⟨by
 intro a s σ H D I h;obtain⟨Eb,h1,h2⟩:=h;have L:lE (X.tryc (X.pn++a) (uo X a Eb)) Eb:=⟨by
  rintro ao v s' ⟨U,k,e,C,od,qq,a6,oe,vs,hv,I',hx,x,ht,hT,he,q⟩;exact⟨U,k,e,C,od,qq,a6,oe,vs,hv,I'.untry,hx,x,ht,λT z=>⟨(hT T z).1,(hT T z).2.1,λp hp=>(hT T z).2.2 p (Xc _ hp)⟩,he,q⟩⟩
 refine wpAny_Try_except (wpAny_mono ((hb _ _ Eb L).h [] s σ H D I.tryc h1) (λf s1 q=>?_) λv s1 q=>?_)
 ·cases f with
  | next=>obtain⟨U,k,I',q⟩:=q;exact wpAny_execs_nil ⟨U,k,I'.untry,q⟩
  | brk=>exact SP.untry (f:=.brk) q
  | cont=>exact SP.untry (f:=.cont) q
  | ret u=>exact SP.untry (f:=.ret u) q
 ·obtain⟨U,k,e,C,od,qq,a6,oe,vs,rfl,I1,hx,x,ht,hT,he,q⟩:=q;obtain⟨aq,ad⟩:=h2 U C e od qq k q hx;have aj:X.A.frames=some (X.env::X.outer):=by rw[<- r.1];exact I1.ok.frames
  have ab:s1.heap.FunFrames X.base (X.env::X.outer):=by rw[<- r.1];exact I1.stack
  refine DX (base:=X.base) aj ab r.2 x ht λaI i N1=>?_;rw[<- r.1]at N1;have I2:=I1.noted hx ht hT N1;obtain⟨ak,aR,x1⟩:=N1.exc;have O:X.s₀.heap.objs.size<=i:=WP I1.sz N1.new;have d:k i=none:=by
   cases z:k i with
   | none=>rfl
   | some o =>
    obtain⟨u,w⟩:=bt.there (I1.hok i o z);exact ZR (WE (WD w) N1.new) (Xb _)
  have Y:∀p∈X.pn++a,p.1≠i:=λp hp z=>ZR (WE (WD (I1.pin p hp).1) N1.new) (by rw[z];exact Xb _);have F:∀ {M:Model} {A:Around} {Ex:Value->fv->Prop} {fl:Value} {l:fv} {a0:Obj} {G:Array Value} {Q:Unit->fv->Prop},ag X a U k l->cS l.heap e C od (.ref i) a0 G qq->j9 l.heap e i fl ->
   (∀S,ag X a U k S->cS S.heap e C od (.ref i) a0 G qq->j9 S.heap e i .none->Q () S)->wpAny M A (setFlight (.ref e) none) Q Ex l:=λ{M A Ex fl l a0 G Q} J y t kk=>by
   refine EA y t λh3 sz k3 t3 y3 e3=>kk { l with heap:=h3 } ?_ y3 e3;have af:bC X.prog X.w k h3:=λb o z=>by
    refine (J.hok b o z).stay (λc u hc w=>k3 c u w λv=>?_) (λ_ q=>q) λ_ _ q=>q;rcases hc with rfl|hc
    ·rw[v,d]at z;cases z
    ·rw[v,d]at hc;cases hc
   refine J.call (g':=l.gens) (d':=l.drawn) (t':=l.toks) (ch:=[i]) ⟨λb o z n m c=>k3 b o z (by simpa using c),λb o z n m c=>⟨o.slots,k3 b o z (by simpa using c)⟩,λ_ _ _ n _=>n,λb o z _=>t3 b o z,λ_ _ z=>z,λ_ _ _ z=>z,λb ps z=>⟨#[],by rw[z];simp⟩⟩ af J.bare λb ar=>?_;have eb:b=i:=by simpa using ar
   subst eb;obtain⟨g1,g2⟩:=J.noTb t;exact⟨.inr O,g1,g2,Y⟩
  refine F I2 x1 N1.ent λS I3 x3 t3=>?_;refine wpAny_handleBy_cons (codeAny_handlers_test ?_) (by intro z;cases z);refine kN (X:=X.hand e λ_ _=>False) I3.hand hg hm ?_ hd;have LT:W.Looks (model X.prog X.w) S.heap (typeOf (.ref e)) (.ref C):=by
   have z:W.Looks (model X.prog X.w) S.heap (typeOf (.ref e)) ak.cls:=(W.Looks.ld x3.at_).andThen .now;rw[x3.cls]at z;exact z
  refine (W.exm_one I3.kIn LT aq) _ _ _ _ (λb o w=>w) ?_;refine codeAny_handlers_suite_as (F I3 x3 t3 λs4 I4 x4 t4=>?_);refine qM (v:=.ref e) I4 hN hj (.inl hk) Z (λs5 I5=>?_) (.inr hk);refine wpAny_mono ((hh e).h a s5 _ k _ (I5.hand (e:=e)) ad) (λf s6 g=>?_) λ_ _ z=>z.elim;have B:=I.ok.hd;cases f with
  | next =>
   obtain⟨σ6,R,I6,g⟩:=g;exact qE (I6.unhand B) hN hj hk λs7 V=>⟨_,R,V,g⟩
  | brk =>
   obtain⟨σ6,R,I6,g⟩:=g;exact qE (I6.unhand B) hN hj hk λs7 V=>⟨_,R,V,g⟩
  | cont =>
   obtain⟨σ6,R,I6,g⟩:=g;exact qE (I6.unhand B) hN hj hk λs7 V=>⟨_,R,V,g⟩
  | ret u =>
   obtain⟨v,σ6,R,I6,r6,g⟩:=g;exact qE (I6.unhand B) hN hj hk λs7 V=>⟨v,_,R,V,r6,g⟩⟩
end
structure jD (P:Program) (w:World) (K:W.Frag) (mg:Str->Option Value) (base:Heap) (x:Str) (C:Addr) (k:Nat) (f:Addr) (fd:FuncData) (ps:List Str) (dvs:List V) (sp:Sp):Prop where
 g:mg x=some (.ref C)
 mkx:Mk K C f
 b:∃ds,aq K fd ps ds/\ay dvs ds
 ok:bo P w K mg base bK k f fd ps sp
section
variable {X:Cx}{k j:Nat}{f C:Addr}{fd:FuncData}{ps:List Str}{sp:Sp}{x:Str}{p pos:Pos}{e:Expr}{es:List Expr}{t:TA}{dvs:List V}
def cM{c b:TE}(f:QE X e c)(d:QE X e b):QE X e (λσ H Q=>c σ H Q\/b σ H Q) :=
 ⟨λa s σ H Q I z=>z.elim (f.h a s σ H Q I) (d.h a s σ H Q I)⟩
def hJ(F:jD X.prog X.w X.K X.mg X.base x C j f fd ps dvs sp)(i:bH k X.A)(d:QA X (e::es) t)(hj:j+1<=k:=by decide)(l:Gl X x:=by rfl)(a:(x == ("__debug__" : Str))=false:=by decide)(c:dj (e::es)=true:=by rfl) :
 QE X (.Call (.Name x p) (e::es) [] pos) (B6 C sp dvs E0 t):=by
 obtain⟨m,hb,hd⟩:=F.b;exact⟨No F.mkx F.ok (i.mono hj) l F.g hb hd ro d.h a (cU (c9 c).1) (hU (c9 c).2)⟩
end
end L2
namespace L2
open PySem PySem.Spec PyProof.Rows PySem.W
structure jz (K:W.Frag) (C:Addr):Prop where
 ga:findIn K (.ref C) "__getattribute__" = some (some (.builtin "BaseException.__getattribute__"))
 noga:findIn K (.ref C) "__getattr__" = some none
 base:mroIn K C (.type "BaseException")=some true
 obj:mroIn K C (.type "object")=some true
 hd:hasDictIn K C=true
 cls:findIn K (.ref C) "__class__" = some (some (.builtin "object.__class__"))
 clsG:specialIn K (.builtin "object.__class__") "__get__" = some (some (.builtin "getset_descriptor.__get__"))
 clsT:takesIn K (.builtin "object.__class__")=some true
section
variable {prog:Program}{w:World}{A:Around}{E:Value->fv->Prop}{s:fv}{K:W.Frag}{x C:Addr}{ox:Obj}{od:Option Obj}{name:Str}{tk:Tok}{fill expr:Bool}
def Im {nameV:Value} {Q:Unit->fv->Prop} (e:K.In s.heap) (c:jz K C) (I:InstAt s.heap x ox C od) (hq:Q () s):wpAny (model prog w) A (checkBuiltinCall "BaseException.__getattribute__" ⟨[.ref x,nameV],[]⟩) Q E s:=by
 have b:builtinKind "BaseException.__getattribute__" = some .slot:=by decide +kernel
 have a:splitId "BaseException.__getattribute__" = some ("BaseException", "__getattribute__"):=by decide +kernel
 have f:Looks (model prog w) s.heap (isInstance (.ref x) (.type "BaseException")) true:=I.type.andThen (looks_mroIn e c.base);have i:=PySem.F.args_bexc_ga (.ref x) nameV;simp only [checkBuiltinCall,b,a];refine kb (f.here ?_);obtain⟨h,g,d,t,os⟩:=s
 repeat (any_goals (first|assumption|wp_step))
def Io{Q:Value->fv->Prop}(a:K.In s.heap)(c:jz K C)(I:InstAt s.heap x ox C od)
 (h:wpAny (model prog w) A.in1 (Builtin.«object.__getattribute__» ⟨[.ref x,.str name tk],[]⟩) (λr e=>match r with|.done (.ret v)=>handedIn v=true/\Q v e|_=>False) (λ_ _=>False) s):wpAny (model prog w) A (getAttrBy (.ref x) (.str name tk) fill expr) Q E s:=by
 have i:=I.type (M:=model prog w);have l:=looks_findIn (M:=model prog w) a c.ga;have g:=looks_findIn (M:=model prog w) a c.noga;have k:=PySem.F.excAttr_ValueError.ga.bind (.ref x);have b:(expr && onTheHeap (Value.builtin "BaseException.__getattribute__"))=false:=by cases expr<;>rfl
 have d:(onTheHeap (Value.ref C) && Value.builtin "BaseException.__getattribute__" == Value.builtin "object.__getattribute__")=false:=by
  have q:(Value.builtin "BaseException.__getattribute__" == Value.builtin "object.__getattribute__")=false:=by decide +kernel
  rw[q];rfl
 unfold getAttrBy;refine wpAny_holding (kb (i.here (kb (l.here ?_))));dsimp only;rw[ZP (by rw[d];exact WR)];unfold getAttrByItsOwn callGetattribute boundAndCalled;rw[b,ZP WR];refine kb (g.here (kb (wpAny_attempt (wpAny_holding ?_))));rw[k];refine kb (ZO (wpAny_call (codeAny_call_builtin PySem.F.excAttr_ValueError.ga.plain PySem.F.entry_bexc_ga (Im a c I (wpAny_mono h (λr e z=>?_) λ_ _ z=>z.elim)))));rcases r with (_|_|_|_)|_<;>first|exact z.elim|skip
 all_goals (obtain⟨j,f⟩:=z;dsimp only;rw[handedOut_of j];exact ZO f)
def Il{v:Value}{Q:Fin->fv->Prop}(c:K.In s.heap)(I:InstAt s.heap x ox C od)(b:findObj K C od name=some (.value v))
 (h:Q (.done (.ret v)) s):wpAny (model prog w) A (Builtin.«object.__getattribute__» ⟨[.ref x,.str name tk],[]⟩) Q E s:=by
 have a:=I.type (M:=model prog w);have d:=looks_find (M:=model prog w) c I b;unfold Builtin.«object.__getattribute__»;refine kb (ZO (kb (ZO (kb (a.here (kb (d.here ?_)))))));exact ZO h
end
inductive Bw (K:W.Frag) (H:Hp):V->Value->Prop where
 | of {x:V} {t:Value} (h:eQ K H x t):Bw K H x t
 | exc {e C:Addr} {q:Option Addr} (h:H e=some (XO e C none q)) (c:jz K C):Bw K H (.ref e) (.ref C)
section
variable {X:Cx}{K:W.Frag}
def Ma{y n:Str}{i b pos:Pos}{body a:List Stmt}{d:Stmt}{g:Addr}{tb:(St->XK)->TS}{f:TS}{j:Nat}{hs:List ExceptHandler}(h:X.K=K)(c:X.stack=X.env::X.outer/\X.env.frame=some X.env.locals)(hN:X.N.Nodup)(hj:X.N[j]? = some n)(k:X.env.scope.names.lookup n=some .local)(m:X.mg y=some (.ref g))(hb:∀pn W Eb,lE (X.tryc pn W) Eb->fw (X.tryc pn W) body (tb Eb))(l:∀e,fw (X.hand e λ_ _=>False) (d::a) f)
 (o:Gl X y:=by rfl) (hd:(y == ("__debug__" : Str))=false:=by decide):QS X (.Try body (.ExceptHandler (some (.Name y i)) (some n) (d::a) b::hs) [] [] pos) (BW K (.ref g) tb j f):=by subst h;exact Mc c hN hj k m hb l o hd
end
def fN(K:W.Frag)(C:Addr)(bmB:List Value)(newId:String):Bool:=match K.lookup C with
 | some ⟨.type "type",_,.cls cd,sl⟩=>(match cd.mro,sl.toList with
  | .ref C'::bm,[_,_,_,_,some (.builtin n),_]=>C' == C && (n == newId && (!cd.hasDel && (W.tailIn K bmB bm && W.nsOkIn K cd.ns)))
  | _,_=>false)
 | _=>false
def fN.obj{K:W.Frag}{h:Heap}{C:Addr}{bmB:List Value}{newId:String}(f:K.In h)(q:fN K C bmB newId=true) :
 ∃bm N nm d bs hdct e sub c b dd k0 k1 k2 k3 k5,h.get? C=some (excClassObj nm d C N bs bm hdct e sub c b dd k0 k1 k2 k3 k5 newId)/\OwnTail h bmB bm:=by
 unfold fN at q
 split at q
 ·rename_i dd cd sl ho
  split at q
  ·rename_i C' bm k0 k1 k2 k3 n k5 hm hs;simp only [Xd,beq_iff_eq,Bool.not_eq_true']at q;obtain⟨k,j,a,i,_⟩:=q;subst k j;obtain⟨nm,bs,mro,ns,d,hd,e,sub,c,b,g⟩:=cd;simp only at hm a;subst hm a;obtain⟨l⟩:=sl;simp only at hs;subst hs;exact⟨bm,ns,nm,d,bs,hd,e,sub,c,b,dd,k0,k1,k2,k3,k5,f _ _ ho,W.tail_of_in f i⟩
  ·cases q
 ·cases q
section
variable {prog:Program}{w:World}{A:Around}{E:Value->fv->Prop}{h:Heap}{g:Array GenState}{d:Drawn}{t:Nat}{os:OsState}{K:W.Frag}
variable {nm q:Str}{C N:Addr}{bs bm bmB:List Value}{hdct:Bool}{sn:List Str}{sub:List Value}{ab:Bool}{col:Option Bool}{dd:Option Addr}{k0 k1 k2 k3 k5:Option Value}{B newId initId:String}{us:List Value}{fI:Addr}
def Ij(F:ExcBaseFacts B newId initId bmB)(T:OwnTail h bmB bm)(m:K.In h){Q:Fin->fv->Prop}
 (hC:h.get? C=some (excClassObj nm q C N bs bm hdct sn sub ab col dd k0 k1 k2 k3 k5 newId)) (l:W.findIn K (.ref C) "__init__" = some (some (.ref fI))) (n:W.typeIn K (.ref fI)=some (.type "function"))
 (hq:∀h' e,Heap.MadeExcOf h h' e (.ref C) us->wpAny (model prog w) A (call (.ref fI) (.ref e::us)) (λr k=>r=.none/\Q (.done (.ret (.ref e))) k) E ⟨h',g,d,t,os⟩) (hz:us.length<=sizeLine) :
 wpAny (model prog w) A (Builtin.«type.__call__» ⟨.ref C::us,[]⟩) Q E ⟨h,g,d,t,os⟩:=by
 repeat (first|with_reducible refine wpAny_madeBy_exc hC ?_|with_reducible refine wpAny_loadPart_at hC ?_|wp_step)
 refine codeAny_call_builtin_code (Code.quiet_builtin _ F.quiet) (wpAny_check_new_subT F T hC (codeAny_exc_new_subT F T hC ?_ hz));show wpAny _ _ _ _ _ _;obtain⟨c,f⟩:∃c,c=(h.push { cls:=.type "tuple",data:=.seq us.toArray }).push { cls:=.ref C,data:=.fields #[.ref h.objs.size,.none,.none,.none,.bool false,.none] }:=⟨_,rfl⟩;have up:∀b o,h.get? b=some o->c.get? b=some o:=λb o z=>by rw[f];exact WG _ (WG _ z)
 have new:c.get? (h.objs.size+1)=some { cls:=.ref C,data:=.fields #[.ref h.objs.size,.none,.none,.none,.bool false,.none] }:=by rw[f];heap_get
 have i:c.get? h.objs.size=some { cls:=.type "tuple",data:=.seq us.toArray }:=by rw[f];exact WG _ (Heap.get?_push_at Z Z)
 have hC2:=up _ _ hC;have j:K.In c:=λa o z=>up a o (m a o z);have p:=W.looks_findIn (M:=model prog w) j l;have s:=W.looks_typeIn (M:=model prog w) j n;have u:(Value.ref C::bm).contains (.ref C)=true:=by simp
 rw[<- f];unfold isInstance
 repeat (first|with_reducible refine wpAny_loadPart_at new ?_|(with_reducible refine wpAny_isSubtype_exc hC2 ?_;rw[u])|wp_step)
 show wpAny _ _ (typeLookup (.ref C) _) _ _ _;refine p.at ?_;refine wpAny_holding (kb ?_);unfold bindSpecial;refine kb (s.at ?_);rw[ZQ (by decide)];refine ZO (kb (wpAny_mono (hq c (h.objs.size+1) ⟨up,X3 (Xp _),h.objs.size,new,X3 (WB _),i⟩) (λr k ⟨z1,z2⟩=>?_) λ_ _ x=>x));subst z1
 wp_walk
 exact z2
def Ik(F:ExcBaseFacts B newId initId bmB)(T:OwnTail h bmB bm)(b:K.In h){Q:Value->fv->Prop}
 (hC:h.get? C=some (excClassObj nm q C N bs bm hdct sn sub ab col dd k0 k1 k2 k3 k5 newId)) (a:W.findIn K (.ref C) "__init__" = some (some (.ref fI))) (c:W.typeIn K (.ref fI)=some (.type "function"))
 (hq:∀h' e,Heap.MadeExcOf h h' e (.ref C) us->wpAny (model prog w) (A.under (.builtin "type.__call__" ⟨.ref C::us,[]⟩)) (call (.ref fI) (.ref e::us)) (λr i=>r=.none/\Q (.ref e) i) E ⟨h',g,d,t,os⟩) (hz:us.length<=sizeLine) :
 wpAny (model prog w) A (call (.ref C) us) Q E ⟨h,g,d,t,os⟩:=by
 have j:=tc_lookup;have k:=tc_bind (.ref C);have hT:(⟨h,g,d,t,os⟩:fv).TypeIs (.ref C) "type":=⟨_,hC,rfl⟩;refine wpAny_call (codeAny_of_tree ?_);show wpAny _ _ (callAny (.ref C) ⟨us,[]⟩) _ _ _
 repeat (any_goals (first|with_reducible refine wpAny_loadPart_at hC ?_|assumption|wp_step))
 refine⟨rfl,codeAny_call_builtin_at (Code.quiet_builtin _ (by decide +kernel)) entry_typeCall (wpAny_check_type_call_sub hC (Ij (hz:=hz) F T b hC a c λh' e f=>?_))⟩;exact hq h' e f
end
section
variable {prog:Program}{w:World}{A:Around}{E:Value->fv->Prop}{s:fv}{K:W.Frag}
def TF {C e:Addr} {l:Option Addr} {tb:Value} {h:Obj} {vs:Array Value} {us:List Value} {Q:Value->fv->Prop} (m:K.In s.heap) (hC:fN K C jx "ValueError.__new__" = true) (x:cS s.heap e C l tb h vs) (hz:us.length<=sizeLine)
 (k:∀h',(∀b o,b≠e->s.heap.get? b=some o->h'.get? b=some o)->(∃oe' vs',cS h' e C l tb oe' vs')->Q .none { s with heap:=h' }) :
 wpAny (model prog w) A (call (.builtin "ValueError.__init__") (.ref e::us)) Q E s:=by
 have F:=Zu;obtain⟨B,N,nm,v,bs,j,y,sub,u,n,D,k0,k1,k2,k3,k5,hC0,T⟩:=fN.obj m hC;obtain⟨a,g,d,r,os⟩:=s;refine wpAny_call (codeAny_call_builtin F.init.plain F.initEntry (wpAny_check_init_subT F T hC0 x.at_ x.cls ?_));obtain⟨i,c⟩:∃i,vs[0]? = some i:=⟨vs[0]'(by rw[x.size];decide),by rw[YW]⟩;have ne:e≠a.objs.size:=WL (WD x.at_);have f:(a.push { cls:=.type "tuple",data:=.seq us.toArray }).get? e=some h:=WG _ x.at_;unfold Builtin.«BaseException.__init__» Builtin.BaseException.bexcPut
 repeat (any_goals (first|assumption|with_reducible refine wpAny_field f x.data c ?_|with_reducible refine wpAny_setField f x.data (by rw[x.size];decide) ?_|wp_step))
 have self:=XU (Obj.mapFields (·.setIfInBounds 0 (.ref a.objs.size))) f (by rw[jm x.data];rfl);have p:Q .none ⟨(a.push { cls:=.type "tuple",data:=.seq us.toArray }).update e (Obj.mapFields (·.setIfInBounds 0 (.ref a.objs.size))),g,d,r,os⟩ :=
  k _ (λb o q z=>(Xu _ _ (Ne.symm q)).trans (WG _ z)) ⟨_,vs.setIfInBounds 0 (.ref a.objs.size),self,by rw[jm x.data];exact x.cls,by rw[jm x.data];exact x.dict,by rw[jm x.data],by simp[x.size],by rw[Zv,ZP (by decide)];exact x.tb1,by rw[Zv,ZP (by decide)];exact x.cx⟩
 split
 ·repeat (any_goals (first|assumption|wp_step))
 ·repeat (any_goals (first|assumption|wp_step))
end
structure BA (K:W.Frag) (C f:Addr):Prop where
 x:fN K C jx "ValueError.__new__" = true
 init:W.findIn K (.ref C) "__init__" = some (some (.ref f))
 fn:W.isFn K (.ref f)=true
 kp:W.keepIn K (.ref C)=true
structure G3 (P:Program) (w:World) (K:W.Frag) (mg:Str->Option Value) (base:Heap) (x:Str) (C:Addr) (k:Nat) (f:Addr) (fd:FuncData) (ps:List Str) (sp:Sp):Prop where
 g:mg x=some (.ref C)
 mkx:BA K C f
 b:aq K fd ps []
 ok:bo P w K mg base bK k f fd ps sp
def IB{H:Hp}{e:Addr}{o:HO}(h:H e=some o):upd H e o=H:=funext λb=>by
 by_cases q:b=e
 ·subst q;rw[aF,h]
 ·rw[ap q]
def Jj {h:Heap} {a:List Value} (self:Value) (T:OwnTail h jx a):refuseLoop self "__setattr__" a=pure ():=by
 induction T with
 | base=>exact PySem.F.store_ValueError.passes self
 | own _ _ _ _ ih=>rw[refuseLoop_ref];exact ih
section
variable {prog:Program}{w:World}{A:Around}{E:Value->fv->Prop}{h:Heap}{g:Array GenState}{d:Drawn}{t:Nat}{os:OsState}{K:W.Frag}{C e:Addr}{od:Option Addr}{tb v:Value}{oe:Obj}{vs:Array Value}{name:Str}{tk:Tok}
def Ii {Q:Fin->fv->Prop} (l:K.In h) (hC:fN K C jx "ValueError.__new__" = true) (c:jz K C) (O:W.findIn K (.ref C) name=some none) (x:cS h e C od tb oe vs)
 (k0:od=none->∀h' d0 oe' tk',h.get? d0=none->(∀b o,b≠e->h.get? b=some o->h'.get? b=some o)->cS h' e C (some d0) tb oe' vs->h'.Ns1 d0 (λy=>if y=name then some v else none)->Q (.done (.ret .none)) ⟨h',g,d,tk',os⟩)
 (k1:∀d0,od=some d0->∃mA ns,h.Ns1 d0 mA/\Within mA ns/\ns.length+1<=1000/\∀h' tk',(∀b o,b≠d0->h.get? b=some o->h'.get? b=some o)->h'.Ns1 d0 (λy=>if y=name then some v else mA y)->Q (.done (.ret .none)) ⟨h',g,d,tk',os⟩) :
 wpAny (model prog w) A (Builtin.«object.__setattr__» ⟨[.ref e,.str name tk,v],[]⟩) Q E ⟨h,g,d,t,os⟩:=by
 obtain⟨J,N,nm,qn,bs,j,sn,sub,V,I,Y,s0,s1,s2,s3,s5,hC0,T⟩:=fN.obj l hC;have r:refuseLoop (.ref e) "__setattr__" (.ref C::J)=pure ():=by rw[refuseLoop_ref];exact Jj _ T
 have B:=W.looks_findIn (M:=model prog w) l O;have n:j=true:=by
  obtain⟨cd,f,q⟩:=W.any_some c.hd;have L:=W.looks_clsIn (M:=model prog w) l f;unfold W.clsIn at f
  split at f
  ·rename_i ho;have y:=l _ _ ho;rw[hC0]at y;cases y;cases f;exact q
  ·cases f
 subst n;unfold Builtin.«object.__setattr__»
 repeat (first|rw[refuse_eq]|rw[r]|(with_reducible refine wpAny_loadPart_at x.at_ ?_;rw[x.cls])|with_reducible refine wpAny_mroOf_exc hC0 ?_|with_reducible refine B.at ?_|wp_step)
 rw[x.dict];cases od with
 | none =>
  dsimp only;rw[ZP (by simp[typeHasDict]),x.data];have u:(h.push { cls:=.type "dict",data:=.dict #[] }).get? e=some oe:=WG _ x.at_;have ne:e≠h.objs.size:=WL (WD x.at_);refine kb (wpAny_alloc' (kb (wpAny_update' u (ZO ?_))));obtain⟨i,m⟩:∃i,i=(h.push { cls:=.type "dict",data:=.dict #[] }).update e λo=>{ cls:=o.cls,dict:=some h.objs.size,data:=o.data,slots:=o.slots }:=⟨_,rfl⟩;have D:i.get? h.objs.size=some { cls:=.type "dict",data:=.dict #[] }:=by rw[m];exact (Zw _ _ _ _ ne.symm).trans (Heap.get?_push_at Z Z)
  have ge:i.get? e=some { cls:=oe.cls,dict:=some h.objs.size,data:=oe.data,slots:=oe.slots }:=by
   rw[m];refine XU _ u ?_;obtain⟨oc,U,S,R⟩:=oe;have q:=x.data;simp only at q;subst q
   rfl
  have nd:i.Ns h.objs.size (λ_=>none):=⟨_,#[],_,D,rfl,λe G=>ZR G (by simp),λ_=>rfl⟩;rw[<- m];show wpAny _ _ (Builtin.ObjectAttr.storeInDict h.objs.size (.str name tk) name v) _ _ _;unfold Builtin.ObjectAttr.storeInDict Builtin.ObjectAttr.newKeyGuard;refine kb (ZO (kb (wpAny_nsSet1 (Heap.Ns1.of_empty nd) λh' a sb=>?_)));obtain⟨oD,esD,epD,hoD,hdD,hcD⟩:=a.count (Within.cons name v Within.nil);refine kb (wpAny_lookBehind hoD (by rw[hdD];exact pastItsLine_dict (WP hcD (by rw[W0,Ya,sizeLine_eq];omega))) ?_)
  wp_walk
  exact k0 rfl h' h.objs.size _ _ (X3 (WB _)) (λb o s z=>(sb.2 b (WL (WD z))).trans (by rw[m];exact (Zw _ _ _ _ s).trans (WG _ z)))
   ⟨(sb.2 e ne).trans ge,x.cls,rfl,x.data,x.size,x.tb1,x.cx⟩ a
 | some d0 =>
  obtain⟨mA,ns,p,F,hz,k⟩:=k1 d0 rfl;dsimp only;refine ZO ?_;show wpAny _ _ (Builtin.ObjectAttr.storeInDict d0 (.str name tk) name v) _ _ _;unfold Builtin.ObjectAttr.storeInDict Builtin.ObjectAttr.newKeyGuard;refine kb (ZO (kb (wpAny_nsSet1 p λh' a sb=>?_)));obtain⟨oD,esD,epD,hoD,hdD,hcD⟩:=a.count (Within.cons name v F);refine kb (wpAny_lookBehind hoD (by rw[hdD];exact pastItsLine_dict (WP hcD (by rw[W0,sizeLine_eq];omega))) ?_)
  wp_walk
  exact k h' _ (λb o s z=>(sb.2 b s).trans z) a
end
section
variable {X:Cx}{pins:List (Addr × Obj)}{σ:St}{H:Hp}{s:fv}{h':Heap}{e C d0:Addr}{fs:List (Str × V)}{f:Str}
def ag.none_of{a:Addr}(I:ag X pins σ H s)(h:s.heap.get? a=none):H a=none:=by
 cases q:H a with
 | none=>rfl
 | some u=>obtain⟨z,y⟩:=bt.there (I.hok a u q);rw[h]at y;cases y
def ag.xdict{k:Obj}{vs:Array Value}{t':Nat}(I:ag X pins σ H s)(hx:H e=some (XN e C none))(i:s.heap.get? d0=none)(kp:∀b o,b≠e->s.heap.get? b=some o->h'.get? b=some o)(j:cS h' e C (some d0) .none k vs)
 (nd:∃mA,h'.Ns1 d0 mA/\∀f,cZ (fs.lookup f) (mA f)):ag X pins σ (upd (upd H d0 (.xd fs)) e (XN e C (some d0))) { s with heap:=h',toks:=t' }:=by
 have g:=I.none_of i;have l:d0≠e:=λz=>by rw[z,hx]at g;cases g
 have h:∀b u,s.heap.get? b=some u->b≠d0:=λb u q z=>by rw[z,i]at q;cases q
 have a:∀b,H b=none->b≠e:=λb q z=>by rw[z,hx]at q;cases q
 have two:∀b o,b≠e->H b=some o->upd (upd H d0 (.xd fs)) e (XN e C (some d0)) b=some o:=λb o n q=>by rw[ap n,ap (aB q g)];exact q
 refine I.un ⟨λb u q n _ _=>kp b u (a b n) q,λb u q n _ _=>⟨u.slots,kp b u (a b n) q⟩,λb u q n _=>by rw[ap (a b n),ap (h b u q)];exact n,λb u q _=>?_,λb xs q=>two b _ (λz=>by rw[z,hx]at q;cases q) q,λb u xs q=>two b _ (λz=>by rw[z,hx]at q;cases q) q,λb ps q=>⟨#[],?_⟩⟩ λb u q=>?_
 ·by_cases z:b=e
  ·subst z;exact⟨_,j.at_⟩
  ·exact⟨u,kp b u z q⟩
 ·rw[two b _ (λz=>by rw[z,hx]at q;cases q) q];simp
 ·by_cases hb:b=e
  ·subst hb;rw[aF]at q;cases q;exact uu j
  ·rw[ap hb]at q;by_cases hd:b=d0
   ·subst hd;rw[aF]at q;cases q;exact nd
   ·rw[ap hd]at q;refine (I.hok b u q).stay (λc v d z=>?_) (λc z=>two c _ (λy=>by rw[y,hx]at z;cases z) z) λc xs z=>two c _ (λy=>by rw[y,hx]at z;cases z) z;rcases d with rfl|d
    ·exact kp c v hb z
    ·exact kp c v (λy=>by rw[y,hx]at d;cases d) z
def ag.xput{e:List (Str × V)}{t':Nat}(I:ag X pins σ H s)(hd:H d0=some (.xd fs))(kp:∀b o,b≠d0->s.heap.get? b=some o->h'.get? b=some o)
 (nd:∃mA,h'.Ns1 d0 mA/\∀f,cZ (e.lookup f) (mA f)):ag X pins σ (upd H d0 (.xd e)) { s with heap:=h',toks:=t' }:=by
 have a:∀b,H b=none->b≠d0:=λb q z=>by rw[z,hd]at q;cases q
 have one:∀b o,b≠d0->H b=some o->upd H d0 (.xd e) b=some o:=λb o n q=>by rw[ap n];exact q
 refine I.un ⟨λb u q n _ _=>kp b u (a b n) q,λb u q n _ _=>⟨u.slots,kp b u (a b n) q⟩,λb u q n _=>by rw[ap (a b n)];exact n,λb u q _=>?_,λb xs q=>one b _ (λz=>by rw[z,hd]at q;cases q) q,λb u xs q=>one b _ (λz=>by rw[z,hd]at q;cases q) q,λb ps q=>⟨#[],?_⟩⟩ λb u q=>?_
 ·by_cases z:b=d0
  ·subst z;obtain⟨_,⟨o,_,_,y,_⟩,_⟩:=nd;exact⟨o,y⟩
  ·exact⟨u,kp b u z q⟩
 ·rw[one b _ (λz=>by rw[z,hd]at q;cases q) q];simp
 ·by_cases hb:b=d0
  ·subst hb;rw[aF]at q;cases q;exact nd
  ·rw[ap hb]at q;refine (I.hok b u q).stay (λc v d z=>?_) (λc z=>one c _ (λy=>by rw[y,hd]at z;cases z) z) λc xs z=>one c _ (λy=>by rw[y,hd]at z;cases z) z;rcases d with rfl|d
   ·exact kp c v hb z
   ·exact kp c v (λy=>by rw[y,hd]at d;cases d) z
def Ir{mA:Str->Option Value}(r:∀f,cZ (fs.lookup f) (mA f)):Within mA (fs.map (·.1)):=λy d=>by
 have z:=r y;cases q:fs.lookup y with
 | none =>
  rw[q]at z;cases p:mA y with
  | none=>exact ZR p d
  | some u=>rw[p]at z;exact z.elim
 | some v =>
  clear z d r
  induction fs with
  | nil=>cases q
  | cons a l ih =>
   obtain⟨a,b⟩:=a;rw[Xg]at q;by_cases c:(y == a)=true
   ·rw[beq_iff_eq.mp c];exact W3
   ·have c:(y == a)=false:=by simpa using c
    rw[c]at q;exact W4 _ (ih q)
structure By (K:W.Frag) (C:Addr):Prop where
 x:fN K C jx "ValueError.__new__" = true
 c:jz K C
 sa:W.findIn K (.ref C) "__setattr__" = some (some (.builtin "object.__setattr__"))
def KB{A:Around}{E:Value->fv->Prop}{m:Option Addr}{y:V}{u:Value}{Q:Unit->fv->Prop}(I:ag X pins σ H s)(hx:H e=some (XN e C m))(S:By X.K C)(G:NoAttr X.K C f)(B:aP y u)
 (k0:m=none->∀d0,H d0=none->d0≠e->∀s',ag X pins σ (upd (upd H d0 (.xd [(f,y)])) e (XN e C (some d0))) s'->Q () s')
 (k1:∀d0,m=some d0->∃fs,H d0=some (.xd fs)/\fs.length<999/\∀s',ag X pins σ (upd H d0 (.xd (cy f y fs))) s'->Q () s'):wpAny (model X.prog X.w) A (setAttr (.ref e) f u) Q E s:=by
 obtain⟨⟨J,vs,b⟩,_⟩:=I.hok e _ hx;have j:=PySem.F.store_ValueError;obtain⟨l,D⟩:∃l,W.InstAt s.heap e J C l:=by
  cases m with
  | none=>exact⟨none,b.at_,b.cls,by unfold W.notCls;rw[b.data],by rw[b.dict];trivial⟩
  | some d0 =>
   obtain⟨fs,hd,_⟩:=k1 d0 rfl;obtain⟨mA,⟨o,es,O,z,_⟩,_⟩:=(show ∃mA,s.heap.Ns1 d0 mA/\∀f,cZ (fs.lookup f) (mA f) from I.hok d0 _ hd);exact⟨some o,b.at_,b.cls,by unfold W.notCls;rw[b.data],by rw[b.dict];exact z⟩
 have L:W.Looks (model X.prog X.w) s.heap (isInstance (.ref e) (.type "object")) true:=D.type.andThen (W.looks_mroIn I.kIn S.c.obj);have M:argsOk "object.__setattr__" ⟨[.ref e,.str f s.toks,u],[]⟩:=j.args _ _ _;refine W.set_plain I.kIn D S.sa (codeAny_call_builtin j.slot.plain j.entry ?_);refine @W.check_slot (model X.prog X.w) _ _ { s with toks:=s.toks+1 } "object.__setattr__" "object" "__setattr__" (.ref e) [.str f s.toks,u] [] _ j.kind j.split L M ?_;refine Ii (h:=s.heap) (g:=s.gens) (d:=s.drawn) (t:=s.toks+1) (os:=s.os) I.kIn S.x S.c G b (λz h' d1 N i v kp p n=>?_) (λd1 z=>?_)
 ·subst z;have a:=I.none_of v;refine k0 rfl d1 a (λq=>by rw[q,hx]at a;cases a) _ (I.xdict (t':=i) hx v kp p ⟨_,n,λg=>?_⟩);by_cases q:g=f
  ·subst q;rw[ZQ rfl,Xg,beq_self_eq_true];exact B
  ·rw[ZP q,Xg,show (g == f)=false by simpa using q];trivial
 ·obtain⟨fs,hd,hz,k⟩:=k1 d1 z;obtain⟨mA,a,r⟩:=(show ∃mA,s.heap.Ns1 d1 mA/\∀f,cZ (fs.lookup f) (mA f) from I.hok d1 _ hd);refine⟨mA,fs.map (·.1),a,Ir r,by rw[WA];omega,λh' i kp n=>k _ ?_⟩;refine I.xput (t':=i) hd kp ⟨_,n,λg=>?_⟩;rw[xv];by_cases q:g=f
  ·rw[ZQ q,ZQ q];exact B
  ·rw[ZP q,ZP q];exact r g
end
def LB(K:W.Frag)(d c:TE)(f:Str):TS:=λD σ H=>c σ H λy b=>d σ b λx a=>∃e C od,x=.ref e/\a e=some (XN e C od)/\By K C/\NoAttr K C f /\
 (od=none->∀d0,a d0=none->d0≠e->D.nx σ (upd (upd a d0 (.xd [(f,y)])) e (XN e C (some d0))))/\(∀d0,od=some d0->∃fs,a d0=some (.xd fs)/\fs.length<999/\D.nx σ (upd a d0 (.xd (cy f y fs))))
def PJ{v:V}{u:Value}(r:aP v u):W.handedIn u=true:=by
 cases v<;>first|(obtain rfl:=r;rfl)|(obtain⟨_,rfl⟩:=r;rfl)
structure Wg (K:W.Frag) (Y:Addr):Prop where
 sp:W.specialIn K (.ref Y) "__getattribute__" = some (some (.builtin "type.__getattribute__"))
 rd:W.readsIn K Y (.type "type")=true
 fc:W.findCls K (.ref Y) (.type "type") "__init__" = some (.val (.builtin "ValueError.__init__"))
def Ce(K:W.Frag)(t:TA):TE:=λσ H Q=>t σ H λvs a=>match vs with
 | .ref e::bv=>bv.length<=1000/\∃C od,a e=some (XN e C od)/\fN K C jx "ValueError.__new__" = true/\Q .non a
 | _=>False
def Jk(K:W.Frag)(b:TE)(f:Str):TE:=λσ H Q=>b σ H λx a=>∃e C d0 fs v,x=.ref e/\(a e=some (XN e C (some d0))\/∃q,a e=some (XO e C (some d0) q))/\a d0=some (.xd fs)/\jz K C/\NoAttr K C f/\fs.lookup f=some v/\Q v a
section
variable {X:Cx}{K:W.Frag}{Y:Addr}{y f:Str}{np apos pos pos':Pos}{a o value:Expr}{es:List Expr}{t:TA}{ta tv:TE}
def wZ(h:X.K=K)(g:QE X o ta)(m:QE X value tv)(hs:swapsWith value (some (.Attribute o f pos')) pos.line X.env=pure false:=by rfl):QS X (.Assign [.Attribute o f pos'] value pos) (LB K ta tv f):=⟨by
 subst h;intro a s σ H D I h;refine plainObj_wpAny_Assign_Attribute (aw (m.h a s σ H _ I h) λu s1 ⟨y,i,B,l,q⟩=>aw (g.h a s1 σ i _ B q) λv F ⟨x,G,j,p,e,C,J,ex,hx,S,n,k0,k1⟩=>?_) hs;subst ex;obtain rfl:v=Value.ref e:=p;exact KB j hx S n l (λz d0 d c r b=>⟨σ,_,b,k0 z d0 d c⟩) λd0 z=>let ⟨fs,d,c,k⟩:=k1 d0 z;⟨fs,d,c,λr b=>⟨σ,_,b,k⟩⟩⟩
def Mv{pl:Sem Bool}(h:X.K=K)(B:Wg K Y)(N:X.mg y=some (.ref Y))(U:QA X (a::es) t)(O:Gl X y:=by rfl)(hd:(y == ("__debug__" : Str))=false:=by decide)(m:dj (a::es)=true:=by rfl)
 (D:eval (.Call (.Attribute (.Name y np) "__init__" apos) (a::es) [] pos) X.env=(do
   let ov <- eval (.Name y np) X.env
   standAt apos.atName
   let (f,first) <- holding [ov] (getMethod ov "__init__" pl)
   callWith pos f first (backTo pos (starEach (a::es) X.env)) (backToKw pos (keywordEach [] X.env))):=by rfl) :
 QE X (.Call (.Attribute (.Name y np) "__init__" apos) (a::es) [] pos) (Ce K t):=⟨by
 subst h;intro b s σ H Q I h;have S:PE X (.Name y np) (tC (.ref Y)):=(iP (v:=.ref Y) O N rfl hd).h;refine W.methodCall_KW (pl:=pl) (aw (S b s σ H (λv F=>v=.ref Y/\Ce X.K t σ F Q) I ⟨rfl,h⟩) λu s1 ⟨x,G,g,V,ex,q⟩=>?_) D;subst ex;obtain rfl:u=Value.ref Y:=V;refine W.method_cls g.kIn B.sp (W.cls_value (s:=s1) g.kIn B.rd B.fc Z ?_);have J:=g.tok (s1.toks+1);have z:=U.h pos b { s1 with toks:=s1.toks+1 } σ G _ J q;rw[cU (c9 m).1]at z ⊢;refine Calls.callWith_builtin (first:=[]) (hU (c9 m).2) (Calls.evalArgs_plain (aw z λus R ⟨vs,k,i,r,c⟩=>?_));cases vs with
 | nil=>exact c.elim
 | cons v0 bv =>
  cases v0 with
  | ref e =>
   obtain⟨hz,C,j,hx,L,c⟩:=(show bv.length<=1000/\∃C j,k e=some (XN e C j)/\fN X.K C jx "ValueError.__new__" = true/\Q .non k from c);cases r with
   | cons r1 r2 =>
    obtain rfl:=(show _=Value.ref e from r1);obtain⟨⟨oe,n,M⟩,_⟩:=i.hok e _ hx;refine TF i.kIn L M (bM (by rw[<- ay.length r2];omega)) λh' kp ⟨a0,p,d⟩=>?_;have l:=ag.write (t':=R.toks) (x:=e) (e:=e) (h':=h') (o:=XN e C j) i (by rw[hx];trivial) (.inl rfl) kp ⟨_,d.at_⟩ (uu d);rw[IB hx]at l;exact⟨.non,k,l,Z,c⟩
  | _=>exact c.elim⟩
def w5(h:X.K=K)(k:QE X o ta)(hb:attributeBase o f X.env (eval o X.env)=eval o X.env:=by rfl):QE X (.Attribute o f pos) (Jk K ta f):=⟨by
 subst h;intro g s σ H Q I h;refine GN hb (aw (k.h g s σ H _ I h) λu s1 ⟨x,m,d,J,e,C,d0,fs,v,ex,hx,hd,c,n,l,q⟩=>?_);subst ex;obtain rfl:u=Value.ref e:=J;obtain⟨tb,b,vs,L,a⟩:∃tb b vs q,cS s1.heap e C (some d0) tb b vs q:=by
  rcases hx with hx|⟨q,hx⟩
  ·obtain⟨⟨b,vs,a⟩,_⟩:=d.hok e _ hx;exact⟨.none,b,vs,none,a⟩
  ·obtain⟨⟨tb,b,vs,a⟩,_⟩:=d.hok e _ hx;exact⟨tb,b,vs,q,a⟩
 obtain⟨mA,p,r⟩:=(show ∃mA,s1.heap.Ns1 d0 mA/\∀f,cZ (fs.lookup f) (mA f) from d.hok d0 _ hd);obtain⟨o,F,y⟩:=En p;obtain⟨u,G,j⟩:∃u,mA f=some u/\aP v u:=by
  have z:=r f;rw[l]at z;cases q:mA f with
  | none=>rw[q]at z;exact z.elim
  | some u=>rw[q]at z;exact⟨u,Z,z⟩
 have i:W.InstAt s1.heap e b C (some o):=⟨a.at_,a.cls,by unfold W.notCls;rw[a.data],by rw[a.dict];exact F⟩;have B:W.findObj X.K C (some o) f=some (.value u):=by
  obtain⟨M,D,q⟩:=W.any_some c.hd;unfold W.findObj W.ownOf;rw[D,Option.bind_some,show W.findIn X.K (.ref C) f=some none from n,Option.bind_some];simp[q,y,G]
 unfold getAttr;refine kb (wpAny_mkText (Io (s:={ s1 with toks:=s1.toks+1 }) d.kIn c i (Il (s:={ s1 with toks:=s1.toks+1 }) d.kIn i B ⟨PJ j,⟨v,m,d.tok _,j,q⟩⟩)))⟩
end
inductive GS (K:W.Frag) (H:Hp):V->Value->Prop where
 | of {x:V} {t:Value} (h:Bw K H x t):GS K H x t
 | exd {e C d0:Addr} {fs:List (Str × V)} (h:H e=some (XN e C (some d0))\/∃q,H e=some (XO e C (some d0) q)) (hd:H d0=some (.xd fs)) (c:jz K C):GS K H (.ref e) (.ref C)
section
variable {M:Model}{A:Around}{E:Value->fv->Prop}{env:Env}
def LR{s:fv}{x:Sem Value}{Q:Flow->fv->Prop}(u:A.handled=none)
 (h:wpAny M A x (λv f=>∃e C p l vs nm q N bs i a r sub m c o k0 k1 k2 k3 k5 newId,v=.ref e/\cS f.heap e C p .none l vs /\
   f.heap.get? C=some (excClassObj nm q C N bs i a r sub m c o k0 k1 k2 k3 k5 newId)/\i.contains (.type "BaseException")=true/\E (.ref e) f) E s) :
 wpAny M A (raiseStmt env (some x) none) Q E s:=by
 unfold raiseStmt;refine kb (wpAny_mono h (λv f y=>?_) λ_ _ x=>x);obtain⟨e,C,p,l,vs,nm,q,N,bs,i,a,r,sub,m,c,o,k0,k1,k2,k3,k5,newId,rfl,j,hC,b,hE⟩:=y;have hcB:(Value.ref C::i).contains (.type "BaseException")=true:=by rw[List.contains_cons,b,Bool.or_true]
 obtain⟨F,g,d,G,os⟩:=f;obtain⟨I,D,B,z⟩:=l;have k:=j.at_;have n:=j.cls;have hd:=j.data;simp only at k n hd;subst n hd
 repeat (first|with_reducible refine wpAny_field k rfl j.tb1 ?_|with_reducible refine wpAny_loadPart_at k ?_|with_reducible refine wpAny_loadPart_at hC ?_|(with_reducible refine wpAny_isSubtype_exc hC ?_;rw[hcB])|wp_step)
 exact wpAny_raiseNew_none u hE
end
def GT(C:Addr)(Es:St->XK)(σ:St):VK:=λx H=>∃e od,x=.ref e/\H e=some (XN e C od)/\Es σ (.ref C) (some e) (upd H e (XO e C od))
def Jm(C:Addr)(sp:Sp)(Es:St->XK)(t:TA):TS:=λ_ σ H=>t σ H λvs a=>vs.length<=1000/\∀e,a e=none->sp (.ref e::vs) (upd a e (XN e C none)) (λv b=>v=.non/\GT C Es σ (.ref e) b) E0
section
variable {X:Cx}{k j:Nat}{f C:Addr}{fd:FuncData}{ps:List Str}{sp:Sp}{x m:Str}{np cpos pos apos:Pos}{a e o:Expr}{es:List Expr}{ta:TE}{t:TA}{Es:St->XK}{dvs:List V}
def LM{b:List (Addr × Obj)}{σ:St}{H:Hp}{s:fv}{Q:VK}{us:List Value}{vs:List V}(M:BA X.K C f)(F:bo X.prog X.w X.K X.mg X.base bK k f fd ps sp)(U:bH (k+1) X.A)(hb:aq X.K fd ps [])(I:ag X b σ H s)(r:ay vs us)(hz:vs.length<=1000)
 (h:∀e,H e=none->sp (.ref e::vs) (upd H e (XN e C none)) (λv S=>v=.non/\Q (.ref e) S) E0):wpAny (model X.prog X.w) X.A (call (.ref C) us) (λu l=>(∃e,u=.ref e/\s.heap.get? e=none)/\EP X b σ Q u l) X.xe s:=by
 obtain⟨Y,N,nm,qn,bs,j,sn,sub,W,G,dd,k0,k1,k2,k3,k5,hC0,T⟩:=fN.obj I.kIn M.x;refine Ik (h:=s.heap) (g:=s.gens) (d:=s.drawn) (t:=s.toks) (os:=s.os) Zu T I.kIn hC0 M.init (beq_iff_eq.mp M.fn) (λh' e m=>?_) (bM (by rw[<- r.length];omega));obtain⟨t',q,n,O⟩:=m.there;have J:cS h' e C none .none _ _:=⟨q,rfl,rfl,rfl,rfl,rfl,rfl⟩;have c:=I.adopt (t':=s.toks) (o:=XN e C none) m.keeps m.new (uu J);have hq:=h e (I.none_of m.new);have i:ay (V.ref e::vs) (Value.ref e::us):=.cons rfl r;have L:(Value.ref e::us++([]:List Value)).length=ps.length:=by
  have z:=i.length;rw[F.len _ _ _ _ hq]at z;rw[WM];exact z.symm
 refine wpAny_call (codeAny_mono (F.run _ X.stack _ _ ⟨Value.ref e::us,[]⟩ (Value.ref e::us) _ _ E0 (U.make C us []) (c.env0.make C us []) (by have:=hb _ (Value.ref e::us) c.kIn L;rwa [WM]at this) i hq) λr l a=>?_);cases r with
 | error e=>exact a.elim
 | ok fl =>
  cases fl with
  | ret u =>
   obtain⟨v,y,B,R,p,D⟩:=c.after a;subst p;exact⟨R,⟨e,Z,m.new⟩,⟨V.ref e,y,B,Z,D⟩⟩
  | next=>exact False.elim a
  | brk=>exact False.elim a
  | cont=>exact False.elim a
def Md(F:G3 X.prog X.w X.K X.mg X.base x C j f fd ps sp)(hr:bH k X.A)(V:X.calm=true)(hx:lE X Es)(ha:QA X (a::es) t)(hj:j+1<=k:=by decide)(hg:Gl X x:=by rfl)(m:(x == ("__debug__" : Str))=false:=by decide)(B:dj (a::es)=true:=by rfl) :
 QS X (.Raise (some (.Call (.Name x np) (a::es) [] cpos)) none pos) (Jm C sp Es t):=⟨by
 intro c s σ H D I h;have M:wpAny (model X.prog X.w) X.A (eval (.Call (.Name x np) (a::es) [] cpos) X.env) (λu L=>(∃e,u=.ref e/\(X.ex=[]->X.s₀.heap.get? e=none))/\EP X c σ (GT C Es σ) u L) X.xe s:=by
  refine wpAny_Call_Name_kw (kN I hg F.g ?_ m);refine W.callWith_K (h₀:=X.base) I.ok.mod.kin F.mkx.kp (aw (ha.h cpos c s σ H _ I h) λus s1 ⟨vs,H1,n,r,hz,q⟩=>⟨n.kIn,?_⟩) (cU (c9 B).1) (hU (c9 B).2);exact wpAny_mono (LM F.mkx F.ok (hr.mono hj) F.b n r hz q) (λu L ⟨⟨e,z1,z2⟩,z3⟩=>⟨⟨e,z1,λR=>n.newx R z2⟩,z3⟩) λ_ _ z=>z
 rw[arm_exec_Raise];refine kb (wpAny_standAt (LR (I.ok.hd V) ?_));refine kb (wpAny_mono M (λv s3 U=>kb (wpAny_standAt (ZO ?_))) λ_ _ z=>z);obtain⟨⟨e0,z1,z2⟩,y,H2,o,J,l,od,Y,G,O⟩:=U;rw[Y]at J;have d:v=Value.ref l:=J;rw[d]at z1;obtain rfl:l=e0:=Value.ref.inj z1;rw[d];obtain⟨⟨oe,vs,xa⟩,_⟩:=o.hok l _ G;obtain⟨bm,N,nm,qn,bs,i,sn,sub,S,p,dd,k0,k1,k2,k3,k5,hC0,T⟩:=fN.obj o.kIn F.mkx.x;exact⟨l,C,od,oe,vs,nm,qn,N,bs,bm,i,sn,sub,S,p,dd,k0,k1,k2,k3,k5,_,Z,xa,hC0,T.hasType Zu.hasBase,hx.up c _ _ (Sh o G z2 O)⟩⟩
end
structure Vs (k:Nat) (A:Around):Prop where
 dp:A.depth+3*k+5<recursionLimit
 un:A.units+16*k+200<cLine
structure BC (P:Program) (w:World) (K:W.Frag) (mg:Str->Option Value) (base:Heap) (k:Nat) (f:Addr) (fd:FuncData) (ps:List Str) (sp:Sp):Prop where
 len:∀vs H Q E,sp vs H Q E->vs.length=ps.length
 run:∀(A:Around) (outer:List Env) (s:fv) (H:Hp) (args:Args) (us:List Value) (vs:List V) (Q:VK) (E:XK),Vs k A->ki P w K mg base A outer s H->BindsTo s fd args (ps.zip us)->ay vs us->sp vs H Q E ->
  codeAny (model P w) A (.call (.ref f) args) (CR bK outer P w H s Q E) s
structure Wq (P:Program) (w:World) (K:W.Frag) (mg:Str->Option Value) (base:Heap) (x:Str) (C:Addr) (k:Nat) (f:Addr) (fd:FuncData) (ps:List Str) (sp:Sp):Prop where
 g:mg x=some (.ref C)
 mkx:BA K C f
 b:aq K fd ps []
 ok:BC P w K mg base k f fd ps sp
section
variable {X:Cx}{k j:Nat}{f C:Addr}{fd:FuncData}{ps:List Str}{sp:Sp}{x m:Str}{p pos:Pos}{e:Expr}{es:List Expr}{t:TA}{dvs:List V}{ds:List Value}{Es:St->XK}
structure Wp (P:Program) (w:World) (K:W.Frag) (mg:Str->Option Value) (base:Heap) (x:Str) (k:Nat) (f:Addr) (fd:FuncData) (ps:List Str) (sp:Sp):Prop where
 g:mg x=some (.ref f)
 kp:W.keepIn K (.ref f)=true
 b:aq K fd ps []
 ok:BC P w K mg base k f fd ps sp
end
section
variable {X:Cx}{K:W.Frag}{o i value:Expr}{td ty tv:TE}{pos pos':Pos}
def R9:R2:=λy x H Q=>∃a ov,x=.ref a/\c6 H a y ov/\Q (.bl (!ov.isSome)) H
def FH(h:X.A.units+64<cLine):aV X (compareOp .NotIn) R9:=by
 intro b s σ H x y v u Q I d c q;obtain⟨a,f,rfl,g,q⟩:=q;obtain rfl:u=Value.ref a:=c;exact SK (by omega) I g d λi e=>⟨.bl (!f.isSome),H,e,rfl,q⟩
def w6(c:X.A.units+64<cLine)(b:QE X o td)(a:QE X i ty)(hs:uh i:=by intro _ _;rfl):QE X (.Subscript o i pos) (Cb td ty):=⟨Nw (by omega) b.h a.h hs⟩
def rl(d:X.A.units+64<cLine)(b:QE X o td)(a:QE X i ty)(c:QE X value tv)(hs:swapsWith value (some (.Subscript o i pos')) pos.line X.env=pure false:=by rfl):QS X (.Assign [.Subscript o i pos'] value pos) (Dd td ty tv):=⟨MS (by omega) b.h a.h c.h hs⟩
end
section
variable {X:Cx}{K:W.Frag}{k j:Nat}{f C:Addr}{fd:FuncData}{ps:List Str}{sp:Sp}{x m:Str}{p pos apos pos' tpos:Pos}{e o value:Expr}{es:List Expr}{ta tv:TE}{t:TA}
def Mr{f:Str}(h:X.K=K)(a:QE X o ta)(b:QE X value tv):QS X (.AugAssign (.Attribute o f tpos) .Add value pos) (Db K ta tv Dr f):=by subst h;exact⟨MP a.h b.h Pp⟩
structure Wm (P:Program) (w:World) (K:W.Frag) (mg:Str->Option Value) (base:Heap) (C:Addr) (m:Str) (k:Nat) (f:Addr) (fd:FuncData) (ps:List Str) (sp:Sp):Prop where
 c:Cls K C
 mt:Meth K C m f
 b:aq K fd ps []
 ok:BC P w K mg base k f fd ps sp
end
section
variable {X:Cx}{K:W.Frag}
def Sc:R2:=λy x H Q=>∃a ov,x=.ref a/\c6 H a y ov/\Q (.bl ov.isSome) H
def rV(h:X.A.units+64<cLine):aV X (compareOp .In) Sc:=by
 intro b s σ H x y v u Q I d c q;obtain⟨a,f,rfl,g,q⟩:=q;obtain rfl:u=Value.ref a:=c;exact SL (by omega) I g d λi e=>⟨.bl f.isSome,H,e,rfl,q⟩
def FO(K:W.Frag):V->List V->Hp->VK->Prop:=λx vs H Q=>∃(a:Addr) (y:V) (xs:List V) (j:Nat),x=.ref a/\vs=[y]/\H a=some (.lst xs)/\gM y=true/\xs.all gM=true/\(∃z,xs[j]? = some z/\eI z y=true)/\(∀i z,i<j->xs[i]? = some z->eI z y=false)/\Q (.int (j:Int)) H
def Ow:gw X "list.index" (FO X.K):=by
 intro p s σ H x vs v us Q I U L q;obtain⟨a,y,xs,j,rfl,rfl,hx,S,fx,⟨z,hz,N⟩,m,q⟩:=q;cases U;obtain⟨u,rfl,G⟩:=jG L;obtain⟨b,l,pl,hsz⟩:=I.list (.of hx);have V:=l.length;have hj:j<b.length:=by have:=(WF.mp hz).1;omega
 obtain⟨⟨J,R,O,M⟩,n,r,C,B,D⟩:=pl;simp only at C B D;subst C B D;have at_:∀i (d:i<b.toArray.size),∃z,xs[i]? = some z/\eJ y b.toArray[i]=eI z y:=λi d=>by
  have c:i<xs.length:=by rw[WH]at d;omega
  obtain⟨w,hw,k⟩:=l.get (i:=i) (x:=xs[i]) (by simp[c]);have e:b.toArray[i]=w:=by simpa using (WF.mp hw).2
  refine⟨xs[i],by simp[c],?_⟩;rw[e];exact zv k (Ye.mp fx _ (Yi c))
 refine call_meets Y4 ⟨_,r,Z⟩ PySem.F.entry_list_index (PySem.F.args_list_index_2 _ _)
  (SeqAt.list_indexAt a b.toArray n _ _ u (eJ y) j (by simpa using hj) ?_ ?_ ?_) ⟨r,λw hw=>lY G S l fx w (by simpa using hw),⟨.int j,H,I.tok _,⟨_,rfl⟩,q⟩⟩
 ·have:sizeLine<=2 ^ 40:=by decide
  have:(2:Int) ^ 63=9223372036854775808:=by decide
  have:(2:Nat) ^ 40=1099511627776:=by decide
  omega
 ·obtain⟨o,f,h⟩:=at_ j (by simpa using hj);rw[hz]at f;cases f;rw[h];exact N
 ·intro i d g;obtain⟨o,f,h⟩:=at_ i d;rw[h];exact m i o g f
def D8 (h:X.K=K):gw X "list.index" (FO K):=by subst h;exact Ow
end
section
open HT
variable {prog:Program}{w:World}{A:Around}{E:Value->fv->Prop}{s:fv}
def QQ{t d:Addr}{items:Array Value}{i g:Value}{lo c:Option Int}{Q:Value->fv->Prop}(b:IsTup s.heap t items)(hs:s.heap.IsSliceOf d i g .none)(pl:IsPart i lo)(k:IsPart g c)
 (hw:sIx items.size 0 lo=0/\sIx items.size items.size c=items.size) (h:Q (.ref t) s):wpAny (model prog w) A (getItem (.ref t) (.ref d)) Q E s:=by
 obtain⟨os,e,f,j⟩:=id hs;have hTs:s.TypeIs (.ref d) "slice":=⟨os,e,f⟩;unfold getItem
 try with_reducible refine wpAny_holding ?_
 first|refine kb (ZO ?_)|skip
 refine kb (wpAny_sequenceKey b.typeIs (by decide) ?_);refine kb (wpAny_callSpecial?_slot (name:=Str.ofString "__getitem__") b.typeIs XQ
  (wpAny_call_entry XQ b.typeIs entry_tuple_getitem ?_ (args_tuple_getitem _ _)))
 show wpAny _ _ (Builtin.Tuple.tupleItemsOf (.ref t) >>= _) _ _ s;refine kb (tupleItemsOf_ b ?_);refine kb (wpAny_typeOf hTs ?_);rw[ZQ (by decide)];refine kb (CK hs pl k ?_);have a:((((sIx items.size 0 lo:Nat):Int) == 0 && (1:Int) == 1 && (sIx items.size items.size c-sIx items.size 0 lo) == items.size)=true):=by
  rw[hw.1,hw.2];simp
 show wpAny _ _ (if (((sIx items.size 0 lo:Nat):Int) == 0 && (1:Int) == 1 && (sIx items.size items.size c-sIx items.size 0 lo) == items.size)=true then _ else _) _ _ s;rw[ZQ a];unfold Builtin.Tuple.tupleIsExact;refine kb (kb (wpAny_typeOf b.typeIs (ZO ?_)));rw[ZQ (by decide)];refine kb (wpAny_rule ?_)
 first
  | exact ZO ⟨_,rfl,ZO h⟩
  | exact kb (ZO ⟨_,rfl,ZO h⟩)
  | exact kb (ZO (ZO ⟨_,rfl,ZO h⟩))
end
section
variable {X:Cx}{K:W.Frag}{pos:Pos}
def ON:TE:=λ_ H Q=>∀p H',bc H p (.dT []) H'->Q (.ref p) H'
def Dy:QE X (.Dict [] [] pos) ON:=⟨Nt.imp λσ H Q q=>λp a=>q p _ (.mk' a)⟩
def FM(K:W.Frag):V->Option Int->Option Int->Hp->VK->Prop:=λx lo b H Q=>match x with
 | .ref a=>∃xs,be K H a xs/\H a=some (.tup xs)/\∀p H',af H H'->H' p=some (.tup (cY xs lo b))->Q (.ref p) H'
 | _=>False
def Rs:ka X (FM X.K):=by
 intro c s σ H x v m k lo e n Q I j hs pl f q;cases x with
 | ref a =>
  obtain⟨xs,h,l,q⟩:=q;by_cases hw:HT.sIx xs.length 0 lo=0/\HT.sIx xs.length xs.length e=xs.length
  ·cases j;obtain⟨d,r,g,hz⟩:=I.tuple h;have b:d.toArray.size=xs.length:=by rw[WH];exact r.length.symm
   refine⟨"tuple",_,XQ.lookup,g.typeIs,?_⟩;refine QQ g hs pl f (by rw[b];exact hw) ?_;refine⟨.ref a,H,I,Z,q a H (af.refl _) ?_⟩;rw[l];unfold cY;rw[hw.1,hw.2,YS,Xv (by omega)]
  ·exact Kw c s σ H _ v m k lo e n Q I j hs pl f ⟨a,xs,Z,h,hw,λp i=>q p _ (bc.mk' i).sm (bc.mk' i).at_⟩
 | _=>exact False.elim q
def FF(h:X.K=K):ka X (FM K):=by subst h;exact Rs
end
structure InitC (K:W.Frag) (Y f:Addr):Prop where
 sp:W.specialIn K (.ref Y) "__getattribute__" = some (some (.builtin "type.__getattribute__"))
 rd:W.readsIn K Y (.type "type")=true
 fc:W.findCls K (.ref Y) (.type "type") "__init__" = some (.val (.ref f))
structure G0 (P:Program) (w:World) (K:W.Frag) (mg:Str->Option Value) (base:Heap) (j:Nat) (f:Addr) (fd:FuncData) (ps:List Str) (dvs:List V) (sp:Sp):Prop where
 kp:W.keepIn K (.ref f)=true
 b:∃ds,aq K fd ps ds/\ay dvs ds
 ok:bo P w K mg base bK j f fd ps sp
section
variable {X:Cx}{K:W.Frag}{Y g:Addr}{y:Str}{np apos pos:Pos}{a:Expr}{es:List Expr}{t:TA}{k j:Nat}{fd:FuncData}{ps:List Str}{sp:Sp}{dvs:List V}
def Mq{pl:Sem Bool}(h:X.K=K)(B:InitC K Y g)(C:X.mg y=some (.ref Y))(F:G0 X.prog X.w X.K X.mg X.base j g fd ps dvs sp)(L:bH k X.A)(J:QA X (a::es) t)(hj:j<=k:=by decide)(D:Gl X y:=by rfl)(hd:(y == ("__debug__" : Str))=false:=by decide)(i:dj (a::es)=true:=by rfl)
 (n:eval (.Call (.Attribute (.Name y np) "__init__" apos) (a::es) [] pos) X.env=(do
   let ov <- eval (.Name y np) X.env
   standAt apos.atName
   let (f,first) <- holding [ov] (getMethod ov "__init__" pl)
   callWith pos f first (backTo pos (starEach (a::es) X.env)) (backToKw pos (keywordEach [] X.env))):=by rfl) :
 QE X (.Call (.Attribute (.Name y np) "__init__" apos) (a::es) [] pos) (mO sp dvs E0 t):=⟨by
 subst h;intro c s σ H Q I h;have G:PE X (.Name y np) (tC (.ref Y)):=(iP (v:=.ref Y) D C rfl hd).h;refine W.methodCall_KW (pl:=pl) (aw (G c s σ H (λv o=>v=.ref Y/\mO sp dvs E0 t σ o Q) I ⟨rfl,h⟩) λu s1 ⟨x,z,d,M,ex,q⟩=>?_) n;subst ex;obtain rfl:u=Value.ref Y:=M;refine W.method_cls d.kIn B.sp (W.cls_value (s:=s1) d.kIn B.rd B.fc Z ?_);have m:=d.tok (s1.toks+1);obtain⟨N,hb,e⟩:=F.b;refine W.callWith_K (h₀:=X.base) m.ok.mod.kin F.kp (aw (J.h pos c { s1 with toks:=s1.toks+1 } σ z _ m q) λus O ⟨vs,R,l,r,p⟩=>⟨l.kIn,?_⟩) (cU (c9 i).1) (hU (c9 i).2);exact ri F.ok (L.mono hj) hb e DK l r p⟩
end
section
variable {X:Cx}{o e:Expr}{apos cpos:Pos}{td ty:TE}
def DA (g:X.A.units+64<cLine) (f:QE X o td) (a:QE X e ty) (hb:attributeBase o "get" X.env (eval o X.env)=eval o X.env:=by rfl)
 (c:((backTo cpos (starEach [e] X.env)).all (λx=>!x.1) && (backToKw cpos (keywordEach [] X.env)).all (λx=>x.1.isSome)
   && decide (([e]:List Expr).length+([]:List Keyword).length+(if ([]:List Keyword).isEmpty then 0 else 1)<30))=true:=by rfl)
 (b:(apos.endLine == cpos.line)=true:=by rfl) (d:backTo cpos (starEach [e] X.env)=[(false,eval e X.env)]:=by rfl) :
 QE X (.Call (.Attribute o "get" apos) [e] [] cpos) (Ca td ty):=⟨Nv (by omega) f.h a.h ⟨hb,c,b,d⟩⟩
end
def strOf? : Value->Option Str
 | .str x _=>some x
 | _=>none
def refOf? : Value->Option Addr
 | .ref a=>some a
 | _=>none
def strOf?.eq{v:Value}{x:Str}(h:strOf? v=some x):∃t,v=.str x t:=by
 cases v<;>first|(cases h;exact⟨_,Z⟩)|cases h
def refOf?.eq{v:Value}{a:Addr}(h:refOf? v=some a):v=.ref a:=by
 cases v<;>first|(cases h;rfl)|cases h
def j4:List DictEntry->Option (List (Int × Str × Addr))
 | []=>some []
 | e::r=>(strOf? e.key).bind λx=>(refOf? e.val).bind λa=>(j4 r).map λl=>(e.hash,x,a)::l
theorem j4.pairs{P:Program}{w:World}:∀ {es:List DictEntry} {m:List (Int × Str × Addr)},j4 es=some m->(∀p∈m,p.1=hashStr w p.2.1) ->
 (∀e∈es,∃k,(cz P w).is k e.key=true/\e.hash=(cz P w).hash k)/\Pairs (cz P w) es (m.map λp=>((Sum.inr p.2.1:aQ),Value.ref p.2.2))
 | [],m,h,_=>by cases h;exact⟨λ_ z=>(nomatch z),.nil⟩
 | e::r,m,h,hs=>by
  unfold j4 at h;obtain⟨x,hx,h⟩:=Yh.mp h;obtain⟨a,d,h⟩:=Yh.mp h;obtain⟨l,f,h⟩:=Xq.mp h;subst h;obtain⟨o,j⟩:=strOf?.eq hx;obtain⟨g,q⟩:=j4.pairs (P:=P) (w:=w) f λp n=>hs p (W4 _ n);have c:(cz P w).is (.inr x) e.key=true:=by rw[j];exact D6 P w x o
  refine⟨λi b=>?_,.cons c (refOf?.eq d) q⟩;rcases WU.mp b with rfl|b
  ·exact⟨.inr x,c,hs _ W3⟩
  ·exact g i b
structure qy (K:W.Frag) (w:World) (a:Addr) (m:List (Int × Str × Addr)):Prop where
 ex:∃es ep,K.lookup a=some ⟨.type "dict",none,.dict es ep,#[]⟩/\j4 es.toList=some m
 hs:∀p∈m,p.1=hashStr w p.2.1
 nd:(m.map (·.2.1)).Nodup
 ns:(a == sysModules)=false
def qy.rd{K:W.Frag}{a:Addr}{m:List (Int × Str × Addr)}{P:Program}{w:World}{h:Heap}(D:qy K w a m)(X:K.In h):h.DictOf (cz P w) a (m.map λp=>((Sum.inr p.2.1:aQ),Value.ref p.2.2)):=by
 obtain⟨es,d,l,e⟩:=D.ex;obtain⟨g,f⟩:=j4.pairs (P:=P) (w:=w) e D.hs;refine⟨_,es,d,X _ _ l,⟨rfl,rfl,rfl⟩,rfl,λe c=>g e (Zt.mpr c),f,?_⟩;rw[XE];have:(((λx=>x.1) ∘ λp:Int × Str × Addr=>((Sum.inr p.2.1:aQ),Value.ref p.2.2)):Int × Str × Addr->aQ)=(λi:Str=>(Sum.inr i:aQ)) ∘ (·.2.1):=rfl;rw[this,<- XE];exact List.Pairwise.map _ (λa b (z:a≠b) (q:(Sum.inr a:aQ)=Sum.inr b)=>z (Sum.inr.inj q)) D.nd
def iZ(m:List (Int × Str × Addr))(z:Str):Option Addr:=(m.find? λp=>decide (p.2.1=z)).map (·.2.2)
theorem xO:∀(m:List (Int × Str × Addr)) (z:Str),valueAt (m.map λp=>((Sum.inr p.2.1:aQ),Value.ref p.2.2)) (Sum.inr z)=(iZ m z).map Value.ref
 | [],z=>rfl
 | p::m,z=>by
  have ih:=xO m z;unfold iZ valueAt at ih ⊢;rw[W7,Xf,Xf];by_cases c:p.2.1=z
  ·have c':(Sum.inr p.2.1:aQ)=Sum.inr z:=congrArg _ c;simp only [ZT c,ZT c',XM]
  ·have c':¬(Sum.inr p.2.1:aQ)=Sum.inr z:=λq=>c (Sum.inr.inj q);simp only [ZU c,ZU c'];exact ih
def Sb(a:Addr)(m:List (Int × Str × Addr))(neg:Bool):R2:=λx y H Q=>∃z,x=.str z/\y=.ref a/\Q (.bl (if neg then !(iZ m z).isSome else (iZ m z).isSome)) H
section
variable {X:Cx}{K:W.Frag}{w:World}{a:Addr}{m:List (Int × Str × Addr)}
def RC(h:X.K=K)(hw:X.w=w)(D:qy K w a m):aV X (compareOp .NotIn) (Sb a m true):=by
 subst h hw;intro b s σ H x y v u Q I c d q;obtain⟨z,rfl,rfl,q⟩:=q;obtain rfl:u=Value.ref a:=d;refine wpAny_notIn_of (jq (k:=.inr z) c) D.ns (D.rd (P:=X.prog) (w:=X.w) I.kIn).mapOf ?_;rw[xO,Ys];exact⟨.bl _,H,I.tok _,Z,q⟩
def Ms{i:Expr}{e:TE}{x:Str}{p pos:Pos}(h:X.K=K)(hw:X.w=w)(D:qy K w a m)(B:Gl X x)(r:X.mg x=some (.ref a))(C:QE X i e)(hs:uh i:=by intro _ _;rfl)(hd:(x == ("__debug__" : Str))=false:=by decide) :
 QE X (.Subscript (.Name x p) i pos) (λσ H Q=>e σ H λy d=>∃z b,y=.str z/\iZ m z=some b/\Q (.ref b) d):=⟨by
 subst h hw;intro c s σ H Q I h;have G:PE X (.Name x p) (tC (.ref a)):=(iP (v:=.ref a) B r rfl hd).h;refine Cg Zl.lookup hs (aw (G c s σ H (λv l=>v=.ref a/\e σ l λy d=>∃z b,y=.str z/\iZ m z=some b/\Q (.ref b) d) I ⟨rfl,h⟩) λu s1 ⟨x,d,o,M,ex,L⟩=>aw (C.h c s1 σ d _ o L) λO N ⟨y,J,f,F,z,b,q,g,n⟩=>?_);subst ex q;obtain rfl:u=Value.ref a:=M;have j:=D.rd (P:=X.prog) (w:=X.w) f.kIn;exact⟨j.typeIs,wpAny_getItem_of (jq (k:=.inr z) F) j.mapOf (by rw[xO,g];rfl) ⟨.ref b,J,f.tok _,rfl,n⟩⟩⟩
end
structure Wr (P:Program) (w:World) (K:W.Frag) (mg:Str->Option Value) (base:Heap) (x:Str) (k:Nat) (f:Addr) (fd:FuncData) (ps:List Str) (dvs:List V) (sp:Sp):Prop where
 g:mg x=some (.ref f)
 kp:W.keepIn K (.ref f)=true
 b:∃ds,aq K fd ps ds/\ay dvs ds
 ok:bo P w K mg base bK k f fd ps sp
section
variable {X:Cx}{k j:Nat}{f:Addr}{fd:FuncData}{ps:List Str}{sp:Sp}{x:Str}{p pos:Pos}{e:Expr}{es:List Expr}{t:TA}{dvs:List V}
def Mb{body:List Stmt}{h₀:ExceptHandler}{tb:TS}(hb:∀pn,fw (X.tryc pn λ_ _=>False) body tb):QS X (.Try body [h₀] [] [] pos) tb:=⟨by
 intro a s σ H D I h;refine wpAny_Try_except (wpAny_mono ((hb (X.pn++a)).h [] s σ H D I.tryc h) (λf s1 q=>?_) λv s1 q=>q.elim);cases f with
 | next=>obtain⟨c,b,d,q⟩:=q;exact wpAny_execs_nil ⟨c,b,d.untry,q⟩
 | brk=>exact SP.untry (f:=.brk) q
 | cont=>exact SP.untry (f:=.cont) q
 | ret u=>exact SP.untry (f:=.ret u) q⟩
end
def iN:List Value->Option (List Addr)
 | []=>some []
 | .ref m::u=>(match iN u with|some l=>some (m::l)|none=>none)
 | _=>none
theorem iN.vals:∀ {us:List Value} {ns:List Addr},iN us=some ns->ay (ns.map V.ref) us
 | [],ns,h=>by cases h;exact .nil
 | .ref m::u,ns,h=>by
  unfold iN at h;cases q:iN u with
  | none=>rw[q]at h;cases h
  | some l=>rw[q]at h;cases h;exact .cons Z (iN.vals q)
def BR {K:W.Frag} {a:Addr} {d:Option Addr} {b:Array Value} {n:Nat} {e:Array (Option Value)} {ns:List Addr} (h:K.lookup a=some ⟨.type "tuple",d,.seq b n,e⟩) (c:iN b.toList=some ns) (hz:b.size<=1000:=by decide) (H:Hp):be K H a (ns.map V.ref) :=
 .inr ⟨_,b,n,h,rfl,rfl,sz (Zr hz),iN.vals c⟩
end L2
namespace L2
open PySem
def SY{lo c:Int}{n:Nat}{cs:St}{l:TT}{r:TE}{H:Hp}{Q:VK}(f:Nat->List V->Hp->Prop)(B:f 0 [] H)(u:∀i ys H,i<=n->f i ys H->ys.length<=i)(hz:n<=sizeLine)
 (hs:∀i ys H (N:List V->Hp->Prop),i<n->f i ys H->(∀a d,f (i+1) a d->N a d)->l (some (.int (lo+i*c))::cs) H λb k=>if b=true then r (some (.int (lo+i*c))::cs) k λy v=>N (ys++[y]) v else N ys k)
 (hd:∀ys H p d,f n ys H->bc H p (.lst ys) d->Q (.ref p) d) :
 iG (ul lo c n) H (List.replicate 1 none++cs) (cO 0) l r Q:=by
 refine⟨λi m ys σ H=>m=n-i/\i<=n/\f i ys H/\∃h,σ=h::cs,⟨n,by simp,WT _,B,none,rfl⟩,?_⟩;rintro i m ys σ o ⟨rfl,s,p,h,rfl⟩;have C:=u i ys o s p;by_cases hlt:i<n
 ·refine .inr ⟨hlt,by omega,λa q d=>f (i+1) a d/\∃h,q=h::cs,λa q d ⟨j,e⟩=>⟨n-(i+1),by omega,rfl,hlt,j,e⟩,λx d y=>?_⟩;obtain⟨e,y⟩:=y;subst e y;exact hs i ys d (λa d=>f (i+1) a d/\∃h,some (V.int (lo+i*c))::cs=h::cs) hlt p λ_ _ z=>⟨z,_,Z⟩
 ·have e:i=n:=by omega
  subst e;exact .inl ⟨WB _,by omega,λj d g=>hd ys o j d p g⟩
def SW{lo c:Int}{n:Nat}{cs:St}{h:TE}{H:Hp}{Q:VK}(d:List V)(k:d.length=n)(hz:n<=sizeLine)
 (hs:∀(i:Nat) y a (N:VK),i<n->d[i]? = some y->af H a->(∀b,af a b->N y b)->h (some (.int (lo+i*c))::cs) a N) (hd:∀p a,bc H p (.lst d) a->Q (.ref p) a) :
 iG (ul lo c n) H (List.replicate 1 none++cs) (cO 0) jH h Q:=by
 refine SY (λi ys a=>af H a/\ys=d.take i) ⟨af.refl _,rfl⟩ (λi ys a f z=>by rw[z.2,WO];omega) hz (λi ys a N f z hN=>?_) λys a p b z g=>?_
 ·obtain⟨s,rfl⟩:=z;have e:i<d.length:=by omega
  have j:d[i]? = some d[i]:=W9 e;simp only [jH,if_true];exact hs i _ a _ f j s λb l=>hN _ _ ⟨s.trans l,by rw[dO j]⟩
 ·obtain⟨s,rfl⟩:=z;rw[<- k,WY]at g;exact hd p b (g.after s)
end L2
namespace My
open PySem L2
def Wt{X:Cx}(K:W.Frag)(h:X.K=K:=by rfl):=bh (X:=X) (K:=K) h
def Wu{X:Cx}(K:W.Frag)(h:X.K=K:=by rfl):=bW (X:=X) (K:=K) h
def Wv{X:Cx}(K:W.Frag)(h:X.K=K:=by rfl):=av (X:=X) (K:=K) h
def Ww{X:Cx}(K:W.Frag)(h:X.K=K:=by rfl):=dQ (X:=X) (K:=K) h
def Wx{X:Cx}(K:W.Frag)(h:X.K=K:=by rfl):=fk (X:=X) (K:=K) h
def Wz{X:Cx}(K:W.Frag)(h:X.K=K:=by rfl):=iB (X:=X) (K:=K) h
def top(i:Nat):Stmt:=PySem.Challenge.pw_bytetongue_k95_whole_any_bytes_in_all.main.body.getD i (.Pass ⟨0,0,0,0⟩)
abbrev vP:Stmt:=top 10
abbrev vT:Stmt:=top 11
abbrev vQ:Stmt:=top 12
abbrev vL:Stmt:=top 13
abbrev vN:Stmt:=top 14
abbrev vM:Stmt:=top 15
abbrev qZ:Stmt:=top 16
abbrev wU:Stmt:=bp (top 24) 0
abbrev vx:Stmt:=top 26
abbrev vy:Stmt:=top 27
abbrev wu:Stmt:=bp (top 29) 0
abbrev wt:Stmt:=bp (top 29) 1
abbrev vw:Stmt:=top 30
abbrev wB:Stmt:=bp (top 32) 0
abbrev wD:Stmt:=bp (top 32) 4
abbrev wE:Stmt:=bp (top 32) 6
abbrev wC:Stmt:=bp (top 32) 7
abbrev wF:Stmt:=bp (top 32) 8
abbrev wv:Stmt:=bp (top 32) 9
abbrev wA:Stmt:=bp (top 32) 10
abbrev wx:Stmt:=bp (top 32) 11
abbrev wz:Stmt:=bp (top 32) 12
abbrev ww:Stmt:=bp (top 32) 13
abbrev wH:Stmt:=bp (top 35) 0
abbrev wG:Stmt:=bp (top 35) 1
abbrev q9:Stmt:=bp (top 36) 0
abbrev wT:Stmt:=bp (top 38) 0
abbrev wS:Stmt:=bp (top 38) 1
abbrev vF:Stmt:=top 39
abbrev rg:Stmt:=bp (top 41) 0
abbrev wR:Stmt:=bp (top 41) 1
abbrev rf:Stmt:=bp (top 41) 2
abbrev rh:Stmt:=bp (top 41) 3
abbrev vX:Stmt:=top 43
abbrev vG:Stmt:=top 44
abbrev vA:Stmt:=top 45
abbrev vJ:Stmt:=top 54
abbrev qY:Stmt:=top 55
abbrev vK:Stmt:=top 56
abbrev vY:Stmt:=top 57
abbrev vU:Stmt:=top 58
abbrev vH:Stmt:=top 59
abbrev q8:Stmt:=top 60
abbrev wQ:Stmt:=bp (top 61) 1
abbrev wP:Stmt:=bp (top 61) 2
abbrev re:Stmt:=bp (top 61) 3
abbrev wa:Stmt:=bp (top 47) 1
abbrev wb:Stmt:=bp (top 47) 6
abbrev vz:Stmt:=top 66
abbrev vB:Stmt:=top 67
abbrev wN:Stmt:=bp (top 68) 0
abbrev wJ:Stmt:=bp (top 68) 1
abbrev wK:Stmt:=bp (top 68) 3
abbrev wM:Stmt:=bp (top 68) 4
abbrev rc:Stmt:=bp (top 68) 5
abbrev wL:Stmt:=bp (top 68) 6
abbrev wI:Stmt:=bp (top 68) 7
abbrev wO:Stmt:=bp (top 68) 8
abbrev vD:Stmt:=top 70
abbrev vC:Stmt:=top 71
abbrev vZ:Stmt:=top 73
abbrev vE:Stmt:=top 77
abbrev wp:Stmt:=bp (top 78) 0
abbrev wn:Stmt:=bp (top 78) 1
abbrev wl:Stmt:=bp (top 78) 6
abbrev wm:Stmt:=bp (top 78) 7
abbrev wk:Stmt:=bp (top 78) 8
abbrev wr:Stmt:=bp (top 78) 9
abbrev vS:Stmt:=top 82
abbrev vV:Stmt:=top 83
abbrev vW:Stmt:=top 84
abbrev we:Stmt:=bp (top 85) 0
abbrev wj:Stmt:=bp (top 85) 1
abbrev wd:Stmt:=bp (top 85) 4
abbrev wc:Stmt:=bp (top 85) 5
abbrev wg:Stmt:=bp (top 85) 6
abbrev vj:Stmt:=top 87
abbrev vd:Stmt:=top 88
abbrev vg:Stmt:=top 89
abbrev vo:Stmt:=top 90
abbrev vh:Stmt:=top 91
abbrev vk:Stmt:=top 92
abbrev vm:Stmt:=top 93
abbrev va:Stmt:=top 94
abbrev ve:Stmt:=top 95
abbrev qV:Stmt:=top 96
abbrev vp:Stmt:=top 97
abbrev vi:Stmt:=top 98
abbrev vf:Stmt:=top 99
abbrev qX:Stmt:=top 100
abbrev vt:Stmt:=top 101
abbrev qW:Stmt:=top 102
abbrev iu:Stmt:=top 103
def KR:ax ["thing"] ["thing"] (al vP):=by constructor<;>first|rfl|decide +kernel
def KW:ax ["thing"] ["thing"] (al vT):=by constructor<;>first|rfl|decide +kernel
def KS:ax ["number"] ["number"] (al vQ):=by constructor<;>first|rfl|decide +kernel
def KN:ax ["number"] ["number"] (al vL):=by constructor<;>first|rfl|decide +kernel
def KP:ax ["thing"] ["thing"] (al vN):=by constructor<;>first|rfl|decide +kernel
def KO:ax ["thing"] ["thing"] (al vM):=by constructor<;>first|rfl|decide +kernel
def KQ:ax ["thing"] ["thing"] (al qZ):=by constructor<;>first|rfl|decide +kernel
def LA:ax ["self", "place", "length", "kind"] ["self", "place", "length", "kind"] (al wU):=by constructor<;>first|rfl|decide +kernel
def lQ:ax ["tongue", "text", "page", "row", "at", "sign", "spelled"] ["tongue", "text", "page"] (al vx):=by constructor<;>first|rfl|decide +kernel
def KJ:ax ["tongue", "text"] ["tongue", "text"] (al vy):=by constructor<;>first|rfl|decide +kernel
def Ld:ax ["self", "tongue"] ["self", "tongue"] (al wu):=by constructor<;>first|rfl|decide +kernel
def Lc:ax ["self", "sign", "page"] ["self", "sign", "page"] (al wt):=by constructor<;>first|rfl|decide +kernel
def KI:ax ["tongue", "text"] ["tongue", "text"] (al vw):=by constructor<;>first|rfl|decide +kernel
def Li:ax ["self", "tongue", "place"] ["self", "tongue", "place"] (al wB):=by constructor<;>first|rfl|decide +kernel
def Lj:ax ["self"] ["self"] (al wD):=by constructor<;>first|rfl|decide +kernel
def Ll:ax ["self"] ["self"] (al wE):=by constructor<;>first|rfl|decide +kernel
def uY:ax ["self", "row", "signs", "byte"] ["self", "row"] (al wC):=by constructor<;>first|rfl|decide +kernel
def C4:ax ["self", "signs"] ["self"] (al wF):=by constructor<;>first|rfl|decide +kernel
def Lf:ax ["self", "byte"] ["self", "byte"] (al wv):=by constructor<;>first|rfl|decide +kernel
def uX:ax ["self", "found"] ["self"] (al wA):=by constructor<;>first|rfl|decide +kernel
def C3:ax ["self", "ahead_of_last"] ["self"] (al wx):=by constructor<;>first|rfl|decide +kernel
def Lh:ax ["self", "length", "kind"] ["self", "length", "kind"] (al wz):=by constructor<;>first|rfl|decide +kernel
def Lg:ax ["self", "length", "kind"] ["self", "length", "kind"] (al ww):=by constructor<;>first|rfl|decide +kernel
def Ln:ax ["self", "sign"] ["self", "sign"] (al wH):=by constructor<;>first|rfl|decide +kernel
def Lm:ax ["self", "row"] ["self", "row"] (al wG):=by constructor<;>first|rfl|decide +kernel
def Le:ax ["self", "row"] ["self", "row"] (al q9):=by constructor<;>first|rfl|decide +kernel
def Lz:ax ["self", "tongue", "way", "place"] ["self", "tongue", "way", "place"] (al wT):=by constructor<;>first|rfl|decide +kernel
def C9:ax ["self", "length", "kind", "told"] ["self", "length", "kind"] (al wS):=by constructor<;>first|rfl|decide +kernel
def iK:ax ["tongue", "row", "reader", "things", "faults", "parts", "page", "thing", "fault", "spelled"] ["tongue", "row"] (al vF):=by constructor<;>first|rfl|decide +kernel
def Lx:ax ["self", "tongues"] ["self", "tongues"] (al rg):=by constructor<;>first|rfl|decide +kernel
def C8:ax ["self", "row", "reader"] ["self", "row"] (al wR):=by constructor<;>first|rfl|decide +kernel
def Lw:ax ["self"] ["self"] (al rf):=by constructor<;>first|rfl|decide +kernel
def Ly:ax ["self"] ["self"] (al rh):=by constructor<;>first|rfl|decide +kernel
def KZ:ax ["number", "bits"] ["number", "bits"] (al vX):=by constructor<;>first|rfl|decide +kernel
def mY:ax ["number", "bits", "many", "rising", "step", "higher"] ["number", "bits", "many"] (al vG):=by constructor<;>first|rfl|decide +kernel
def qS:ax ["parts", "bits", "number", "part"] ["parts", "bits"] (al vA):=by constructor<;>first|rfl|decide +kernel
def KL:ax ["sign"] ["sign"] (al vJ):=by constructor<;>first|rfl|decide +kernel
def uT:ax ["sign", "length", "parts"] ["sign"] (al qY):=by constructor<;>first|rfl|decide +kernel
def KM:ax ["first"] ["first"] (al vK):=by constructor<;>first|rfl|decide +kernel
def K1:ax ["row", "place"] ["row", "place"] (al vY):=by constructor<;>first|rfl|decide +kernel
def uU:ax ["row", "place", "bounds"] ["row"] (al vU):=by constructor<;>first|rfl|decide +kernel
def CW:ax ["row", "lack"] ["row"] (al vH):=by constructor<;>first|rfl|decide +kernel
def K0:ax ["row"] ["row"] (al q8):=by constructor<;>first|rfl|decide +kernel
def Lv:ax ["self", "sign", "page"] ["self", "sign", "page"] (al wQ):=by constructor<;>first|rfl|decide +kernel
def Lu:ax ["self", "row", "page"] ["self", "row", "page"] (al wP):=by constructor<;>first|rfl|decide +kernel
def C7:ax ["self", "row", "page", "lack"] ["self", "row", "page"] (al re):=by constructor<;>first|rfl|decide +kernel
def K4:ax ["self"] ["self"] (al wa):=by constructor<;>first|rfl|decide +kernel
def CY:ax ["self", "begun", "page", "found"] ["self", "begun", "page"] (al wb):=by constructor<;>first|rfl|decide +kernel
def CU:ax ["sign", "parts"] ["sign"] (al vz):=by constructor<;>first|rfl|decide +kernel
def KK:ax ["units"] ["units"] (al vB):=by constructor<;>first|rfl|decide +kernel
def Ls:ax ["self", "order"] ["self", "order"] (al wN):=by constructor<;>first|rfl|decide +kernel
def Lp:ax ["self"] ["self"] (al wJ):=by constructor<;>first|rfl|decide +kernel
def Lq:ax ["self", "pair"] ["self", "pair"] (al wK):=by constructor<;>first|rfl|decide +kernel
def uZ:ax ["self", "units", "row", "number"] ["self", "units"] (al wM):=by constructor<;>first|rfl|decide +kernel
def Lo:ax ["self", "row"] ["self", "row"] (al rc):=by constructor<;>first|rfl|decide +kernel
def Lr:ax ["self", "sign", "page"] ["self", "sign", "page"] (al wL):=by constructor<;>first|rfl|decide +kernel
def C5:ax ["self", "row", "page", "sign"] ["self", "row", "page"] (al wI):=by constructor<;>first|rfl|decide +kernel
def C6:ax ["self", "row", "page", "rest"] ["self", "row", "page"] (al wO):=by constructor<;>first|rfl|decide +kernel
def qT:ax ["tongue", "row", "reader", "text", "fault"] ["tongue", "row"] (al vD):=by constructor<;>first|rfl|decide +kernel
def CV:ax ["tongue", "row", "reader"] ["tongue", "row"] (al vC):=by constructor<;>first|rfl|decide +kernel
def K3:ax ["one", "other"] ["one", "other"] (al vZ):=by constructor<;>first|rfl|decide +kernel
def qU:ax ["signs", "which", "places", "place", "sign"] ["signs", "which"] (al vE):=by constructor<;>first|rfl|decide +kernel
def K8:ax ["self", "first", "second"] ["self", "first", "second"] (al wp):=by constructor<;>first|rfl|decide +kernel
def uW:ax ["self", "page", "place", "sign"] ["self", "page"] (al wn):=by constructor<;>first|rfl|decide +kernel
def K6:ax ["self", "sign", "page"] ["self", "sign", "page"] (al wl):=by constructor<;>first|rfl|decide +kernel
def K7:ax ["self", "byte", "page"] ["self", "byte", "page"] (al wm):=by constructor<;>first|rfl|decide +kernel
def uV:ax ["self", "row", "page", "sign"] ["self", "row", "page"] (al wk):=by constructor<;>first|rfl|decide +kernel
def K9:ax ["self", "row", "page"] ["self", "row", "page"] (al wr):=by constructor<;>first|rfl|decide +kernel
def KU:ax ["thing"] ["thing"] (al vS):=by constructor<;>first|rfl|decide +kernel
def KY:ax ["one", "other"] ["one", "other"] (al vV):=by constructor<;>first|rfl|decide +kernel
def mZ:ax ["rows", "other", "entry", "one", "earlier"] ["rows"] (al vW):=by constructor<;>first|rfl|decide +kernel
def C0:ax ["self", "rows", "entry"] ["self", "rows"] (al we):=by constructor<;>first|rfl|decide +kernel
def C2:ax ["self", "sign", "row", "size"] ["self", "sign", "row"] (al wj):=by constructor<;>first|rfl|decide +kernel
def K5:ax ["self", "sign", "page"] ["self", "sign", "page"] (al wd):=by constructor<;>first|rfl|decide +kernel
def CZ:ax ["self", "row", "page", "sign"] ["self", "row", "page"] (al wc):=by constructor<;>first|rfl|decide +kernel
def C1:ax ["self", "row", "page", "rest"] ["self", "row", "page"] (al wg):=by constructor<;>first|rfl|decide +kernel
def KF:ax ["_law_script", "_law_k"] ["_law_script", "_law_k"] (al vj):=by constructor<;>first|rfl|decide +kernel
def mS:ax ["_law_number", "_law_some", "_law_sign_here"] ["_law_number"] (al vd):=by constructor<;>first|rfl|decide +kernel
def mU:ax ["_law_script", "_law_pool_here", "_law_k", "_law_number"] ["_law_script"] (al vg):=by constructor<;>first|rfl|decide +kernel
def mX:ax ["_law_script", "_law_at", "_law_many", "_law_most", "_law_number", "_law_found", "_law_k"] ["_law_script", "_law_at", "_law_many", "_law_most"] (al vo):=by constructor<;>first|rfl|decide +kernel
def gz:ax ["_law_number", "_law_pool_here", "_law_kind", "_law_rest", "_law_first", "_law_second", "_law_k", "_law_sign_here", "_law_bits", "_law_rows", "_law_wide", "_law_stem"] ["_law_number", "_law_pool_here"] (al vh):=by constructor<;>first|rfl|decide +kernel
def KG:ax ["_law_plan_here"] ["_law_plan_here"] (al vk):=by constructor<;>first|rfl|decide +kernel
def KH:ax ["_law_sign_here"] ["_law_sign_here"] (al vm):=by constructor<;>first|rfl|decide +kernel
def lP:ax ["_law_sign_here", "_law_order", "_law_units_here", "_law_found", "_law_number", "_law_pair"] ["_law_sign_here", "_law_order"] (al va):=by constructor<;>first|rfl|decide +kernel
def CT:ax ["_law_plan_here", "_law_sign_here", "_law_page", "_law_here"] ["_law_plan_here", "_law_sign_here", "_law_page"] (al ve):=by constructor<;>first|rfl|decide +kernel
def KE:ax ["_law_plan_here", "_law_sign_here", "_law_page"] ["_law_plan_here", "_law_sign_here", "_law_page"] (al qV):=by constructor<;>first|rfl|decide +kernel
def uR:ax ["_law_cell", "_law_plans", "_law_pool_here", "_law_some", "_law_row"] ["_law_cell", "_law_plans", "_law_pool_here"] (al vp):=by constructor<;>first|rfl|decide +kernel
def mW:ax ["_law_row", "_law_cells", "_law_pieces_here", "_law_at", "_law_cell"] ["_law_row", "_law_cells"] (al vi):=by constructor<;>first|rfl|decide +kernel
def mT:ax ["_law_tongue", "_law_row", "_law_told", "e"] ["_law_tongue", "_law_row"] (al vf):=by constructor<;>first|rfl|decide +kernel
def qR:ax ["_law_parts", "_law_seen", "_law_whole", "_law_part"] ["_law_parts"] (al qX):=by constructor<;>first|rfl|decide +kernel
def uS:ax ["_law_parts", "_law_found", "_law_part"] ["_law_parts"] (al vt):=by constructor<;>first|rfl|decide +kernel
def uQ:ax ["_law_tongue", "_law_row", "_law_first_reader", "_law_signs", "_law_seeing", "_law_seen", "_law_parts", "_law_faults"] ["_law_tongue", "_law_row", "_law_first_reader", "_law_signs", "_law_seeing", "_law_seen"] (al qW):=by constructor<;>first|rfl|decide +kernel
def dP:ax ["_law_script", "_law_pool_here", "_law_numbers", "_law_plans", "_law_tongues", "_law_row", "_law_cell", "_law_plains", "_law_seeings", "_law_guesser", "_law_signs", "_law_seen", "_law_piece", "_law_k", "_law_tongue", "_law_texts", "_law_goers"] ["_law_script"] (al iu):=by constructor<;>first|rfl|decide +kernel
set_option genInjectivity false in
structure Adr where
 AW:Addr
 yL:FuncData
 AZ:Addr
 yO:FuncData
 AX:Addr
 yM:FuncData
 AS:Addr
 yH:FuncData
 AU:Addr
 yJ:FuncData
 AT:Addr
 yI:FuncData
 AV:Addr
 yK:FuncData
 ua:Addr
 zr:FuncData
 AC:Addr
 yp:FuncData
 AD:Addr
 yq:FuncData
 Bh:Addr
 y4:FuncData
 Bg:Addr
 y0:FuncData
 AB:Addr
 yo:FuncData
 mF:Addr
 mx:FuncData
 ud_Reader_init_0:Tok
 tR:Addr
 za:FuncData
 Bj:Addr
 zb:FuncData
 tQ:Addr
 y9:FuncData
 tS:Addr
 zc:FuncData
 tM:Addr
 y7:FuncData
 jy:Addr
 j0:FuncData
 qj:Addr
 sJ:FuncData
 tP:Addr
 sK:FuncData
 tO:Addr
 y8:FuncData
 Bl:Addr
 ze:FuncData
 ud_Put_init_0:Tok
 Bk:Addr
 zd:FuncData
 Bi:Addr
 y6:FuncData
 Bu:Addr
 zp:FuncData
 ud_GoingReader_init_0:Tok
 t5:Addr
 sS:FuncData
 AK:Addr
 yB:FuncData
 Br:Addr
 zm:FuncData
 Bs:Addr
 zn:FuncData
 Bq:Addr
 zl:FuncData
 Bt:Addr
 zo:FuncData
 A9:Addr
 yS:FuncData
 AL:Addr
 yC:FuncData
 AF:Addr
 yt:FuncData
 AN:Addr
 yE:FuncData
 AQ:Addr
 yG:FuncData
 AO:Addr
 yF:FuncData
 Bb:Addr
 yU:FuncData
 A6:Addr
 yP:FuncData
 AM:Addr
 yD:FuncData
 Ba:Addr
 yT:FuncData
 tY:Addr
 sQ:FuncData
 ud_LeadTongue_spell_0:Tok
 tX:Addr
 sO:FuncData
 ud_LeadTongue_whole_0:Tok
 tZ:Addr
 pK:FuncData
 ud_LeadTongue_fill_0:Tok
 j8:Addr
 mw:FuncData
 i5:Addr
 kX:FuncData
 ud_Tongue_look_0:Tok
 AE:Addr
 yr:FuncData
 AG:Addr
 yu:FuncData
 tV:Addr
 sN:FuncData
 ud_PairTongue_init_0:Tok
 Bn:Addr
 zi:FuncData
 Bo:Addr
 zj:FuncData
 Bp:Addr
 zk:FuncData
 Bm:Addr
 zf:FuncData
 tU:Addr
 sM:FuncData
 ud_PairTongue_spell_0:Tok
 tT:Addr
 sL:FuncData
 ud_PairTongue_whole_0:Tok
 tW:Addr
 pJ:FuncData
 ud_PairTongue_fill_0:Tok
 AI:Addr
 yy:FuncData
 AH:Addr
 yw:FuncData
 Bc:Addr
 yV:FuncData
 AJ:Addr
 yA:FuncData
 tK:Addr
 sH:FuncData
 Bf:Addr
 yZ:FuncData
 tJ:Addr
 sG:FuncData
 ud_ShiftTongue_spell_0:Tok
 Be:Addr
 yY:FuncData
 tI:Addr
 sE:FuncData
 ud_ShiftTongue_whole_0:Tok
 tL:Addr
 sI:FuncData
 ud_ShiftTongue_fill_0:Tok
 AY:Addr
 yN:FuncData
 A7:Addr
 yQ:FuncData
 A8:Addr
 yR:FuncData
 tF:Addr
 sr:FuncData
 Bd:Addr
 yX:FuncData
 tD:Addr
 so:FuncData
 ud_TableTongue_spell_0:Tok
 tB:Addr
 sk:FuncData
 ud_TableTongue_whole_0:Tok
 tH:Addr
 sx:FuncData
 ud_TableTongue_fill_0:Tok
 Au:Addr
 yg:FuncData
 Am:Addr
 x9:FuncData
 Aq:Addr
 yd:FuncData
 Ay:Addr
 yk:FuncData
 Ar:Addr
 ye:FuncData
 Aw:Addr
 yi:FuncData
 Ax:Addr
 yj:FuncData
 Ak:Addr
 x6:FuncData
 An:Addr
 ya:FuncData
 Al:Addr
 x8:FuncData
 Az:Addr
 yl:FuncData
 As:Addr
 yf:FuncData
 Ap:Addr
 yc:FuncData
 Av:Addr
 yh:FuncData
 AA:Addr
 ym:FuncData
 Ao:Addr
 yb:FuncData
 AR:Addr
 sj:FuncData
 ie:Addr
 cm:Addr
 eP:Addr
 i3:Addr
 cQ:Addr
 fo:Addr
 fP:Addr
 cP:Addr
 bX:Addr
 ce:Addr
 dX:Addr
 sX:Addr
 IY:Tok
 IW:Tok
 Bv:Addr
 h_FILLS_0:Int
 a_FILLS_0:Addr
 a_FILLS_0_0:Addr
 a_FILLS_0_1:Addr
 a_FILLS_0_2:Addr
 a_FILLS_0_3:Addr
 a_FILLS_0_4:Addr
 h_FILLS_1:Int
 a_FILLS_1:Addr
 a_FILLS_1_0:Addr
 a_FILLS_1_1:Addr
 a_FILLS_1_2:Addr
 a_FILLS_1_3:Addr
 a_FILLS_1_4:Addr
 IV:Tok
 IU:Tok
 IT:Tok
 IS:Tok
 IR:Tok
 IQ:Tok
 IP:Tok
 IO:Tok
 IN:Tok
 IM:Tok
 IL:Tok
 t0:Addr
 IK:Tok
 IJ:Tok
 II:Tok
 GR:Addr
 a_SECONDS_0:Addr
 a_SECONDS_1:Addr
 a_SECONDS_2:Addr
 a_SECONDS_3:Addr
 a_SECONDS_4:Addr
 qi:Addr
structure Txt (w:World) (K:PySem.W.Frag) (mg:Str->Option Value) (t:Adr):Prop where
 HS:Fun K "is_number" "is_number" vP t.AW t.yL
 Uu:aq K t.yL ["thing"] []
 RP:mg "is_number" = some (.ref t.AW)
 HW:Fun K "is_byte" "is_byte" vT t.AZ t.yO
 Ux:aq K t.yO ["thing"] []
 RT:mg "is_byte" = some (.ref t.AZ)
 HU:Fun K "is_head" "is_head" vQ t.AX t.yM
 Uv:aq K t.yM ["number"] []
 RQ:mg "is_head" = some (.ref t.AX)
 HM:Fun K "is_tail" "is_tail" vL t.AS t.yH
 Uq:aq K t.yH ["number"] []
 RL:mg "is_tail" = some (.ref t.AS)
 HQ:Fun K "is_seen_byte" "is_seen_byte" vN t.AU t.yJ
 Us:aq K t.yJ ["thing"] []
 RN:mg "is_seen_byte" = some (.ref t.AU)
 HN:Fun K "is_sign" "is_sign" vM t.AT t.yI
 Ur:aq K t.yI ["thing"] []
 RM:mg "is_sign" = some (.ref t.AT)
 HR:Fun K "is_row" "is_row" qZ t.AV t.yK
 Ut:aq K t.yK ["thing"] []
 RO:mg "is_row" = some (.ref t.AV)
 We:Fun K "__init__" "Faulty.__init__" wU t.ua t.zr
 Vk:aq K t.zr ["self", "place", "length", "kind"] []
 Hq:Fun K "write_from" "write_from" vx t.AC t.yp
 Ua:aq K t.yp ["tongue", "text", "page"] []
 Ro:mg "write_from" = some (.ref t.AC)
 Hr:Fun K "write" "write" vy t.AD t.yq
 Ub:aq K t.yq ["tongue", "text"] []
 Rp:mg "write" = some (.ref t.AD)
 VL:Fun K "__init__" "SeenSpeller.__init__" wu t.Bh t.y4
 UR:aq K t.y4 ["self", "tongue"] []
 VJ:Fun K "spell" "SeenSpeller.spell" wt t.Bg t.y0
 UQ:aq K t.y0 ["self", "sign", "page"] []
 Ho:Fun K "write_seen" "write_seen" vw t.AB t.yo
 T9:aq K t.yo ["tongue", "text"] []
 Rn:mg "write_seen" = some (.ref t.AB)
 Ig:FunD K "__init__" "Reader.__init__" wB t.mF t.mx [.int 0 t.ud_Reader_init_0]
 TJ:aq K t.mx ["self", "tongue", "place"] [.int 0 t.ud_Reader_init_0]
 UX:aq K t.mx ["self", "tongue", "place"] []
 VS:Fun K "faults" "Reader.faults" wD t.tR t.za
 UZ:aq K t.za ["self"] []
 VT:Fun K "ending" "Reader.ending" wE t.Bj t.zb
 U0:aq K t.zb ["self"] []
 VR:Fun K "feed" "Reader.feed" wC t.tQ t.y9
 UY:aq K t.y9 ["self", "row"] []
 VU:Fun K "end" "Reader.end" wF t.tS t.zc
 U1:aq K t.zc ["self"] []
 VN:Fun K "take" "Reader.take" wv t.tM t.y7
 UT:aq K t.y7 ["self", "byte"] []
 Ie:Fun K "look_at_begun" "Reader.look_at_begun" wA t.jy t.j0
 GM:aq K t.j0 ["self"] []
 VP:Fun K "meet_none" "Reader.meet_none" wx t.qj t.sJ
 UV:aq K t.sJ ["self"] []
 VQ:Fun K "meet" "Reader.meet" wz t.tP t.sK
 UW:aq K t.sK ["self", "length", "kind"] []
 VO:Fun K "note" "Reader.note" ww t.tO t.y8
 UU:aq K t.y8 ["self", "length", "kind"] []
 VW:FunD K "__init__" "Put.__init__" wH t.Bl t.ze [.int 65533 t.ud_Put_init_0]
 U3:aq K t.ze ["self", "sign"] []
 VV:Fun K "told" "Put.told" wG t.Bk t.zd
 U2:aq K t.zd ["self", "row"] []
 VM:Fun K "told" "See.told" q9 t.Bi t.y6
 US:aq K t.y6 ["self", "row"] []
 Wd:FunD K "__init__" "GoingReader.__init__" wT t.Bu t.zp [.int 0 t.ud_GoingReader_init_0]
 TK:aq K t.zp ["self", "tongue", "way", "place"] [.int 0 t.ud_GoingReader_init_0]
 Wc:Fun K "meet" "GoingReader.meet" wS t.t5 t.sS
 Vj:aq K t.sS ["self", "length", "kind"] []
 Hy:Fun K "parts_of" "parts_of" vF t.AK t.yB
 Ui:aq K t.yB ["tongue", "row"] []
 RA:mg "parts_of" = some (.ref t.AK)
 V9:Fun K "__init__" "Guesser.__init__" rg t.Br t.zm
 Vg:aq K t.zm ["self", "tongues"] []
 Wa:Fun K "feed" "Guesser.feed" wR t.Bs t.zn
 Vh:aq K t.zn ["self", "row"] []
 V8:Fun K "may" "Guesser.may" rf t.Bq t.zl
 Vf:aq K t.zl ["self"] []
 Wb:Fun K "are" "Guesser.are" rh t.Bt t.zo
 Vi:aq K t.zo ["self"] []
 Ia:Fun K "check_room" "check_room" vX t.A9 t.yS
 UB:aq K t.yS ["number", "bits"] []
 RZ:mg "check_room" = some (.ref t.A9)
 Hz:Fun K "parted" "parted" vG t.AL t.yC
 Uj:aq K t.yC ["number", "bits", "many"] []
 RB:mg "parted" = some (.ref t.AL)
 Ht:Fun K "together" "together" vA t.AF t.yt
 Ud:aq K t.yt ["parts", "bits"] []
 Rr:mg "together" = some (.ref t.AF)
 HI:Fun K "length_of" "length_of" vJ t.AN t.yE
 Ul:aq K t.yE ["sign"] []
 RH:mg "length_of" = some (.ref t.AN)
 HL:Fun K "lead_row" "lead_row" qY t.AQ t.yG
 Uo:aq K t.yG ["sign"] []
 RJ:mg "lead_row" = some (.ref t.AQ)
 HK:Fun K "length_behind" "length_behind" vK t.AO t.yF
 Um:aq K t.yF ["first"] []
 RI:mg "length_behind" = some (.ref t.AO)
 Ic:Fun K "bounds_behind" "bounds_behind" vY t.Bb t.yU
 UD:aq K t.yU ["row", "place"] []
 R6:mg "bounds_behind" = some (.ref t.Bb)
 HX:Fun K "fits_behind" "fits_behind" vU t.A6 t.yP
 Uy:aq K t.yP ["row"] []
 RV:mg "fits_behind" = some (.ref t.A6)
 HH:Fun K "missing" "missing" vH t.AM t.yD
 Uk:aq K t.yD ["row"] []
 RG:mg "missing" = some (.ref t.AM)
 Ib:Fun K "carried" "carried" q8 t.Ba t.yT
 UC:aq K t.yT ["row"] []
 R0:mg "carried" = some (.ref t.Ba)
 V6:FunD K "spell" "LeadTongue.spell" wQ t.tY t.sQ [.int 0 t.ud_LeadTongue_spell_0]
 Vd:aq K t.sQ ["self", "sign", "page"] []
 V5:FunD K "whole" "LeadTongue.whole" wP t.tX t.sO [.int 0 t.ud_LeadTongue_whole_0]
 Vc:aq K t.sO ["self", "row", "page"] []
 V7:FunD K "fill" "LeadTongue.fill" re t.tZ t.pK [.int 0 t.ud_LeadTongue_fill_0]
 Wj:aq K t.pK ["self", "row", "page"] [.int 0 t.ud_LeadTongue_fill_0]
 Ve:aq K t.pK ["self", "row", "page"] []
 Vw:Fun K "unit" "Tongue.unit" wa t.j8 t.mw
 Ah:aq K t.mw ["self"] []
 Vx:FunD K "look" "Tongue.look" wb t.i5 t.kX [.int 0 t.ud_Tongue_look_0]
 tz:aq K t.kX ["self", "begun", "page"] []
 Hs:Fun K "units_of" "units_of" vz t.AE t.yr
 Uc:aq K t.yr ["sign"] []
 Rq:mg "units_of" = some (.ref t.AE)
 Hu:Fun K "sign_of" "sign_of" vB t.AG t.yu
 Ue:aq K t.yu ["units"] []
 Ru:mg "sign_of" = some (.ref t.AG)
 V3:FunD K "__init__" "PairTongue.__init__" wN t.tV t.sN [.str "high" t.ud_PairTongue_init_0]
 Va:aq K t.sN ["self", "order"] []
 VZ:Fun K "unit" "PairTongue.unit" wJ t.Bn t.zi
 U6:aq K t.zi ["self"] []
 V0:Fun K "turned" "PairTongue.turned" wK t.Bo t.zj
 U7:aq K t.zj ["self", "pair"] []
 V2:Fun K "row_of" "PairTongue.row_of" wM t.Bp t.zk
 U9:aq K t.zk ["self", "units"] []
 VY:Fun K "units_in" "PairTongue.units_in" rc t.Bm t.zf
 U5:aq K t.zf ["self", "row"] []
 V1:FunD K "spell" "PairTongue.spell" wL t.tU t.sM [.int 0 t.ud_PairTongue_spell_0]
 U8:aq K t.sM ["self", "sign", "page"] []
 VX:FunD K "whole" "PairTongue.whole" wI t.tT t.sL [.int 0 t.ud_PairTongue_whole_0]
 U4:aq K t.sL ["self", "row", "page"] []
 V4:FunD K "fill" "PairTongue.fill" wO t.tW t.pJ [.int 0 t.ud_PairTongue_fill_0]
 Wi:aq K t.pJ ["self", "row", "page"] [.int 0 t.ud_PairTongue_fill_0]
 Vb:aq K t.pJ ["self", "row", "page"] []
 Hw:Fun K "read" "read" vD t.AI t.yy
 Ug:aq K t.yy ["tongue", "row"] []
 Ry:mg "read" = some (.ref t.AI)
 Hv:Fun K "rest_of" "rest_of" vC t.AH t.yw
 Uf:aq K t.yw ["tongue", "row"] []
 Rw:mg "rest_of" = some (.ref t.AH)
 Id:Fun K "begins" "begins" vZ t.Bc t.yV
 UE:aq K t.yV ["one", "other"] []
 R7:mg "begins" = some (.ref t.Bc)
 Hx:Fun K "places_in" "places_in" vE t.AJ t.yA
 Uh:aq K t.yA ["signs", "which"] []
 Rz:mg "places_in" = some (.ref t.AJ)
 VH:Fun K "__init__" "ShiftTongue.__init__" wp t.tK t.sH
 UO:aq K t.sH ["self", "first", "second"] []
 VG:Fun K "row_beyond" "ShiftTongue.row_beyond" wn t.Bf t.yZ
 UN:aq K t.yZ ["self", "page"] []
 VE:FunD K "spell" "ShiftTongue.spell" wl t.tJ t.sG [.int 0 t.ud_ShiftTongue_spell_0]
 UL:aq K t.sG ["self", "sign", "page"] []
 VF:Fun K "sign_of" "ShiftTongue.sign_of" wm t.Be t.yY
 UM:aq K t.yY ["self", "byte", "page"] []
 VD:FunD K "whole" "ShiftTongue.whole" wk t.tI t.sE [.int 0 t.ud_ShiftTongue_whole_0]
 UK:aq K t.sE ["self", "row", "page"] []
 VI:FunD K "fill" "ShiftTongue.fill" wr t.tL t.sI [.int 0 t.ud_ShiftTongue_fill_0]
 UP:aq K t.sI ["self", "row", "page"] []
 HV:Fun K "is_entry" "is_entry" vS t.AY t.yN
 Uw:aq K t.yN ["thing"] []
 RS:mg "is_entry" = some (.ref t.AY)
 HY:Fun K "collide" "collide" vV t.A7 t.yQ
 Uz:aq K t.yQ ["one", "other"] []
 RX:mg "collide" = some (.ref t.A7)
 HZ:Fun K "check_table" "check_table" vW t.A8 t.yR
 UA:aq K t.yR ["rows"] []
 RY:mg "check_table" = some (.ref t.A8)
 VA:Fun K "__init__" "TableTongue.__init__" we t.tF t.sr
 UH:aq K t.sr ["self", "rows"] []
 VC:Fun K "enter" "TableTongue.enter" wj t.Bd t.yX
 UJ:aq K t.yX ["self", "sign", "row"] []
 Vz:FunD K "spell" "TableTongue.spell" wd t.tD t.so [.int 0 t.ud_TableTongue_spell_0]
 UG:aq K t.so ["self", "sign", "page"] []
 Vy:FunD K "whole" "TableTongue.whole" wc t.tB t.sk [.int 0 t.ud_TableTongue_whole_0]
 UF:aq K t.sk ["self", "row", "page"] []
 VB:FunD K "fill" "TableTongue.fill" wg t.tH t.sx [.int 0 t.ud_TableTongue_fill_0]
 UI:aq K t.sx ["self", "row", "page"] []
 Hh:Fun K "_law_pick" "_law_pick" vj t.Au t.yg
 TZ:aq K t.yg ["_law_script", "_law_k"] []
 Rg:mg "_law_pick" = some (.ref t.Au)
 G6:Fun K "_law_sign" "_law_sign" vd t.Am t.x9
 TQ:aq K t.x9 ["_law_number"] []
 Q7:mg "_law_sign" = some (.ref t.Am)
 Ha:Fun K "_law_pool" "_law_pool" vg t.Aq t.yd
 TW:aq K t.yd ["_law_script"] []
 Rc:mg "_law_pool" = some (.ref t.Aq)
 Hl:Fun K "_law_digits" "_law_digits" vo t.Ay t.yk
 T6:aq K t.yk ["_law_script", "_law_at", "_law_many", "_law_most"] []
 Rk:mg "_law_digits" = some (.ref t.Ay)
 Hf:Fun K "_law_plan" "_law_plan" vh t.Ar t.ye
 TX:aq K t.ye ["_law_number", "_law_pool_here"] []
 Re:mg "_law_plan" = some (.ref t.Ar)
 Hj:Fun K "_law_made" "_law_made" vk t.Aw t.yi
 T4:aq K t.yi ["_law_plan_here"] []
 Ri:mg "_law_made" = some (.ref t.Aw)
 Hk:Fun K "_law_lead" "_law_lead" vm t.Ax t.yj
 T5:aq K t.yj ["_law_sign_here"] []
 Rj:mg "_law_lead" = some (.ref t.Ax)
 G4:Fun K "_law_units" "_law_units" va t.Ak t.x6
 TL:aq K t.x6 ["_law_sign_here", "_law_order"] []
 Q5:mg "_law_units" = some (.ref t.Ak)
 G7:Fun K "_law_shifted" "_law_shifted" ve t.An t.ya
 TR:aq K t.ya ["_law_plan_here", "_law_sign_here", "_law_page"] []
 Q8:mg "_law_shifted" = some (.ref t.An)
 G5:Fun K "_law_spelled" "_law_spelled" qV t.Al t.x8
 TM:aq K t.x8 ["_law_plan_here", "_law_sign_here", "_law_page"] []
 Q6:mg "_law_spelled" = some (.ref t.Al)
 Hm:Fun K "_law_bytes" "_law_bytes" vp t.Az t.yl
 T7:aq K t.yl ["_law_cell", "_law_plans", "_law_pool_here"] []
 Rl:mg "_law_bytes" = some (.ref t.Az)
 Hg:Fun K "_law_pieces" "_law_pieces" vi t.As t.yf
 TY:aq K t.yf ["_law_row", "_law_cells"] []
 Rf:mg "_law_pieces" = some (.ref t.As)
 G9:Fun K "_law_read" "_law_read" vf t.Ap t.yc
 TV:aq K t.yc ["_law_tongue", "_law_row"] []
 Ra:mg "_law_read" = some (.ref t.Ap)
 Hi:Fun K "_law_of_parts" "_law_of_parts" qX t.Av t.yh
 T0:aq K t.yh ["_law_parts"] []
 Rh:mg "_law_of_parts" = some (.ref t.Av)
 Hn:Fun K "_law_ahead" "_law_ahead" vt t.AA t.ym
 T8:aq K t.ym ["_law_parts"] []
 Rm:mg "_law_ahead" = some (.ref t.AA)
 G8:Fun K "_law_right" "_law_right" qW t.Ao t.yb
 TU:aq K t.yb ["_law_tongue", "_law_row", "_law_first_reader", "_law_signs", "_law_seeing", "_law_seen"] []
 Q9:mg "_law_right" = some (.ref t.Ao)
 BF:Fun K "law" "law" iu t.AR t.sj
 Up:aq K t.sj ["_law_script"] []
 FJ:mg "law" = some (.ref t.AR)
 QV:mg "SeenSpeller" = some (.ref t.ie)
 my:Cls K t.ie
 oN:Mk K t.ie t.Bh
 nS:Meth K t.ie "spell" t.Bg
 ji:NoAttr K t.ie "tongue"
 FE:mg "Reader" = some (.ref t.cm)
 dY:Cls K t.cm
 oQ:Mk K t.cm t.mF
 n6:Meth K t.cm "faults" t.tR
 oa:Meth K t.cm "ending" t.Bj
 n5:Meth K t.cm "feed" t.tQ
 og:Meth K t.cm "end" t.tS
 nV:Meth K t.cm "take" t.tM
 lX:Meth K t.cm "look_at_begun" t.jy
 nY:Meth K t.cm "meet_none" t.qj
 nZ:Meth K t.cm "meet" t.tP
 nW:Meth K t.cm "note" t.tO
 jk:NoAttr K t.cm "at_page"
 iV:NoAttr K t.cm "begun"
 kH:NoAttr K t.cm "ended"
 nk:NoAttr K t.cm "many"
 nj:NoAttr K t.cm "met"
 ni:NoAttr K t.cm "place"
 jj:NoAttr K t.cm "tongue"
 QY:mg "Put" = some (.ref t.eP)
 zC:Cls K t.eP
 oR:Mk K t.eP t.Bl
 oh:Meth K t.eP "told" t.Bk
 lV:NoAttr K t.eP "sign"
 QX:mg "See" = some (.ref t.i3)
 S4:Cls K t.i3
 Ou:Mk0 K t.i3
 nU:Meth K t.i3 "told" t.Bi
 Q4:mg "GoingReader" = some (.ref t.cQ)
 Gv:Cls K t.cQ
 oW:Mk K t.cQ t.Bu
 oJ:Meth K t.cQ "meet" t.t5
 mt_GoingReader_faults:Meth K t.cQ "faults" t.tR
 mt_GoingReader_feed:Meth K t.cQ "feed" t.tQ
 mt_GoingReader_end:Meth K t.cQ "end" t.tS
 mt_GoingReader_take:Meth K t.cQ "take" t.tM
 mt_GoingReader_look_at_begun:Meth K t.cQ "look_at_begun" t.jy
 mt_GoingReader_meet_none:Meth K t.cQ "meet_none" t.qj
 mt_GoingReader_note:Meth K t.cQ "note" t.tO
 nH:NoAttr K t.cQ "at_page"
 nG:NoAttr K t.cQ "begun"
 nE:NoAttr K t.cQ "ended"
 nC:NoAttr K t.cQ "many"
 nB:NoAttr K t.cQ "met"
 ny:NoAttr K t.cQ "place"
 nr:NoAttr K t.cQ "tongue"
 lW:NoAttr K t.cQ "way"
 Q3:mg "Guesser" = some (.ref t.fo)
 lh:Cls K t.fo
 oU:Mk K t.fo t.Br
 oH:Meth K t.fo "feed" t.Bs
 oG:Meth K t.fo "may" t.Bq
 oI:Meth K t.fo "are" t.Bt
 jT:NoAttr K t.fo "readers"
 Q0:mg "LeadTongue" = some (.ref t.fP)
 qd:Cls K t.fP
 Ov:Mk0 K t.fP
 oE:Meth K t.fP "spell" t.tY
 oC:Meth K t.fP "whole" t.tX
 oF:Meth K t.fP "fill" t.tZ
 mt_LeadTongue_unit:Meth K t.fP "unit" t.j8
 mt_LeadTongue_look:Meth K t.fP "look" t.i5
 QZ:mg "PairTongue" = some (.ref t.cP)
 iE:Cls K t.cP
 oS:Mk K t.cP t.tV
 om:Meth K t.cP "unit" t.Bn
 oo:Meth K t.cP "turned" t.Bo
 ow:Meth K t.cP "row_of" t.Bp
 oj:Meth K t.cP "units_in" t.Bm
 oq:Meth K t.cP "spell" t.tU
 oi:Meth K t.cP "whole" t.tT
 oz:Meth K t.cP "fill" t.tW
 mt_PairTongue_look:Meth K t.cP "look" t.i5
 kJ:NoAttr K t.cP "order"
 QU:mg "ShiftTongue" = some (.ref t.bX)
 dq:Cls K t.bX
 oM:Mk K t.bX t.tK
 nQ:Meth K t.bX "row_beyond" t.Bf
 nN:Meth K t.bX "spell" t.tJ
 nO:Meth K t.bX "sign_of" t.Be
 nM:Meth K t.bX "whole" t.tI
 nR:Meth K t.bX "fill" t.tL
 mt_ShiftTongue_unit:Meth K t.bX "unit" t.j8
 mt_ShiftTongue_look:Meth K t.bX "look" t.i5
 jS:NoAttr K t.bX "lists"
 iA:NoAttr K t.bX "places"
 jR:NoAttr K t.bX "shifted"
 QR:mg "TableTongue" = some (.ref t.ce)
 fj:Cls K t.ce
 oK:Mk K t.ce t.tF
 nL:Meth K t.ce "enter" t.Bd
 nJ:Meth K t.ce "spell" t.tD
 nI:Meth K t.ce "whole" t.tB
 nK:Meth K t.ce "fill" t.tH
 mt_TableTongue_unit:Meth K t.ce "unit" t.j8
 mt_TableTongue_look:Meth K t.ce "look" t.i5
 kG:NoAttr K t.ce "rest_by_row"
 jQ:NoAttr K t.ce "row_by_sign"
 kF:NoAttr K t.ce "sign_by_row"
 qf:InitC K t.cm t.mF
 mh:mg "Faulty" = some (.ref t.dX)
 ph:mg "TongueError" = some (.ref t.sX)
 jE:jz K t.dX
 xm_Faulty_Faulty:PySem.W.exmOne K (.ref t.dX) (.ref t.dX)=some true
 kY:fN K t.dX jx "ValueError.__new__" = true
 pW:PySem.W.findIn K (.ref t.dX) "__init__" = some (some (.ref t.ua))
 pV:PySem.W.isFn K (.ref t.ua)=true
 pO:PySem.W.keepIn K (.ref t.dX)=true
 pN:PySem.W.findIn K (.ref t.dX) "__setattr__" = some (some (.builtin "object.__setattr__"))
 en_Faulty_kind:PySem.W.findIn K (.ref t.dX) "kind" = some none
 en_Faulty_length:PySem.W.findIn K (.ref t.dX) "length" = some none
 en_Faulty_place:PySem.W.findIn K (.ref t.dX) "place" = some none
 eb_0:PySem.W.specialIn K (.ref t.sX) "__getattribute__" = some (some (.builtin "type.__getattribute__"))
 eb_1:PySem.W.readsIn K t.sX (.type "type")=true
 eb_2:PySem.W.findCls K (.ref t.sX) (.type "type") "__init__" = some (.val (.builtin "ValueError.__init__"))
 GF:mg "BITS" = some (.int 6 t.IY)
 GE:mg "BYTE_BITS" = some (.int 8 t.IW)
 GD:mg "FILLS" = some (.ref t.Bv)
 Gj:qy K w t.Bv [(t.h_FILLS_0, "high",t.a_FILLS_0),(t.h_FILLS_1, "low",t.a_FILLS_1)]
 q_FILLS_0:∀H,be K H t.a_FILLS_0 (([t.a_FILLS_0_0,t.a_FILLS_0_1,t.a_FILLS_0_2,t.a_FILLS_0_3,t.a_FILLS_0_4]:List Addr).map V.ref)
 q_FILLS_0_0:∀H,be K H t.a_FILLS_0_0 (([]:e7).map V.int)
 q_FILLS_0_1:∀H,be K H t.a_FILLS_0_1 (([0]:e7).map V.int)
 q_FILLS_0_2:∀H,be K H t.a_FILLS_0_2 (([0,0]:e7).map V.int)
 q_FILLS_0_3:∀H,be K H t.a_FILLS_0_3 (([220,0]:e7).map V.int)
 q_FILLS_0_4:∀H,be K H t.a_FILLS_0_4 (([0,220,0]:e7).map V.int)
 q_FILLS_1:∀H,be K H t.a_FILLS_1 (([t.a_FILLS_1_0,t.a_FILLS_1_1,t.a_FILLS_1_2,t.a_FILLS_1_3,t.a_FILLS_1_4]:List Addr).map V.ref)
 q_FILLS_1_0:∀H,be K H t.a_FILLS_1_0 (([]:e7).map V.int)
 q_FILLS_1_1:∀H,be K H t.a_FILLS_1_1 (([0]:e7).map V.int)
 q_FILLS_1_2:∀H,be K H t.a_FILLS_1_2 (([220]:e7).map V.int)
 q_FILLS_1_3:∀H,be K H t.a_FILLS_1_3 (([0,0]:e7).map V.int)
 q_FILLS_1_4:∀H,be K H t.a_FILLS_1_4 (([0,220]:e7).map V.int)
 tu:mg "FIRST_BEHIND" = some (.int 128 t.IV)
 Af:mg "FIRST_HEAD" = some (.int 55296 t.IU)
 Ae:mg "FIRST_SEEN" = some (.int 61184 t.IT)
 tq:mg "FIRST_TAIL" = some (.int 56320 t.IS)
 Ad:mg "FIRST_WIDE" = some (.int 65536 t.IR)
 GC:mg "HALF_BITS" = some (.int 10 t.IQ)
 GB:mg "LAST_BEHIND" = some (.int 191 t.IP)
 Tw:mg "LAST_BYTE" = some (.int 255 t.IO)
 Tv:mg "LAST_SEEN" = some (.int 61439 t.IN)
 Tu:mg "LAST_SIGN" = some (.int 1114111 t.IM)
 Ts:mg "LAST_TAIL" = some (.int 57343 t.IL)
 GA:mg "LEADS" = some (.ref t.t0)
 DB:∀H,be K H t.t0 (([0,0,192,224,240]:e7).map V.int)
 Tr:mg "MOST_BYTES" = some (.int 6 t.IK)
 Tq:mg "MOST_SIGNS" = some (.int 250 t.IJ)
 Tp:mg "MOST_TUPLES" = some (.int 64 t.II)
 To:mg "SECONDS" = some (.ref t.GR)
 SO:ur K t.GR [(224,t.a_SECONDS_0),(237,t.a_SECONDS_1),(238,t.a_SECONDS_2),(240,t.a_SECONDS_3),(244,t.a_SECONDS_4)]
 q_SECONDS_0:∀H,be K H t.a_SECONDS_0 (([160,191]:e7).map V.int)
 q_SECONDS_1:∀H,be K H t.a_SECONDS_1 (([128,159]:e7).map V.int)
 q_SECONDS_2:∀H,be K H t.a_SECONDS_2 (([128,187]:e7).map V.int)
 q_SECONDS_3:∀H,be K H t.a_SECONDS_3 (([144,191]:e7).map V.int)
 q_SECONDS_4:∀H,be K H t.a_SECONDS_4 (([128,143]:e7).map V.int)
 Ac:mg "SHIFTS" = some (.ref t.qi)
 w9:∀H,be K H t.qi (([254,255]:e7).map V.int)
 n_all:mg "all" = none
 n_bool:mg "bool" = none
 n_enumerate:mg "enumerate" = none
 n_int:mg "int" = none
 n_isinstance:mg "isinstance" = none
 n_len:mg "len" = none
 n_list:mg "list" = none
 n_range:mg "range" = none
 n_reversed:mg "reversed" = none
 n_str:mg "str" = none
 n_sum:mg "sum" = none
 n_tuple:mg "tuple" = none
def xB{α:Type}{r:List α}(h:r.length=2):∃a b,r=[a,b]:=by
 obtain⟨a,r,rfl⟩:=Yz h;obtain⟨b,r,rfl⟩:=Yz (Xi h);obtain rfl:=List.eq_nil_of_length_eq_zero (Xi (Xi h));exact⟨a,b,Z⟩
def Ez{α:Type}{r:List α}(h:r.length=4):∃a b c d,r=[a,b,c,d]:=by
 obtain⟨a,r,rfl⟩:=Yz h;obtain⟨b,r,rfl⟩:=Yz (Xi h);obtain⟨c,d,rfl⟩:=xB (Xi (Xi h));exact⟨a,b,c,d,Z⟩
def kT{K:PySem.W.Frag}{a:Addr}{xs:List V}{g:TG}{tb:TS}{D:dZ}{σ:St}{H:Hp}(b:Nat->St->Hp->Prop)(f:b 0 σ H)(e:∀i σ H,i<=xs.length->b i σ H->aE K H a xs)
 (hs:∀i x σ H N,N=b (i+1)->xs[i]? = some x->b i σ H->g x σ H λd c=>tb { D with nx:=N,ct:=N,bk:=D.nx } d c) (hd:∀σ H,b xs.length σ H->D.nx σ H) :
 ∃W:Nat->Nat->St->Hp->Prop,(∃m,W 0 m σ H)/\∀i m σ H,W i m σ H ->
  ((il K a).stop i H/\D.nx σ H)\/((il K a).go i H/\∃N:St->Hp->Prop,(∀σ' H',N σ' H'->∃m',m'<m/\W (i+1) m' σ' H')/\∀x H',(il K a).yld i H x H'->g x σ H' λd c=>tb { D with nx:=N,ct:=N,bk:=D.nx } d c):=mv b f e (λi x σ H hx p=>hs i x σ H _ rfl hx p) hd
def jJ{sp:Sp}{vs:List V}{H:Hp}{Q:VK}{E:XK}(h:∀q:VK,(∀v H,Q v H->q v H)->sp vs H q E):sp vs H Q E:=h Q λ_ _ h=>h
def jd{c:Sort _}{b d:c->Prop}(a:c)(f:b a)(e:d a):∃a,b a/\d a:=⟨a,f,e⟩
def cB{d:Sort _}{b e c:d->Prop}(a:d)(h:b a)(g:e a)(f:c a):∃a,b a/\e a/\c a:=⟨a,h,g,f⟩
def qB{e:Sort _}{c f d b:e->Prop}(a:e)(i:c a)(h:f a)(g:d a)(j:b a):∃a,c a/\f a/\d a/\b a:=⟨a,i,h,g,j⟩
def aR{f:Sort _}{c:Sort _}{d g e:f->c->Prop}(b:f)(a:c)(j:d b a)(i:g b a)(h:e b a):∃b a,d b a/\g b a/\e b a:=⟨b,a,j,i,h⟩
def uv{g:Sort _}{c:Sort _}{e h f d:g->c->Prop}(b:g)(a:c)(k:e b a)(j:h b a)(i:f b a)(l:d b a):∃b a,e b a/\h b a/\f b a/\d b a:=⟨b,a,k,j,i,l⟩
def bI{h:Sort _}{d:Sort _}{i:Sort _}{f j g e:h->d->i->Prop}(c:h)(b:d)(a:i)(l:f c b a)(m:j c b a)(k:g c b a)(n:e c b a):∃c b a,f c b a/\j c b a/\g c b a/\e c b a:=⟨c,b,a,l,m,k,n⟩
def cL{i:Sort _}{e:Sort _}{j:Sort _}{h:Sort _}{l k m f n g:i->e->j->h->Prop}(a:i)(d:e)(b:j)(c:h)(q:l a d b c)(o:k a d b c)(u:m a d b c)(p:f a d b c)(s:n a d b c)(r:g a d b c):∃a d b c,l a d b c/\k a d b c/\m a d b c/\f a d b c/\n a d b c/\g a d b c:=⟨a,d,b,c,q,o,u,p,s,r⟩
def bu{j:Sort _}{f:Sort _}{l:Sort _}{i:Sort _}{k:Sort _}{n m o g p h:j->f->l->i->k->Prop}(a:j)(d:f)(b:l)(c:i)(e:k)(s:n a d b c e)(q:m a d b c e)(x:o a d b c e)(r:g a d b c e)(v:p a d b c e)(u:h a d b c e):∃a d b c e,n a d b c e/\m a d b c e/\o a d b c e/\g a d b c e/\p a d b c e/\h a d b c e:=⟨a,d,b,c,e,s,q,x,r,v,u⟩
def xS{K:PySem.W.Frag}{H:Hp}{a b:Str}{G:PyData->PyData->Prop}(h:SeqAt.shaped (.str a)=true)(i:SeqAt.shaped (.str b)=true)(g:G (.str a) (.str b)):∃d e,bf K H d (.str a)/\bf K H e (.str b)/\SeqAt.shaped d=true/\SeqAt.shaped e=true/\G d e:=⟨_,_,.str _,.str _,h,i,g⟩
def ei{K:PySem.W.Frag}{H:Hp}{a b:Str}{G:PyData->PyData->Prop}(g:G (.str a) (.str b))(h:SeqAt.shaped (.str a)=true:=by decide +kernel)(i:SeqAt.shaped (.str b)=true:=by decide +kernel):∃d e,bf K H d (.str a)/\bf K H e (.str b)/\SeqAt.shaped d=true/\SeqAt.shaped e=true/\G d e:=xS h i g
def ba{c:Sort _}{b d:c->Prop}{a:c}(f:b a)(e:d a):∃a,b a/\d a:=⟨a,f,e⟩
def c7{d:Sort _}{b e c:d->Prop}{a:d}(h:b a)(g:e a)(f:c a):∃a,b a/\e a/\c a:=⟨a,h,g,f⟩
def qA{e:Sort _}{c f d b:e->Prop}{a:e}(i:c a)(h:f a)(g:d a)(j:b a):∃a,c a/\f a/\d a/\b a:=⟨a,i,h,g,j⟩
def aN{f:Sort _}{c:Sort _}{d g e:f->c->Prop}{b:f}{a:c}(j:d b a)(i:g b a)(h:e b a):∃b a,d b a/\g b a/\e b a:=⟨b,a,j,i,h⟩
def d7{g:Sort _}{c:Sort _}{e h f d:g->c->Prop}{b:g}{a:c}(k:e b a)(j:h b a)(i:f b a)(l:d b a):∃b a,e b a/\h b a/\f b a/\d b a:=⟨b,a,k,j,i,l⟩
end My
namespace My
open PySem L2
def kO:V->Bool
 | .int _=>true
 | _=>false
def dE(v:V)(lo a:Int):Bool:=match v with
 | .int i=>decide (lo<=i) && decide (i<=a)
 | _=>false
def dB(v:V):Bool:=dE v 0 1114111 && !(dE v 55296 57343) && !(dE v 61184 61439)
def xD{v:V}(h:kO v=true):∃i,v=.int i:=by
 cases v<;>first|exact⟨_,rfl⟩|cases h
def mR(f:V->Bool)(K:PySem.W.Frag):Sp:=λvs H Q _=>∃v,vs=[v]/\ij K H v/\Q (.bl (f v)) H
def uN(f:Int->Bool):Sp:=λvs H Q _=>∃i,vs=[.int i]/\Q (.bl (f i)) H
def rJ{f:V->Bool}{K:PySem.W.Frag}{x:Str}:∀vs H Q E,mR f K vs H Q E->vs.length=[x].length:=λvs H Q E h=>by
 obtain⟨v,rfl,_⟩:=h
 rfl
def Ey{f:Int->Bool}{x:Str}:∀vs H Q E,uN f vs H Q E->vs.length=[x].length:=λvs H Q E h=>by
 obtain⟨v,rfl,_⟩:=h
 rfl
def Sg(n:Int):Prop:=0<=n/\n<=1114111/\¬(55296<=n/\n<=57343)/\¬(61184<=n/\n<=61439)
def jL(n:Int):dB (.int n)=true ↔ Sg n:=by
 unfold dB dE Sg;simp;lia
def du(n:Int):e7:=if n<65536 then [n] else [55296+(n-65536)/1024,56320+(n-65536)%1024]
def ub(h:Bool)(m:Int):e7:=if h then [m/256,m%256] else [m%256,m/256]
def fF(h:Bool)(n:Int):e7:=(du n).flatMap (ub h)
def fh(h:Bool):Str:=if h then "high" else "low"
def IG(h:Bool)(m:Int):(ub h m).length=2:=by unfold ub;cases h<;>rfl
def BM(n:Int):(du n).length<=2:=by
 unfold du;by_cases c:n<65536
 ·rw[ZQ c];simp
 ·rw[ZP c];simp
def BN{n u:Int}(h:Sg n)(a:u∈du n):0<=u/\u<65536:=by
 obtain⟨b,d,_,_⟩:=h;unfold du at a;by_cases c:n<65536
 ·rw[ZQ c]at a;simp at a;lia
 ·rw[ZP c]at a;simp at a;lia
def sf(h:Bool)(us:e7):(us.flatMap (ub h)).length=2*us.length:=by
 induction us with
 | nil=>rfl
 | cons a r ih=>rw[List.flatMap_cons,WC,IG,ih,W0];lia
def MX(h:Bool)(n:Int):(fF h n).length<=4:=by
 unfold fF;rw[sf];have:=BM n;lia
def u2(h:Bool)(x y:Int):Int:=if h then x*256+y else y*256+x
def gy(h:Bool):e7->e7
 | x::y::r=>u2 h x y::gy h r
 | _=>[]
def jK:e7->Option Int
 | [u]=>if dB (.int u) then some u else none
 | [u,v]=>if (55296<=u/\u<56320)/\56320<=v/\v<=57343 then some (65536+((u-55296)*1024+(v-56320))) else none
 | _=>none
def gx(h:Bool)(r:e7):Option Int:=if r.length=2\/r.length=4 then jK (gy h r) else none
def oV(o:Option Int):V:=o.elim .non V.int
def jZ(h:Bool):List (e7):=if h then [[],[0],[0,0],[220,0],[0,220,0]] else [[],[0],[220],[0,0],[0,220]]
def aW(r:e7):Prop:=∀b∈r,0<=b/\b<=255
def aW.app{r s:e7}(a:aW r)(b:aW s):aW (r++s):=λx hx=>by
 rcases WQ.mp hx with h|h
 ·exact a x h
 ·exact b x h
def Sl{h:Bool}{f:e7}(a:f∈jZ h):aW f:=by
 unfold jZ at a;cases h<;>simp at a<;>rcases a with rfl|rfl|rfl|rfl|rfl<;>intro x hx<;>simp at hx<;>lia
def Sk{h:Bool}{f:e7}(a:f∈jZ h):f.length<=3:=by
 unfold jZ at a;cases h<;>simp at a<;>rcases a with rfl|rfl|rfl|rfl|rfl<;>decide
def lb(f:Int):Int:=if f<128 then 1 else if f<194\/244<f then 0 else if f<224 then 2 else if f<240 then 3 else 4
def kM(f:Int):Int:=if f=224 then 160 else if f=240 then 144 else 128
def kP(f:Int):Int:=if f=237 then 159 else if f=238 then 187 else if f=244 then 143 else 191
def dJ(f:Int)(p:Nat):Int:=if p=1 then kM f else 128
def fL(f:Int)(p:Nat):Int:=if p=1 then kP f else 191
def uq(f:Int)(r:e7):Prop:=∀i x,r[i]? = some x->dJ f (i+1)<=x/\x<=fL f (i+1)
def lH(f:Int)(r:e7):Prop:=(r.length:Int)+1<=lb f/\uq f r
def qz:e7->Prop
 | []=>True
 | f::r=>lH f r
def i7:e7->Prop
 | []=>False
 | f::r=>lH f r/\(r.length:Int)+1=lb f
def jv:e7->e7
 | []=>[0]
 | f::r=>(List.range (lb f-((r.length:Int)+1)).toNat).map λi=>dJ f (r.length+1+i)
def o5(f:Int):0<=lb f/\lb f<=4:=by unfold lb;repeat' split<;>lia
def OR(f:Int)(p:Nat):128<=dJ f p:=by unfold dJ kM;repeat' split<;>lia
def PD(f:Int)(p:Nat):fL f p<=191:=by unfold fL kP;repeat' split<;>lia
def OQ(f:Int)(p:Nat):dJ f p<=fL f p:=by
 unfold dJ fL kM kP
 repeat' split<;>lia
def Ix{a:e7}(h:qz a):i7 (a++jv a):=by
 cases a with
 | nil=>exact⟨⟨by decide,λi x z=>by cases z⟩,by decide⟩
 | cons f r =>
  have d:=o5 f;obtain⟨g,b⟩:lH f r:=h;have j:((r++jv (f::r)).length:Int)=lb f-1:=by
   rw[WC,jv,WA,YA];lia
  show i7 (f::(r++jv (f::r)));refine⟨⟨by lia,λi x z=>?_⟩,by lia⟩;by_cases c:i<r.length
  ·rw[XI c]at z;exact b i x z
  ·rw[XA (by lia),jv,WJ]at z;by_cases c2:i-r.length<(lb f-((r.length:Int)+1)).toNat
   ·rw[Y5 c2]at z;cases z;have e:r.length+1+(i-r.length)=i+1:=by lia
    show dJ f (i+1)<=dJ f (r.length+1+(i-r.length))/\dJ f (r.length+1+(i-r.length))<=fL f (i+1);rw[e];exact⟨Int.le_refl _,OQ _ _⟩
   ·rw[XD (by rw[YA];lia)]at z;cases z
def FX(f:Int)(r:e7):uq f r ↔ (∀x∈r,128<=x/\x<=191)/\∀x,r[0]? = some x->kM f<=x/\x<=kP f:=by
 constructor
 ·intro h;refine⟨λx hx=>?_,λx hx=>?_⟩
  ·obtain⟨i,c⟩:=Zx hx;have:=h i x c;have a:=OR f (i+1);have b:=PD f (i+1);lia
  ·have:=h 0 x hx;simpa [dJ,fL] using this
 ·rintro⟨a,b⟩ i x hx;cases i with
  | zero=>simpa [dJ,fL] using b x hx
  | succ i =>
   have:=a x (W8 hx);simp only [dJ,fL];rw[ZP (by lia),ZP (by lia)];exact this
def row(n:Int):e7:=if n<128 then [n] else if n<2048 then [192+n/64,128+n%64] else if n<65536 then [224+n/4096,128+n/64%64,128+n%64] else [240+n/262144,128+n/4096%64,128+n/64%64,128+n%64]
def Dk(n:Int):1<=(row n).length/\(row n).length<=4:=by
 unfold row;by_cases c1:n<128
 ·rw[ZQ c1];simp
 rw[ZP c1];by_cases c2:n<2048
 ·rw[ZQ c2];simp
 rw[ZP c2];by_cases c3:n<65536
 ·rw[ZQ c3];simp
 rw[ZP c3];simp
def dg{α β:Type}(R:α->β->Prop)(xs:List α)(ys:List β):Prop:=xs.length=ys.length/\∀(i:Nat) x y,xs[i]? = some x->ys[i]? = some y->R x y
def dg.nil{α β:Type}{R:α->β->Prop}:dg R [] []:=⟨rfl,λi x y h=>by simp at h⟩
def dg.cons{α β:Type}{R:α->β->Prop}{x:α}{y:β}{xs:List α}{ys:List β}(h:R x y)(t:dg R xs ys):dg R (x::xs) (y::ys):=⟨by simp[t.1],λi a b c hb=>by
 cases i with
 | zero=>simp at c hb;subst c hb;exact h
 | succ i=>exact t.2 i a b (by simpa using c) (by simpa using hb)⟩
def dg.imp{α β:Type}{R S:α->β->Prop}{xs:List α}{ys:List β}(h:dg R xs ys)(k:∀x y,R x y->S x y):dg S xs ys:=⟨h.1,λi x y a b=>k x y (h.2 i x y a b)⟩
def dg.app{α β:Type}{R:α->β->Prop}{xs us:List α}{ys vs:List β}(h:dg R xs ys)(k:dg R us vs):dg R (xs++us) (ys++vs):=by
 refine⟨by simp[h.1,k.1],λi x y a b=>?_⟩;by_cases hi:i<xs.length
 ·rw[XI hi]at a;rw[XI (by rw[<- h.1];exact hi)]at b;exact h.2 i x y a b
 ·rw[XA (by lia)]at a;rw[XA (by rw[<- h.1];lia),<- h.1]at b;exact k.2 _ x y a b
def dg.take{α β:Type}{R:α->β->Prop}{xs:List α}{ys:List β}(h:dg R xs ys)(n:Nat):dg R (xs.take n) (ys.take n):=⟨by simp[h.1],λi x y a b=>by
 have c:i<n:=by have:=(WF.mp a).1;rw[WO]at this;lia
 rw[Yr c]at a b;exact h.2 i x y a b⟩
def dg.drop{α β:Type}{R:α->β->Prop}{xs:List α}{ys:List β}(h:dg R xs ys)(n:Nat):dg R (xs.drop n) (ys.drop n):=⟨by simp[h.1],λi x y a b=>by
 rw[List.getElem?_drop]at a b;exact h.2 _ x y a b⟩
def dg.right{α β:Type}{R:α->β->Prop}{xs:List α}{ys:List β}(h:dg R xs ys){i:Nat}{x:α}(hx:xs[i]? = some x):∃y,ys[i]? = some y/\R x y:=by
 have b:=(WF.mp hx).1;have a:ys[i]? = some (ys[i]'(by rw[<- h.1];exact b)):=by simp
 exact⟨_,a,h.2 i x _ hx a⟩
def Kp(a:Addr)(H b:Hp):Prop:=∀c u,c≠a->H c=some u->b c=some u
def Kp.trans{a:Addr}{H b d:Hp}(h:Kp a H b)(h':Kp a b d):Kp a H d:=λc u n e=>h' c u n (h c u n e)
def Kp.of{a:Addr}{H b:Hp}(h:af H b):Kp a H b:=λc u _ e=>h c u e
def Kp.upd{a:Addr}{H:Hp}{o:HO}:Kp a H (upd H a o):=λc u n e=>by rw[ap n];exact e
end My
namespace My
open PySem L2
section
variable {P:Program}{w:World}{K:PySem.W.Frag}{mg:Str->Option Value}{base:Heap}{t:Adr}
def JO:Sp:=λvs H Q _=>∃(n:Int) (b:Nat),vs=[.int n,.int (b:Int)]/\0<=n/\n<2 ^ b/\Q .non H
def Fe (T:Txt w K mg t):bj P w K mg base "check_room" 1 t.A9 t.yS ["number", "bits"] JO:=by
 refine⟨T.RZ,T.Ia.kp,T.UB,T.Ia.okQ KZ (λvs H Q E h=>by obtain⟨n,b,rfl,_⟩:=h;rfl) λ_ _ _ _ H vs Q E d h=>?_⟩;obtain⟨n,b,rfl,c,a,k⟩:=h;refine⟨_,(aj (aI (dU (gY (aA fi (aa 0) ah (aH _)) (gX (aA ju (Du (K:=K) Z PySem.F.plainAttrs_int PySem.F.slot_int_bit_length PySem.F.type_int_bit_length Oy (aa 0)) (aa 1) (aH _))))) (aj iw) aK)),?_⟩;refine ao (λe=>ZR (ZS e) (by lia)) (λ_=>?_);refine⟨rfl,?_⟩;have hb:Builtin.Int.intBits n<=b:=intBits_le_iff.mpr (by
  have:(n.natAbs:Int)<((2 ^ b:Nat):Int):=by rw[Y6 c,Y7];exact a
  exact Y8.mp this)
 refine ao (λe=>ZR (ZS e) (by lia)) (λ_=>?_);exact k
def JC(K:PySem.W.Frag):Sp:=λvs H Q _=>∃(a:Addr) (ps:e7) (b:Nat),vs=[.ref a,.int (b:Int)]/\aE K H a (ps.map V.int)/\(∀p∈ps,0<=p/\p<2 ^ b)/\b<=1000/\ps.length<=1000/\Q (.int (cg b ps)) H
def xI (T:Txt w K mg t):bj P w K mg base "together" 2 t.AF t.yt ["parts", "bits"] (JC K):=by
 refine⟨T.Rr,T.Ht.kp,T.Ud,T.Ht.okQ qS (λvs H Q E h=>by obtain⟨a,ps,b,rfl,_⟩:=h;rfl) λ_ _ _ _ H vs Q E y h=>?_⟩;obtain⟨a,ps,b,rfl,o,m,hb,B,k⟩:=h;refine⟨_,(ai (aL (i:=2) qS.nd Z (.inl Z) ah)
  (ai (cw PassesOwn.never rfl (cC (K:=K) rfl (aa 0)) (aX (i:=3) qS.nd rfl (.inl rfl)) (ai (bE (aS (Fe (K:=K) T) y (ad (aa 3) (ad (aa 1) ae))))
  (aj (aL (i:=2) qS.nd rfl (.inl rfl) (az (Wt K) (az FG (aa 2) (aa 1)) (aa 3))))))
  (aj (am (aa 2))))),?_⟩
 refine cB a rfl ⟨_,o⟩ (mv (K:=K) (a:=a) (xs:=ps.map V.int) (λi σ r=>r=H/\∃f,σ=[some (.ref a),some (.int b),some (.int (cg b (ps.take i))),f]) ⟨rfl,_,rfl⟩ (λi σ r _ z=>by rw[z.1];exact o) ?_ ?_)
 ·rintro i x σ v c ⟨rfl,f,rfl⟩;obtain⟨p,j,rfl⟩:∃p,ps[i]? = some p/\x=.int p:=by
   rw[WJ]at c;cases e:ps[i]? with
   | none=>rw[e]at c;cases c
   | some p=>rw[e]at c;cases c;exact⟨p,Z,Z⟩
  have d:=m p (W8 j);refine uv p b Z d.1 d.2 ?_;have u:i<ps.length:=(WF.mp j).1;have n:=Jg (b:=b) (ps:=ps.take i) λq hq=>m q (XV hq);have g:Builtin.Int.intBits (cg b (ps.take i))<=b*(ps.take i).length:=intBits_le_iff.mpr (by
   have:((cg b (ps.take i)).natAbs:Int)<((2 ^ (b*(ps.take i).length):Nat):Int):=by rw[Y6 n.1,Y7];exact n.2
   exact Y8.mp this)
  have l:(ps.take i).length<=1000:=by rw[WO];lia
  have s:b*(ps.take i).length<=1000000:=Nat.mul_le_mul hb l;refine⟨⟨by lia,show ((Builtin.Int.intBits (cg b (ps.take i)):Nat):Int)+(b:Int)<=2 ^ 27 by lia⟩,?_⟩;refine⟨rfl,?_⟩;have e:ps.take (i+1)=ps.take i++[p]:=by rw[Yx,j];rfl
  rw[e,Jf];exact⟨_,Z⟩
 ·rintro σ v ⟨rfl,f,rfl⟩;rw[WA,WY];exact k
def xK (T:Txt w K mg t):bj P w K mg base "is_number" 1 t.AW t.yL ["thing"] (mR kO K):=by
 refine⟨T.RP,T.HS.kp,T.Uu,T.HS.okQ KR rJ λ_ _ _ _ H vs Q E d h=>?_⟩;obtain⟨v,rfl,c,k⟩:=h;refine⟨_,(aj (am (ky (bz (qe (K:=K) Z) T.n_isinstance Yj (ad (aa 0) (ad (m7 Z T.n_int Zy) ae))) (jO (Dx (bz (qe (K:=K) Z) T.n_isinstance Yj (ad (aa 0) (ad (m7 Z T.n_bool PyProof.Rows.boot_bool) ae)))))))),?_⟩;obtain⟨ty,a,b⟩:=c.isInt;refine aR ty _ a b ?_;refine ao (λe=>?_) (λe=>?_)
 ·obtain⟨ty,a,b⟩:=c.isBl;refine aR ty _ a b ?_;exact cA k (by cases v<;>simp_all [kO,xE,EL])
 ·exact cA k (by cases v<;>simp_all [kO,xE])
def Fd (T:Txt w K mg t):bj P w K mg base "is_head" 1 t.AX t.yM ["number"] (uN λi=>decide (55296<=i) && decide (i<56320)):=by
 refine⟨T.RQ,T.HU.kp,T.Uv,T.HU.okQ KS Ey λ_ _ _ _ H vs Q E b h=>?_⟩;obtain⟨i,rfl,k⟩:=h;refine⟨_,(aj (am (m6 gL fi (bU T.Af) (aa 0) (bU T.tq)))),?_⟩;refine ao (λa=>?_) (λa=>?_)
 ·exact cA k (by simp at *;lia)
 ·exact cA k (by simp at *;lia)
def Fb (T:Txt w K mg t):bj P w K mg base "is_tail" 1 t.AS t.yH ["number"] (uN λi=>decide (56320<=i) && decide (i<=57343)):=by
 refine⟨T.RL,T.HM.kp,T.Uq,T.HM.okQ KN Ey λ_ _ _ _ H vs Q E b h=>?_⟩;obtain⟨i,rfl,k⟩:=h;refine⟨_,(aj (am (m6 gL gL (bU T.tq) (aa 0) (bU T.Ts)))),?_⟩;refine ao (λa=>?_) (λa=>?_)
 ·exact cA k (by simp at *;lia)
 ·exact cA k (by simp at *;lia)
def Fc (T:Txt w K mg t):bj P w K mg base "is_seen_byte" 2 t.AU t.yJ ["thing"] (mR (λv=>dE v 61184 61439) K):=by
 refine⟨T.RN,T.HQ.kp,T.Us,T.HQ.okQ KP rJ λ_ _ _ _ H vs Q E a h=>?_⟩;obtain⟨v,rfl,c,k⟩:=h;refine⟨_,(aj (am (ky (aS (xK (K:=K) T) a (ad (aa 0) ae)) (jO (m6 gL gL (bU T.Ae) (aa 0) (bU T.Tv)))))),?_⟩;refine cB v Z c ?_;refine ao (λe=>?_) (λe=>?_)
 ·obtain⟨i,rfl⟩:=xD e;refine ao (λb=>?_) (λb=>?_)
  ·exact cA k (by simp[dE]at *;lia)
  ·exact cA k (by simp[dE]at *;lia)
 ·exact cA k (by cases v<;>simp_all [kO,dE])
def kR (T:Txt w K mg t):bj P w K mg base "is_sign" 3 t.AT t.yI ["thing"] (mR dB K):=by
 refine⟨T.RM,T.HN.kp,T.Ur,T.HN.okQ KO rJ λ_ _ _ _ H vs Q E a h=>?_⟩;obtain⟨v,rfl,b,k⟩:=h;refine⟨_,(ai (aI (dU (gY (fZ (eB (aS (xK (K:=K) T) a (ad (aa 0) ae)))) (gX (fZ (Dv gL gL ah (aa 0) (bU T.Tu)))))) (aj (am ix)) aK)
  (aj (am (Dx (rk (aS (Fd (K:=K) T) a (ad (aa 0) ae)) (rk (aS (Fb (K:=K) T) a (ad (aa 0) ae)) (jO (aS (Fc (K:=K) T) a (ad (aa 0) ae))))))))),?_⟩
 refine cB v Z b ?_;refine ao (λe=>?_) (λe=>?_)
 ·refine o6 ?_;exact cA k (by cases v<;>simp_all [kO,dE,dB])
 ·obtain⟨i,rfl⟩:=xD (v:=v) (by simpa using e);refine ao (λg=>?_) (λg=>?_)
  ·refine ao (λf=>?_) (λf=>?_)
   ·exact cA k (by simp[dB,dE]at *;lia)
   ·refine jd i Z ?_;refine ao (λd=>?_) (λd=>?_)
    ·exact cA k (by simp[dB,dE]at *;lia)
    ·refine jd i Z ?_;refine ao (λc=>?_) (λc=>?_)
     ·exact cA k (by simp[dB,dE]at *;lia)
     ·refine c7 Z b ?_;exact cA k (by rw[XG];simp[dB,dE]at *;lia)
  ·refine o6 ?_;exact cA k (by simp[dB,dE]at *;lia)
def JG(K:PySem.W.Frag):Sp:=λvs H Q _=>∃(a:Addr) (us:e7),vs=[.ref a]/\aE K H a (us.map V.int)/\us.length<=2/\∀H',af H H'->Q (oV (jK us)) H'
theorem I0:∀ {us:e7},us.length=2->∃u v,us=[u,v]
 | [u,v],_=>⟨u,v,rfl⟩
def Jh(x y:Int):cg 10 [x,y]=x*1024+y:=by
 show (0*2 ^ 10+x)*2 ^ 10+y=_;have:(2:Int) ^ 10=1024:=by decide
 rw[this];lia
def P8 (T:Txt w K mg t):bj P w K mg base "sign_of" 4 t.AG t.yu ["units"] (JG K):=by
 refine⟨T.Ru,T.Hu.kp,T.Ue,T.Hu.okQ KK (λvs H Q E h=>by obtain⟨a,us,rfl,_⟩:=h;rfl) λ_ _ _ _ H vs Q E i h=>?_⟩;obtain⟨a,us,rfl,d,G,k⟩:=h;have s:=i.units;obtain⟨o,g⟩:∃o,o=jK us:=⟨_,rfl⟩;rw[<- g]at k;obtain⟨L,eL⟩:∃L:Int,L=((us.map V.int).length:Int):=⟨_,rfl⟩;have eL2:L=(us.length:Int):=by rw[eL,WA]
 refine⟨_,(ai (aI (dU (ku (aA (bG (K:=K) Z s) (bz (Wu K) T.n_len WN (ad (aa 0) ae)) ah (aH _)) (lS (eB (aS (kR (K:=K) T) i (ad (au (Wv K) (aa 0) ah (λ_ _=>rfl)) ae)))))) (aj (am (au (Wv K) (aa 0) ah (λ_ _=>rfl)))) aK)
  (ai (aI (dU (ku (aA (bG (K:=K) rfl s) (bz (Wu K) T.n_len WN (ad (aa 0) ae)) ah (aH _)) (ku (eB (aS (Fd (K:=K) T) i (ad (au (Wv K) (aa 0) ah (λ_ _=>rfl)) ae))) (lS (eB (aS (Fb (K:=K) T) i (ad (au (Wv K) (aa 0) ah (λ_ _=>rfl)) ae))))))) (aj (am (az (Wt K) (bU T.Ad) (aS (xI (K:=K) T) i (ad (aT (ad (az cX (au (Wv K) (aa 0) ah (λ_ _=>rfl)) (bU T.Af)) (ad (az cX (au (Wv K) (aa 0) ah (λ_ _=>rfl)) (bU T.tq)) ae))) (ad (bU T.GC) ae)))))) aK)
  (aj (am bY)))),?_⟩
 have l:∀ {m:Prop} {n:Prop} {b:Bool},(b=true->m)->(b=false->n)->if b=true then m else n:=λ{m n b} x y=>by
  cases b with
  | true=>exact x rfl
  | false=>exact y rfl
 refine ba (.inl d) ?_;rw[<- eL];refine ao (λe=>?_) (λe=>?_)
 ·have e:L=1:=ZS e;obtain⟨u,rfl⟩:∃u,us=[u]:=List.length_eq_one_iff.mp (by lia);refine aR _ (.int u) (.inl d) (aD (j:=0) Z) ?_;refine cB (.int u) Z (.int u) ?_;refine ao (λf=>?_) (λf=>?_)
  ·refine aR _ (.int u) (.inl d) (aD (j:=0) Z) ?_;have es:o=some u:=g.trans (ZQ f);subst es;exact k _ (af.refl _)
  ·have es:o=none:=g.trans (ZP f);subst es;refine ba (.inl d) ?_;rw[<- eL];refine ao (λc=>ZR (ZS c) (by lia)) (λ_=>?_);exact k _ (af.refl _)
 have e:¬L=1:=λz=>e (ZT z);refine ba (.inl d) ?_;rw[<- eL];refine ao (λc=>?_) (λc=>?_)
 ·have c:L=2:=ZS c;obtain⟨u,v,rfl⟩:∃u v,us=[u,v]:=I0 (by lia);refine aR _ (.int u) (.inl d) (aD (j:=0) Z) ?_;refine jd u Z ?_;refine ao (λf=>?_) (λf=>?_)
  ·simp only [Xd,decide_eq_true_eq]at f;refine aR _ (.int v) (.inl d) (aD (j:=1) Z) ?_;refine jd v Z ?_;refine ao (λc=>?_) (λc=>?_)
   ·simp only [Xd,decide_eq_true_eq]at c;have es:o=some (65536+((u-55296)*1024+(v-56320))):=g.trans (ZQ ⟨f,c⟩);subst es;refine aR _ (.int u) (.inl d) (aD (j:=0) Z) ?_;refine aR _ (.int v) (.inl d) (aD (j:=1) Z) ?_;refine⟨sz Z,λq D r=>?_⟩;have C:=Jh (u-55296) (v-56320);have B:aE K D q (([u-55296,v-56320]:e7).map V.int):=r.lst;obtain⟨ps,p⟩:∃ps:e7,ps=[u-55296,v-56320]:=⟨_,rfl⟩;rw[<- p]at B C;have F:(2:Int) ^ 10=1024:=by decide
    refine⟨q,ps,10,rfl,B,?_,by decide,by rw[p];simp,?_⟩
    ·intro x hx;rw[p]at hx;simp at hx;rcases hx with rfl|rfl<;>lia
    ·rw[C];exact k _ r.sm
   ·have es:o=none:=g.trans (ZP λz=>c (by simp;exact z.2));subst es;exact k _ (af.refl _)
  ·have es:o=none:=g.trans (ZP λz=>f (by simp;exact z.1));subst es;exact k _ (af.refl _)
 ·have c:¬L=2:=λz=>c (ZT z);have z0:us=[]:=List.length_eq_zero_iff.mp (by lia);subst z0;subst g;exact k _ (af.refl _)
def Po(t:Adr)(H:Hp)(o:Addr)(h:Bool):Prop:=∃dx,H o=some (.ins t.cP dx [("order",.str (fh h))])
def Po.mono{H a:Hp}{o:Addr}{h:Bool}(p:Po t H o h)(s:af H a):Po t a o h:=let ⟨dx,z⟩:=p;⟨dx,s _ _ z⟩
def Cz(t:Adr):Sp:=λvs H Q _=>∃(x dx:Addr) (h:Bool),vs=[.ref x,.str (fh h)]/\H x=some (.ins t.cP dx [])/\Q .non (upd H x (.ins t.cP dx [("order",.str (fh h))]))
def N9 (T:Txt w K mg t):bo P w K mg base bK 1 t.tV t.sN ["self", "order"] (Cz t):=by
 refine T.V3.okQ Ls (λvs H Q E h=>by obtain⟨x,dx,v,rfl,_⟩:=h;rfl) λ_ _ _ _ H vs Q E a h=>?_;obtain⟨x,dx,h,rfl,hx,k⟩:=h;refine⟨_,(ai (aI (dU (gY (fZ (eB (bz (qe (K:=K) rfl) T.n_isinstance Yj (ad (aa 1) (ad (m7 rfl T.n_str PyProof.Rows.boot_str) ae))))) (gX (aA (RC (K:=K) rfl rfl T.Gj) (aa 1) (iP (v:=.ref t.Bv) rfl T.GD rfl) (by with_unfolding_all rfl))))) (aj iw) aK)
  (aj (c8 (K:=K) rfl (aa 0) (aa 1)))),?_⟩
 refine aN (.str _) (by with_unfolding_all rfl) ?_;refine c7 Z Z ?_;refine ao (λe=>ZR e (by cases h<;>simp[iZ,fh])) (λ_=>?_);exact⟨x,_,dx,_,rfl,hx,T.iE,T.kJ,by decide,k⟩
def Px (T:Txt w K mg t):jD P w K mg base "PairTongue" t.cP 1 t.tV t.sN ["self", "order"] [] (Cz t):=⟨T.QZ,T.oS,⟨[],T.Va,.nil⟩,N9 T⟩
def Qk (T:Txt w K mg t):bj P w K mg base "is_byte" 2 t.AZ t.yO ["thing"] (mR (λv=>dE v 0 255) K):=by
 refine⟨T.RT,T.HW.kp,T.Ux,T.HW.okQ KW rJ λ_ _ _ _ H vs Q E a h=>?_⟩;obtain⟨v,rfl,c,k⟩:=h;refine⟨_,(aj (am (ky (aS (xK (K:=K) T) a (ad (aa 0) ae)) (jO (m6 gL gL ah (aa 0) (bU T.Tw)))))),?_⟩;refine cB v Z c ?_;refine ao (λe=>?_) (λe=>?_)
 ·obtain⟨i,rfl⟩:=xD e;refine ao (λb=>?_) (λb=>?_)
  ·exact cA k (by simp[dE]at *;lia)
  ·exact cA k (by simp[dE]at *;lia)
 ·exact cA k (by cases v<;>simp_all [kO,dE])
def JB(t:Adr):Sp:=λvs H Q _=>∃(o a:Addr) (h:Bool) (x y:Int),vs=[.ref o,.ref a]/\Po t H o h/\H a=some (.lst [.int x,.int y])/\∀p H',af H H'->H' p=some (.lst ((if h then [x,y] else [y,x]).map V.int))->Q (.ref p) H'
def Fs (T:Txt w K mg t):bB P w K mg base t.cP "turned" 1 t.Bo t.zj ["self", "pair"] (JB t):=by
 refine⟨T.iE,T.oo,T.U7,T.V0.okQ Lq (λvs H Q E h=>by obtain⟨o,a,h,x,y,rfl,_⟩:=h;rfl) λ_ _ _ _ H vs Q E f h=>?_⟩;obtain⟨o,a,h,x,y,rfl,⟨dx,c⟩,b,k⟩:=h;have d:=f.units;refine⟨_,(aj (am (iO (aA (bG (K:=K) Z d) (aJ (K:=K) Z (aa 0)) cj (aH _)) (aa 1) (aT (ad (au (Wv K) (aa 1) ah (λ_ _=>rfl)) (ad (au (Wv K) (aa 1) ah (λ_ _=>rfl)) ae)))))),?_⟩;refine bu o _ dx _ _ Z c T.iE T.kJ Z ?_;cases h with
 | true =>
  refine ei ?_;refine ao (λ_=>?_) (λe=>ZR (by decide +kernel) e);exact k _ _ (af.refl _) b
 | false =>
  refine ei ?_;refine ao (λe=>ZR e (by decide +kernel)) (λ_=>?_);refine aR _ (.int y) (.inl (.of b)) (aD (j:=1) Z) ?_;refine aR _ (.int x) (.inl (.of b)) (aD (j:=0) Z) ?_;exact⟨sz Z,λp i g=>k _ _ g.sm g.at_⟩
def JA(K:PySem.W.Frag)(t:Adr):Sp:=λvs H Q _=>∃(o a:Addr) (h:Bool) (r:e7),vs=[.ref o,.ref a]/\Po t H o h/\aE K H a (r.map V.int)/\(r.length=2\/r.length=4)/\aW r/\∀p H',bc H p (.lst ((gy h r).map V.int)) H'->Q (.ref p) H'
def QB (T:Txt w K mg t):bB P w K mg base t.cP "units_in" 3 t.Bm t.zf ["self", "row"] (JA K t):=by
 refine⟨T.iE,T.oj,T.U5,T.VY.okQ Lo (λvs H Q E h=>by obtain⟨o,a,h,r,rfl,_⟩:=h;rfl) λ_ _ _ _ H vs Q E f h=>?_⟩;obtain⟨o,a,h,r,rfl,po,p,m,hb,k⟩:=h;have M:=f.units;refine⟨_,(aj (am (hG rfl (cq.of (fns:=(al rc).names) (N:=["self", "row"]) (Nc:=["at", "self", "row"]) (nv:=1) (caps:=[0,1]) rfl rfl (by decide +kernel)) (Mi rfl T.n_range (ad ah (ad (bz (Wu K) T.n_len WN (ad (aa 1) ae)) (ad ah ae)))) (λ_ _ _ _=>(aX (i:=0) (show List.Nodup (["at", "self", "row"]:List Str) by decide +kernel) rfl (Or.inl rfl) (Or.inr rfl))) (λ_ _ _ _=>fX) (λ_ _ _ _=>(aS (xI (K:=K) T) f (ad (cN (Fs (K:=K) T) f (aa 1) (ad (dw (Ww K) (aa 2) (ci (aa 0)) (ci (az (Wt K) (aa 0) ah))) ae)) (ad (bU T.GE) ae))))))),?_⟩;refine ba (.inl p) ?_;refine⟨r.length,2,by rw[WA];rfl,by lia,by decide,by decide,?_⟩;have s:(gy h r).length=(r.length+(2-1))/2:=by
  rcases m with l|l
  ·obtain⟨x,y,rfl⟩:=xB l;simp[gy]
  ·obtain⟨x,y,z,v,rfl⟩:=Ez l;simp[gy]
 refine SW (cs:=[some (.ref o),some (.ref a)]) ((gy h r).map V.int) (by rw[WA,s]) (bM (by lia)) (λi y W N j e g hN=>?_) k;obtain⟨c,b,B,D,G,rfl⟩:∃c b,gn r (some ((0:Int)+(i:Int)*((2:Nat):Int))) (some ((0:Int)+(i:Int)*((2:Nat):Int)+2))=[c,b]/\c∈r/\b∈r/\y=.int (u2 h c b):=by
  rcases m with l|l
  ·obtain⟨x,z,rfl⟩:=xB l;have:i=0:=by simp at j;lia
   subst this;cases e;exact⟨x,z,rfl,by simp,by simp,rfl⟩
  ·obtain⟨x,z,v,u,rfl⟩:=Ez l;have:i=0\/i=1:=by simp at j;lia
   rcases this with rfl|rfl
   ·cases e;exact⟨x,z,rfl,by simp,by simp,rfl⟩
   ·cases e;exact⟨v,u,rfl,by simp,by simp,rfl⟩
 obtain⟨dx,n⟩:=po.mono g;refine bI o dx _ Z n Z ?_;refine⟨_,Z,_,Z,_,g.seq p,λF Y d=>?_⟩;rw[ib,B]at d;refine⟨o,F,h,c,b,Z,⟨dx,d.sm _ _ n⟩,d.at_,λI U C J=>?_⟩;have S:=hb c D;have R:=hb b G;have O:(2:Int) ^ 8=256:=by decide
 refine⟨I,if h then [c,b] else [b,c],8,rfl,.of J,?_,by decide,by cases h<;>simp,?_⟩
 ·intro q hq;cases h<;>simp at hq<;>rcases hq with rfl|rfl<;>lia
 ·have L:cg 8 (if h then [c,b] else [b,c])=u2 h c b:=by cases h<;>simp[cg,u2]
  rw[L];exact hN _ (d.sm.trans C)
theorem ID(h:Bool):∀r:e7,r.length=2\/r.length=4->(gy h r).length<=2
 | [_,_],_=>by simp[gy]
 | [_,_,_,_],_=>by simp[gy]
def Cl(K:PySem.W.Frag)(t:Adr):Sp:=λvs H Q _=>∃(o a:Addr) (h:Bool) (r:e7),vs=[.ref o,.ref a,.int 0]/\Po t H o h/\aE K H a (r.map V.int)/\aW r/\r.length<=1000/\(∀n,gx h r=some n->∀p H',bc H p (.tup [.int n,.int 0]) H'->Q (.ref p) H')/\(gx h r=none->∀H',af H H'->Q .non H')
def N0 (T:Txt w K mg t):bo P w K mg base bK 5 t.tT t.sL ["self", "row", "page"] (Cl K t):=by
 refine T.VX.okQ C5 (λvs H Q E h=>by obtain⟨o,a,h,r,rfl,_⟩:=h;rfl) λ_ _ _ _ H vs Q E d h=>?_;obtain⟨o,a,h,r,rfl,po,j,hb,x,k1,k2⟩:=h;have B:=d.units;refine⟨_,(ai (aI (aA (RD (K:=K) rfl) (bz (Wu K) T.n_len WN (ad (aa 1) ae)) (bF (ad ah (ad ah ae))) (by with_unfolding_all rfl)) (aj (am bY)) aK)
  (ai (aL (i:=3) C5.nd rfl (.inl rfl) (aS (P8 (K:=K) T) d (ad (cN (QB (K:=K) T) d (aa 0) (ad (aa 1) ae)) ae)))
  (aj (am (iO (aA jW (aa 3) bY (aH _)) bY (bF (ad (aa 3) (ad (aa 2) ae)))))))),?_⟩
 refine ba (.inl j) ?_;refine⟨sz Z,λy v b=>?_⟩;refine qA (.inr b.tup) Z Z ?_;have g:gj (.int ((r.map V.int).length:Int)) [V.int 2,V.int 4]=decide (r.length=2\/r.length=4):=by
  rw[WA,XG];simp[gj,eI];lia
 refine ao (λe=>?_) (λe=>?_)
 ·have e:(!gj (.int ((r.map V.int).length:Int)) [V.int 2,V.int 4])=true:=e;rw[g]at e;have c:¬(r.length=2\/r.length=4):=by simpa using e
  exact k2 (ZP c) _ b.sm
 have e:¬(!gj (.int ((r.map V.int).length:Int)) [V.int 2,V.int 4])=true:=e;rw[g]at e;have c:r.length=2\/r.length=4:=by simp at e;lia
 have m:gx h r=jK (gy h r):=ZQ c;obtain⟨dx,k⟩:=po.mono b.sm;refine bI o dx _ Z k Z ?_;refine cL o a h r Z ⟨dx,k⟩ (b.sm.seq j) c hb (λu z f=>?_);refine⟨u,gy h r,Z,f.lst,ID h r c,λC p=>?_⟩;have sA:=b.sm.trans (f.sm.trans p);rw[m]at k1 k2;cases es:jK (gy h r) with
 | none=>exact k2 es _ sA
 | some n=>exact⟨sz rfl,λs l q=>k1 n es s l (q.after sA)⟩
def Fq (T:Txt w K mg t):eV P w K mg base t.cP "whole" 5 t.tT t.sL ["self", "row", "page"] [] (Cl K t) :=
 ⟨T.iE,T.oi,⟨_,T.U4,.nil⟩,N0 T⟩
def kW(h:Bool)(r:e7):Option (e7):=(jZ h).find? λf=>(gx h (r++f)).isSome
def CG(K:PySem.W.Frag)(t:Adr):Sp:=λvs H Q _=>∃(o a:Addr) (h:Bool) (r:e7),vs=[.ref o,.ref a,.int 0]/\Po t H o h/\aE K H a (r.map V.int)/\aW r/\r.length<=900/\(∀f,kW h r=some f->∀p H',bc H p (.lst (f.map V.int)) H'->Q (.ref p) H')/\(kW h r=none->∀H',af H H'->Q .non H')
def sU(t:Adr)(h:Bool):List Addr:=if h then [t.a_FILLS_0_0,t.a_FILLS_0_1,t.a_FILLS_0_2,t.a_FILLS_0_3,t.a_FILLS_0_4] else [t.a_FILLS_1_0,t.a_FILLS_1_1,t.a_FILLS_1_2,t.a_FILLS_1_3,t.a_FILLS_1_4]
def Sn(T:Txt w K mg t)(h:Bool){i:Nat}{x:V}(hx:((sU t h).map V.ref)[i]? = some x):∃b f,x=.ref b/\(jZ h)[i]? = some f/\∀H,be K H b (f.map V.int):=by
 cases h with
 | true =>
  match i,hx with
  | 0,hx=>cases hx;exact⟨_,_,Z,Z,T.q_FILLS_0_0⟩
  | 1,hx=>cases hx;exact⟨_,_,Z,Z,T.q_FILLS_0_1⟩
  | 2,hx=>cases hx;exact⟨_,_,Z,Z,T.q_FILLS_0_2⟩
  | 3,hx=>cases hx;exact⟨_,_,Z,Z,T.q_FILLS_0_3⟩
  | 4,hx=>cases hx;exact⟨_,_,Z,Z,T.q_FILLS_0_4⟩
 | false =>
  match i,hx with
  | 0,hx=>cases hx;exact⟨_,_,Z,Z,T.q_FILLS_1_0⟩
  | 1,hx=>cases hx;exact⟨_,_,Z,Z,T.q_FILLS_1_1⟩
  | 2,hx=>cases hx;exact⟨_,_,Z,Z,T.q_FILLS_1_2⟩
  | 3,hx=>cases hx;exact⟨_,_,Z,Z,T.q_FILLS_1_3⟩
  | 4,hx=>cases hx;exact⟨_,_,Z,Z,T.q_FILLS_1_4⟩
theorem FY{α:Type}{p:α->Bool}:∀ {l:List α} {i:Nat} {f:α},l[i]? = some f->(∀g∈l.take i,p g=false)->p f=true->l.find? p=some f
 | a::r,0,f,h,_,hp=>by cases h;rw[Xf,hp]
 | a::r,i+1,f,h,hn,hp=>by
  rw[Xf,hn a (by simp)];exact FY (l:=r) (i:=i) h (λg b=>hn g (by simp[b])) hp
def Oc (T:Txt w K mg t):bo P w K mg base bK 6 t.tW t.pJ ["self", "row", "page"] (CG K t):=by
 refine T.V4.okQ C6 (λvs H Q E h=>by obtain⟨o,a,h,r,rfl,_⟩:=h;rfl) λ_ _ _ _ H vs Q E B h=>?_;obtain⟨o,a,h,r,rfl,po,M,hb,hl,k1,k2⟩:=h;have U:=B.units;refine⟨_,(ai (cw PassesOwn.never Z (Mg (K:=K) Z (Ms (K:=K) Z Z T.Gj Z T.GD (aJ (K:=K) Z (aa 0)))) (aX (i:=3) C6.nd Z (.inl Z)) (aj (aI (aA pq (cE (Fq (K:=K) T) B (aa 0) (ad (az (Wt K) (aa 1) (dI (Wx K) T.n_list Xa (ad (aa 3) ae))) (ad (aa 2) ae))) bY (aH _)) (aj (am (dI (Wx K) T.n_list Xa (ad (aa 3) ae)))) aK)))
  (aj (am bY))),?_⟩
 obtain⟨dx,m⟩:=id po;refine bu o _ dx _ _ Z m T.iE T.kJ Z ?_;obtain⟨F,eF,qF⟩:∃F,iZ [(t.h_FILLS_0, "high",t.a_FILLS_0),(t.h_FILLS_1, "low",t.a_FILLS_1)] (fh h)=some F/\∀H,be K H F ((sU t h).map V.ref):=by
  cases h with
  | true=>exact⟨_,by simp[iZ,fh],T.q_FILLS_0⟩
  | false=>exact⟨t.a_FILLS_1,by simp[iZ,fh,show ¬(("high" : Str) = "low") by decide],T.q_FILLS_1⟩
 refine aR _ F Z eF ?_;have eL:((sU t h).map V.ref).length=(jZ h).length:=by cases h<;>rfl
 refine c7 rfl ⟨_,qF _⟩ (Sd (K:=K) (a:=F) (xs:=(sU t h).map V.ref) (λi σ q=>af H q/\(∀g∈(jZ h).take i,(gx h (r++g)).isSome=false)/\∃p,σ=[some (.ref o),some (.ref a),some (.int 0),p]) ⟨af.refl _,λg z=>by simp at z,_,rfl⟩ (λi σ q _ z=>qF _) ?_ ?_)
 ·rintro i x σ N hx ⟨e,d,p,rfl⟩;obtain⟨b,f,rfl,j,y⟩:=Sn T h hx;have u:=W8 j;have I:=Sk u;refine bI o dx _ Z (e _ _ m) Z ?_;refine ba (.inr (y _)) (λY H3 s=>?_);have v:=e.trans s.sm;refine d7 (v.seq M) s.lst (bM (by rw[WA,WA];lia)) (λL H4 k=>?_);rw[<- WI]at k;have l:=v.trans k.sm;refine⟨o,L,h,r++f,rfl,⟨dx,l _ _ m⟩,k.lst,hb.app (Sl u),by rw[WC];lia,λn hw W O D=>?_,λhw O J=>?_⟩
  ·have S:kW h r=some f:=FY j d (by rw[hw];rfl);exact⟨_,.inr (y _),λC G R=>k1 f S C G (R.after (l.trans D.sm))⟩
  ·refine⟨l.trans J,λg c=>?_,_,Z⟩;rw[Yx,j]at c;rcases WQ.mp c with c|c
   ·exact d g c
   ·have:g=f:=by simpa using c
    rw[this,hw];rfl
 ·rintro σ N ⟨e,d,p,rfl⟩;rw[eL,WY]at d;exact k2 (XW.mpr λg c=>by rw[d g c];simp) _ e
def Fv (T:Txt w K mg t):eV P w K mg base t.cP "fill" 6 t.tW t.pJ ["self", "row", "page"] [] (CG K t) :=
 ⟨T.iE,T.oz,⟨_,T.Vb,.nil⟩,Oc T⟩
def MW(h:Bool)(n:Int):(fF h n).length=if n<65536 then 2 else 4:=by
 unfold fF du;by_cases c:n<65536
 ·rw[ZQ c,ZQ c,sf];rfl
 ·rw[ZP c,ZP c,sf];rfl
def IH(h:Bool){u:Int}(a:0<=u/\u<65536):aW (ub h u):=by
 intro b hb;unfold ub at hb;cases h<;>simp at hb<;>lia
def MY(h:Bool){n:Int}(hs:Sg n):aW (fF h n):=by
 intro b hb;unfold fF at hb;obtain⟨u,a,hb⟩:=List.mem_flatMap.mp hb;exact IH h (BN hs a) b hb
def Gp(f:Int)(r:e7):cY ((f::r).map V.int) (some 1) none=r.map V.int:=by
 rw[ib]
 congr 1
 exact qa (f::r) 1
def J5:Sp:=λvs H Q _=>∃f,vs=[.int f]/\Q (.int (lb f)) H
def Qf (T:Txt w K mg t):bj P w K mg base "length_behind" 1 t.AO t.yF ["first"] J5:=by
 refine⟨T.RI,T.HK.kp,T.Um,T.HK.okQ KM (λvs H Q E h=>by obtain⟨f,rfl,_⟩:=h;rfl) λ_ _ _ _ H vs Q E i h=>?_⟩;obtain⟨f,rfl,k⟩:=h;have j:=i.units;refine⟨_,(ai (aI (aA fi (aa 0) ah (aH _)) (aj (am ah)) aK)
  (ai (aI (dU (gY (aA fi (aa 0) ah (aH _)) (gX (aA ju (aa 0) ah (aH _))))) (aj (am ah)) aK)
  (ai (aI (aA fi (aa 0) ah (aH _)) (aj (am ah)) aK)
  (ai (aI (aA fi (aa 0) ah (aH _)) (aj (am ah)) aK)
  (aj (am ah)))))),?_⟩
 have a:∀ {n:Int},n=lb f->Q (.int n) H:=λe=>e ▸ k;refine ao (λe=>a ?_) (λe=>?_)
 ·simp at e;unfold lb;rw[ZQ (by lia)]
 refine ao (λb=>?_) (λb=>?_)
 ·exact a (by simp at e b;unfold lb;rw[ZP (by lia),ZQ (by lia)])
 refine ao (λc=>?_) (λc=>?_)
 ·exact a (by simp at e b c;unfold lb;rw[ZP (by lia),ZQ (by lia)])
 refine ao (λd=>?_) (λd=>?_)
 ·exact a (by simp at e b c d;unfold lb;rw[ZP (by lia),ZP (by lia),ZQ (by lia)])
 refine ao (λg=>?_) (λg=>?_)
 ·exact a (by simp at e b c d g;unfold lb;rw[ZP (by lia),ZP (by lia),ZP (by lia),ZQ (by lia)])
 ·exact a (by simp at e b c d g;unfold lb;rw[ZP (by lia),ZP (by lia),ZP (by lia),ZP (by lia)])
def Kn(K:PySem.W.Frag):Sp:=λvs H Q _=>∃(a:Addr) (f:Int) (r:e7) (p:Nat),vs=[.ref a,.int (p:Int)]/\aE K H a ((f::r).map V.int)/\∀b H',af H H'->be K H' b [.int (dJ f p),.int (fL f p)]->Q (.ref b) H'
def Ff (T:Txt w K mg t):bj P w K mg base "bounds_behind" 1 t.Bb t.yU ["row", "place"] (Kn K):=by
 refine⟨T.R6,T.Ic.kp,T.UD,T.Ic.okQ K1 (λvs H Q E h=>by obtain⟨a,f,r,p,rfl,_⟩:=h;rfl) λ_ _ _ _ H vs Q E m h=>?_⟩;obtain⟨a,f,r,p,rfl,g,k⟩:=h;have l:=m.units;refine⟨_,(ai (aI (aA (bG (K:=K) Z l) (aa 1) ah (aH _)) (aj (am (Mt (K:=K) Z T.SO Z T.To (au (Wv K) (aa 0) ah (λ_ _=>rfl)) (bF (ad (bU T.tu) (ad (bU T.GB) ae)))))) aK)
  (aj (am (bF (ad (bU T.tu) (ad (bU T.GB) ae)))))),?_⟩
 refine ao (λe=>?_) (λe=>?_)
 ·have d:p=1:=by have:=ZS e;lia
  subst d;refine aR _ (.int f) (.inl g) (aD (j:=0) Z) ?_;refine⟨sz Z,λi c b=>?_⟩;refine jd f Z ?_;by_cases c1:f=224
  ·subst c1;exact k _ _ b.sm (T.q_SECONDS_0 c)
  by_cases c2:f=237
  ·subst c2;exact k _ _ b.sm (T.q_SECONDS_1 c)
  by_cases c3:f=238
  ·subst c3;exact k _ _ b.sm (T.q_SECONDS_2 c)
  by_cases c4:f=240
  ·subst c4;exact k _ _ b.sm (T.q_SECONDS_3 c)
  by_cases c5:f=244
  ·subst c5;exact k _ _ b.sm (T.q_SECONDS_4 c)
  have e:o9 [(224,t.a_SECONDS_0),(237,t.a_SECONDS_1),(238,t.a_SECONDS_2),(240,t.a_SECONDS_3),(244,t.a_SECONDS_4)] f=none:=by
   simp[o9,Ne.symm c1,Ne.symm c2,Ne.symm c3,Ne.symm c4,Ne.symm c5]
  rw[e];refine k _ _ b.sm ?_;rw[dJ,fL,ZQ rfl,ZQ rfl,kM,kP,ZP c1,ZP c4,ZP c2,ZP c3,ZP c5];exact b.tup
 ·refine⟨sz Z,λi c b=>?_⟩;have d:p≠1:=λz=>by subst z;exact e Z
  refine k _ _ b.sm ?_;rw[dJ,fL,ZP d,ZP d];exact b.tup
def Kc(K:PySem.W.Frag):Sp:=λvs H Q _=>∃(a:Addr) (f:Int) (r:e7),vs=[.ref a]/\aE K H a ((f::r).map V.int)/\r.length<=1000/\∀H',af H H'->(uq f r->Q (.bl true) H')/\(¬uq f r->Q (.bl false) H')
def Ql (T:Txt w K mg t):bj P w K mg base "fits_behind" 2 t.A6 t.yP ["row"] (Kc K):=by
 refine⟨T.RV,T.HX.kp,T.Uy,T.HX.okQ uU (λvs H Q E h=>by obtain⟨a,f,r,rfl,_⟩:=h;rfl) λ_ _ _ _ H vs Q E C h=>?_⟩;obtain⟨a,f,r,rfl,p,J,k⟩:=h;have L:=C.units;refine⟨_,(ai (cw PassesOwn.never Z (Ds Z T.n_range (ad ah (ad (bz (Wu K) T.n_len WN (ad (aa 0) ae)) ae))) (aX (i:=1) uU.nd Z (.inl Z)) (ai (aL (i:=2) uU.nd Z (.inl Z) (aS (Ff (K:=K) T) C (ad (aa 0) (ad (aa 1) ae))))
  (aj (aI (fZ (Dv gL gL (au (Wv K) (aa 2) ah (λ_ _=>rfl)) (au (Wv K) (aa 0) (aa 1) (λ_ _=>rfl)) (au (Wv K) (aa 2) ah (λ_ _=>rfl)))) (aj (am ix)) aK))))
  (aj (am ix))),?_⟩
 refine ba (.inl p) ?_;have hL:((List.map V.int (f::r)).length:Int)=(r.length:Int)+1:=by simp
 refine aR 1 _ rfl ⟨by lia,by lia,by lia,by lia⟩ ?_;have hN:(((List.map V.int (f::r)).length:Int)-1).toNat=r.length:=by lia
 rw[hN];refine mr (lo:=1) (n:=r.length) (λi σ G=>af H G/\(∀j x,j<i->r[j]? = some x->dJ f (j+1)<=x/\x<=fL f (j+1))/\∃m o,σ=[some (.ref a),m,o])
  ⟨af.refl _,λj x z=>ZR z (Xw _),_,_,rfl⟩ ?_ ?_
 ·rintro i σ F D ⟨d,l,m,o,rfl⟩;obtain⟨x,hx⟩:∃x,r[i]? = some x:=⟨_,W9 D⟩;have B:(1:Int)+(i:Int)=((i+1:Nat):Int):=by lia
  refine⟨a,f,r,i+1,by rw[<- B];rfl,d.seq p,λb I s hb=>?_⟩;refine aR _ (.int (dJ f (i+1))) (.inr hb) (aD (j:=0) Z) ?_;have q:cR (List.map V.int (f::r)) (1+(i:Int))=some (.int x):=by
   rw[B];exact aD (by rw[W7,List.getElem?_cons_succ,WJ,hx];rfl)
  refine aR _ (.int x) (.inl (s.seq (d.seq p))) q ?_;have g:¬(dJ f (i+1)<=x/\x<=fL f (i+1))->Q (.bl false) I:=λz=>(k _ (d.trans s)).2 λy=>z (y i x hx);refine ao (λe=>?_) (λe=>?_)
  ·refine aR _ (.int (fL f (i+1))) (.inr hb) (aD (j:=1) Z) ?_;refine ao (λu=>?_) (λu=>?_)
   ·exact g λz=>by simp at u;lia
   ·refine⟨d.trans s,λj y hj v=>?_,_,_,Z⟩;by_cases c:j<i
    ·exact l j y c v
    ·have:j=i:=by lia
     subst this;rw[hx]at v;cases v;have:=ZS e;simp at u;lia
  ·exact g λz=>e (ZT z.1)
 ·rintro σ F ⟨d,l,m,o,rfl⟩;exact (k _ d).1 λi x hx=>l i x (WF.mp hx).1 hx
def J2(K:PySem.W.Frag):Sp:=λvs H Q _=>∃(a:Addr) (f:Int) (r:e7),vs=[.ref a]/\aE K H a ((f::r).map V.int)/\r.length<=1000/\∀H',af H H'->(lH f r->Q (.int (lb f-((r.length:Int)+1))) H')/\(¬lH f r->Q .non H')
def E5 (T:Txt w K mg t):bj P w K mg base "missing" 3 t.AM t.yD ["row"] (J2 K):=by
 refine⟨T.RG,T.HH.kp,T.Uk,T.HH.okQ CW (λvs H Q E h=>by obtain⟨a,f,r,rfl,_⟩:=h;rfl) λ_ _ _ _ H vs Q E c h=>?_⟩;obtain⟨a,f,r,rfl,b,g,k⟩:=h;have m:=c.units;refine⟨_,(ai (aL (i:=1) CW.nd Z (.inl Z) (az cX (aS (Qf (K:=K) T) c (ad (au (Wv K) (aa 0) ah (λ_ _=>rfl)) ae)) (bz (Wu K) T.n_len WN (ad (aa 0) ae))))
  (ai (aI (dU (gY (aA fi (aa 1) ah (aH _)) (gX (fZ (eB (aS (Ql (K:=K) T) c (ad (aa 0) ae))))))) (aj (am bY)) aK)
  (aj (am (aa 1))))),?_⟩
 refine aR _ (.int f) (.inl b) (aD (j:=0) Z) ?_;refine jd f Z ?_;refine ba (.inl b) ?_;have hL:((List.map V.int (f::r)).length:Int)=(r.length:Int)+1:=by simp
 refine ao (λe=>?_) (λe=>?_)
 ·exact (k _ (af.refl _)).2 λz=>by have:=ZS e;have:=z.1;lia
 ·have n:¬(lb f-((List.map V.int (f::r)).length:Int)<0):=λz=>e (ZT z);refine bI a f r Z b g (λl d=>⟨λy=>?_,λy=>?_⟩)
  ·have q:=(k _ d).1 ⟨by lia,y⟩;rw[<- hL]at q;exact q
  ·exact (k _ d).2 λz=>y z.2
def CF(K:PySem.W.Frag):Sp:=λvs H Q _=>∃(o a:Addr) (b:e7),vs=[.ref o,.ref a,.int 0]/\aE K H a (b.map V.int)/\b.length<=1000/\(qz b->∀p H',bc H p (.lst ((jv b).map V.int)) H'->Q (.ref p) H')/\(¬qz b->∀H',af H H'->Q .non H')
def Od (T:Txt w K mg t):bo P w K mg base bK 4 t.tZ t.pK ["self", "row", "page"] (CF K):=by
 refine T.V7.okQ C7 (λvs H Q E h=>by obtain⟨o,a,l,rfl,_⟩:=h;rfl) λ_ _ _ _ H vs Q E e h=>?_;obtain⟨o,a,l,rfl,d,C,k1,k2⟩:=h;have F:=e.units;refine⟨_,(ai (aI (fZ (gK (K:=K) Z (aa 1))) (aj (am (aT (ad ah ae)))) aK)
  (ai (aL (i:=3) C7.nd rfl (.inl rfl) (aS (E5 (K:=K) T) e (ad (aa 1) ae)))
  (ai (aI (aA jW (aa 3) bY (aH _)) (aj (am bY)) aK)
  (aj (am (hG rfl (cq.of (fns:=(al re).names) (N:=["self", "row", "page", "lack"]) (Nc:=["place", "row"]) (nv:=1) (caps:=[1]) rfl rfl (by decide +kernel)) (Ds rfl T.n_range (ad (bz (Wu K) T.n_len WN (ad (aa 1) ae)) (ad (az (Wt K) (bz (Wu K) T.n_len WN (ad (aa 1) ae)) (aa 3)) ae))) (λ_ _ _ _=>(aX (i:=0) (show List.Nodup (["place", "row"]:List Str) by decide +kernel) rfl (Or.inl rfl) (Or.inr rfl))) (λ_ _ _ _=>fX) (λ_ _ _ _=>(au (Wv K) (aS (Ff (K:=K) T) e (ad (aa 1) (ad (aa 0) ae))) ah (λ_ _=>rfl))))))))),?_⟩
 refine ba (.inl d) ?_;cases l with
 | nil =>
  refine o6 ?_;exact⟨sz Z,λp s g=>k1 trivial p s g⟩
 | cons f r =>
  refine Pc ?_;refine bI a f r rfl d (by simp at C;lia) (λJ c=>⟨λy=>?_,λy=>?_⟩)
  ·refine ba (.inl (c.seq d)) ?_;refine ba (.inl (c.seq d)) ?_;have hL:((List.map V.int (f::r)).length:Int)=(r.length:Int)+1:=by simp
   have hb:=o5 f;have G:=y.1;refine aN rfl ⟨by lia,by lia,by lia,by lia⟩ ?_;have n:(((List.map V.int (f::r)).length:Int)+(lb f-((r.length:Int)+1))-((List.map V.int (f::r)).length:Int)).toNat=(lb f-((r.length:Int)+1)).toNat:=by lia
   rw[n];refine SX ((jv (f::r)).map V.int) (by rw[WA,jv,WA,YA]) (bM (by lia)) (λi v m N B k z hN=>?_) λp m x=>k1 y p m (x.after c);have q:v=.int (dJ f (r.length+1+i)):=by
    rw[WJ,jv,WJ,Y5 B]at k;cases k
    rfl
   subst q;have D:((List.map V.int (f::r)).length:Int)+(i:Int)=((r.length+1+i:Nat):Int):=by lia
   refine⟨a,f,r,r.length+1+i,by rw[<- D];rfl,z.seq (c.seq d),λb I u hb=>?_⟩;exact⟨_,.int (dJ f (r.length+1+i)),.inr hb,aD (j:=0) Z,hN _ u⟩
  ·exact k2 y _ c
def Fy (T:Txt w K mg t):eV P w K mg base t.fP "fill" 4 t.tZ t.pK ["self", "row", "page"] [] (CF K) :=
 ⟨T.qd,T.oF,⟨_,T.Ve,.nil⟩,Od T⟩
def jU(n:Nat):Int:=if n=1 then 192 else if n=2 then 224 else 240
def ic:e7->Int
 | []=>0
 | [f]=>f
 | f::r=>cg 6 ((f-jU r.length)::r.map λb=>b-128)
def Kl(K:PySem.W.Frag):Sp:=λvs H Q _=>∃(a:Addr) (b:e7),vs=[.ref a]/\aE K H a (b.map V.int)/\i7 b/\∀H',af H H'->Q (.int (ic b)) H'
def Iv{f x:Int}{r:e7}(h:i7 (f::x::r)):(∀y∈x::r,128<=y/\y<=191)/\0<=f-jU (r.length+1)/\f-jU (r.length+1)<64/\r.length<=2/\(∃v,[0,0,192,224,240][r.length+2]? = some v/\v=jU (r.length+1)):=by
 have d:=o5 f;obtain⟨⟨e,b⟩,c⟩:lH f (x::r)/\((x::r).length:Int)+1=lb f:=h;refine⟨((FX f _).mp b).1,?_⟩;have a:(r.length:Int)+2=lb f:=by simp at c;lia
 have g:r.length<=2:=by lia
 unfold lb at a;have:r.length=0\/r.length=1\/r.length=2:=by lia
 rcases this with z|z|z<;>rw[z]at a ⊢<;>simp only [jU]<;>(repeat' split at a)<;>first|lia|exact⟨by simp;lia,by simp;lia,by lia,_,rfl,rfl⟩
def Qo (T:Txt w K mg t):bj P w K mg base "carried" 3 t.Ba t.yT ["row"] (Kl K):=by
 refine⟨T.R0,T.Ib.kp,T.UC,T.Ib.okQ K0 (λvs H Q E h=>by obtain⟨a,s,rfl,_⟩:=h;rfl) λ_ _ _ _ H vs Q E u h=>?_⟩;obtain⟨a,s,rfl,c,hw,k⟩:=h;have B:=u.units;refine⟨_,(ai (aI (aA (bG (K:=K) Z B) (bz (Wu K) T.n_len WN (ad (aa 0) ae)) ah (aH _)) (aj (am (au (Wv K) (aa 0) ah (λ_ _=>rfl)))) aK)
  (aj (am (aS (xI (K:=K) T) u (ad (az (Wt K) (aT (ad (az cX (au (Wv K) (aa 0) ah (λ_ _=>rfl)) (au (Wv K) (iP (v:=.ref t.t0) rfl T.GA rfl) (bz (Wu K) T.n_len WN (ad (aa 0) ae)) (λ_ _=>rfl))) ae)) (hG rfl (cq.of (fns:=(al q8).names) (N:=["row"]) (Nc:=["byte"]) (nv:=1) (caps:=[]) rfl rfl (by decide +kernel)) (cC (K:=K) rfl (dw (Ww K) (aa 0) (ci ah) gf)) (λ_ _ _ _=>(aX (i:=0) (show List.Nodup (["byte"]:List Str) by decide +kernel) rfl (Or.inl rfl) (Or.inr rfl))) (λ_ _ _ _=>fX) (λ_ _ _ _=>(az cX (aa 0) (bU T.tu))))) (ad (bU T.GF) ae)))))),?_⟩
 refine ba (.inl c) ?_
 match s,c,hw,k with
 | [],_,hw,_=>exact hw.elim
 | [f],c,hw,k =>
  exact⟨_,.int f,.inl c,aD (j:=0) Z,k _ (af.refl _)⟩
 | f::x::r,c,hw,k =>
  obtain⟨D,C,z,I,v,g,p⟩:=Iv hw;have hL:((List.map V.int (f::x::r)).length:Int)=((r.length+2:Nat):Int):=by simp;lia
  refine aR _ (.int f) (.inl c) (aD (j:=0) Z) ?_;refine ba (.inl c) ?_;have n:cR (([0,0,192,224,240]:e7).map V.int) ((List.map V.int (f::x::r)).length:Int)=some (.int v):=by
   rw[hL];exact aD (by rw[WJ,g];rfl)
  refine aR _ (.int v) (.inr (T.DB _)) n ?_;refine⟨sz Z,λR J l=>?_⟩;refine⟨_,Z,_,l.sm.seq c,λO U e=>?_⟩;rw[Gp]at e;refine c7 Z ⟨_,e.lst⟩ ?_;refine qc (((x::r).map λb=>b-128).map V.int) (by simp) e.lst (bM (by simp;lia)) (λi y v G N d g L hN=>?_) λM G m=>?_
  ·rw[WJ]at d;obtain⟨y,o,rfl⟩:=Xq.mp d;rw[WJ,WJ,o]at g;cases g;exact hN _ (af.refl _)
  refine d7 ((e.sm.trans m.sm).seq l.lst) m.lst (bM (by simp;lia)) (λF S q=>?_);refine⟨F,(f-v)::(x::r).map λb=>b-128,6,rfl,q.lst,?_,by decide,by simp;lia,?_⟩
  ·intro y d;rcases WU.mp d with rfl|d
   ·rw[p];exact⟨C,z⟩
   ·obtain⟨b,hb,rfl⟩:=Xs.mp d;have:=D b hb;exact⟨by lia,show b-128<64 by lia⟩
  ·rw[p];exact k _ (l.sm.trans (e.sm.trans (m.sm.trans q.sm)))
def Cm(K:PySem.W.Frag):Sp:=λvs H Q _=>∃(o a:Addr) (b:e7),vs=[.ref o,.ref a,.int 0]/\aE K H a (b.map V.int)/\b.length<=1000/\(i7 b->∀p H',bc H p (.tup [.int (ic b),.int 0]) H'->Q (.ref p) H')/\(¬i7 b->∀H',af H H'->Q .non H')
def N2 (T:Txt w K mg t):bo P w K mg base bK 4 t.tX t.sO ["self", "row", "page"] (Cm K):=by
 refine T.V5.okQ Lu (λvs H Q E h=>by obtain⟨o,a,i,rfl,_⟩:=h;rfl) λ_ _ _ _ H vs Q E d h=>?_;obtain⟨o,a,i,rfl,c,j,k1,k2⟩:=h;have l:=d.units;refine⟨_,(ai (aI (dU (ku (gK (K:=K) Z (aa 1)) (lS (aA (bG (K:=K) Z l) (aS (E5 (K:=K) T) d (ad (aa 1) ae)) ah (aH _))))) (aj (am (bF (ad (aS (Qo (K:=K) T) d (ad (aa 1) ae)) (ad (aa 2) ae))))) aK)
  (aj (am bY))),?_⟩
 refine ba (.inl c) ?_;cases i with
 | nil=>exact k2 id _ (af.refl _)
 | cons f r =>
  refine bI a f r rfl c (by simp at j;lia) (λn b=>⟨λy=>?_,λy=>?_⟩)
  ·refine ao (λe=>?_) (λe=>?_)
   ·have hw:i7 (f::r):=⟨y,by have:=ZS e;lia⟩;refine⟨a,f::r,Z,b.seq c,hw,λq m=>?_⟩;exact⟨sz Z,λp k g=>k1 hw p k (g.after (b.trans m))⟩
   ·exact k2 (λz=>e (ZT (by have:=z.2;lia))) _ b
  ·refine⟨_,_,bf.non,bf.int 0,Z,Z,?_⟩;exact k2 (λz=>y z.1) _ b
def QF (T:Txt w K mg t):eV P w K mg base t.fP "whole" 4 t.tX t.sO ["self", "row", "page"] [] (Cm K) :=
 ⟨T.qd,T.oC,⟨_,T.Vc,.nil⟩,N2 T⟩
end
end My
namespace My
open PySem L2
def b9:e7->Int->Option Nat
 | [],_=>none
 | m::ms,n=>if m=n then some 0 else (b9 ms n).map (· + 1)
def h9{ns:e7}{n:Int}:b9 ns n=none ↔ n∉ns:=by
 induction ns with
 | nil=>simp[b9]
 | cons m ms ih =>
  unfold b9;by_cases e:m=n
  ·simp[e]
  ·rw[ZP e];have a:¬n=m:=λz=>e z.symm;simp[ih,a]
theorem me:∀ {ns:e7} {n:Int} {i:Nat},b9 ns n=some i->ns[i]? = some n/\∀j,j<i->ns[j]? ≠ some n
 | [],n,i,h=>by cases h
 | m::ms,n,i,h=>by
  unfold b9 at h;by_cases e:m=n
  ·rw[ZQ e]at h;cases h;exact⟨by simp[e],λj hj=>ZR hj (by lia)⟩
  ·rw[ZP e]at h;obtain⟨k,c,rfl⟩:=Xq.mp h;obtain⟨a,b⟩:=me c;refine⟨by simpa using a,λj hj=>?_⟩;cases j with
   | zero=>simpa using e
   | succ j=>simpa using b j (by lia)
theorem Pq(ns:e7)(n m:Int):b9 (ns++[n]) m=match b9 ns m with
 | some i=>some i
 | none=>if n=m then some ns.length else none:=by
 induction ns with
 | nil=>simp[b9]
 | cons a as ih =>
  rw[List.cons_append,b9,b9];by_cases e:a=m
  ·rw[ZQ e,ZQ e]
  ·rw[ZP e,ZP e,ih];cases b9 as m with
   | some i=>rfl
   | none =>
    dsimp only [Option.map];by_cases e2:n=m
    ·rw[ZQ e2,ZQ e2];simp
    ·rw[ZP e2,ZP e2]
def md{ns:e7}{n:Int}(h:n∈ns):∃i,b9 ns n=some i/\i<ns.length:=by
 cases e:b9 ns n with
 | none=>exact ZR h (h9.mp e)
 | some i=>exact⟨i,rfl,(WF.mp (me e).1).1⟩
def ak{α:Type}(g:Int)(x y:α):α:=if g=0 then x else y
def cT(g:Int):Prop:=g=0\/g=1
def mE{g:Int}{x y:V}(h:cT g):cR [x,y] g=some (ak g x y):=by
 rcases h with rfl|rfl<;>rfl
def cT.flip{g:Int}(h:cT g):cT (1-g):=by
 rcases h with rfl|rfl
 ·exact .inr Z
 ·exact .inl Z
def CQ{α:Type}{g:Int}{x y:α}(h:cT g):ak (1-g) x y=ak g y x:=by
 rcases h with rfl|rfl<;>rfl
def lO{α β:Type}(f:α->β)(g:Int)(x y:α):ak g (f x) (f y)=f (ak g x y):=by
 unfold ak;split<;>rfl
def qh(O P:e7)(b:Nat):Bool:=!decide (O.getD b 0∈P)
def ii(O P:e7):List Nat:=(List.range O.length).filter (qh O P)
def Ec{O P:e7}{b:Nat}:b∈ii O P ↔ ∃n,O[b]? = some n/\n∉P:=by
 unfold ii qh;rw[List.mem_filter,WV]
 constructor
 ·rintro⟨h,k⟩;refine⟨O[b],W9 h,?_⟩;rw[Xj,W9 h]at k;simpa using k
 ·rintro⟨n,h,k⟩;refine⟨(WF.mp h).1,?_⟩;rw[Xj,h];simpa using k
theorem EY{f:Nat->Bool}{i:Nat}(h:∀j,j<i->f j=false)(k:f i=true):∀ {n:Nat},i<n->((List.range n).filter f).head? = some i
 | 0,z=>ZR z (by lia)
 | n+1,z=>by
  rw[Xt,List.filter_append,List.head?_append];by_cases c:i<n
  ·rw[EY h k c];rfl
  ·obtain rfl:i=n:=by lia
   have e:(List.range i).filter f=[]:=by
    rw[Zz];intro j hj;rw[h j (WV.mp hj)]
    decide
   rw[e];simp[k]
def Sj{f:Nat->Bool}{n:Nat}(h:∀j,j<n->f j=false):(List.range n).filter f=[]:=by
 rw[Zz];intro j hj;rw[h j (WV.mp hj)]
 decide
def db(O P:e7)(g:Int):e7:=match (ii O P).head? with
 | some b=>[254+(1-g),(b:Int)]
 | none=>[]
def eS(ns:e7):Prop:=(∀n∈ns,Sg n)/\ns.Nodup/\ns.length<=250
def qQ{g:Int}{ns a:e7}(h:eS ns)(k:eS a):eS (ak g ns a):=by
 unfold ak;split
 ·exact h
 ·exact k
structure Fp where
 dx:Addr
 pp:Addr
 pl:Addr
 ps:Addr
 d0:Addr
 d1:Addr
 l0:Addr
 l1:Addr
 s0:Addr
 s1:Addr
def ja(H:Hp)(d:Addr)(ns:e7):Prop:=∃kv,H d=some (.dK kv)/\∀n:Int,bn kv (.inl n)=(b9 ns n).map λi=>V.int (i:Int)
structure Tg (t:Adr) (H:Hp) (a:Addr) (f:Fp) (ns ms:e7):Prop where
 o:H a=some (.ins t.bX f.dx [("places",.ref f.pp),("lists",.ref f.pl),("shifted",.ref f.ps)])
 p:H f.pp=some (.lst [.ref f.d0,.ref f.d1])
 l:H f.pl=some (.lst [.ref f.l0,.ref f.l1])
 s:H f.ps=some (.lst [.ref f.s0,.ref f.s1])
 d0:ja H f.d0 ns
 d1:ja H f.d1 ms
 l0:H f.l0=some (.lst (ns.map V.int))
 l1:H f.l1=some (.lst (ms.map V.int))
 s0:H f.s0=some (.lst ((db ms ns 0).map V.int))
 s1:H f.s1=some (.lst ((db ns ms 1).map V.int))
 k0:eS ns
 k1:eS ms
section
variable {t:Adr}{H H':Hp}{a:Addr}{f:Fp}{ns ms:e7}{g:Int}
def Tg.keep(h:Tg t H a f ns ms)(k:∀c u,c∈[a,f.pp,f.pl,f.ps,f.d0,f.d1,f.l0,f.l1,f.s0,f.s1]->H c=some u->H' c=some u):Tg t H' a f ns ms:=by
 obtain⟨o,p,l,s,⟨e,d0,d⟩,⟨g,d1,b⟩,l0,l1,s0,s1,k0,k1⟩:=h;exact⟨k _ _ (by simp) o,k _ _ (by simp) p,k _ _ (by simp) l,k _ _ (by simp) s,⟨e,k _ _ (by simp) d0,d⟩,⟨g,k _ _ (by simp) d1,b⟩,k _ _ (by simp) l0,k _ _ (by simp) l1,k _ _ (by simp) s0,k _ _ (by simp) s1,k0,k1⟩
def Tg.mono(h:Tg t H a f ns ms)(k:af H H'):Tg t H' a f ns ms:=h.keep λc u _ e=>k c u e
def Tg.dk(h:Tg t H a f ns ms)(b:cT g):ja H (ak g f.d0 f.d1) (ak g ns ms):=by
 rcases b with rfl|rfl
 ·exact h.d0
 ·exact h.d1
def Tg.ll(h:Tg t H a f ns ms)(b:cT g):H (ak g f.l0 f.l1)=some (.lst ((ak g ns ms).map V.int)):=by
 rcases b with rfl|rfl
 ·exact h.l0
 ·exact h.l1
def Tg.ss(h:Tg t H a f ns ms)(b:cT g):H (ak g f.s0 f.s1)=some (.lst ((db (ak g ms ns) (ak g ns ms) g).map V.int)):=by
 rcases b with rfl|rfl
 ·exact h.s0
 ·exact h.s1
def JW(K:PySem.W.Frag):Sp:=λvs H Q _=>∃(a:Addr) (ns:e7) (b:Int),vs=[.ref a,.int b]/\aE K H a (ns.map V.int)/\eS ns/\∀p H',af H H'->H p=none->ja H' p ns->Q (.ref p) H'
def E2 (T:Txt w K mg t):bj P w K mg base "places_in" 4 t.AJ t.yA ["signs", "which"] (JW K):=by
 refine⟨T.Rz,T.Hx.kp,T.Uh,T.Hx.okQ qU (λvs H Q E h=>by obtain⟨a,xs,J,rfl,_⟩:=h;rfl) λ_ _ _ _ H vs Q E I h=>?_⟩;obtain⟨a,ns,J,rfl,D,⟨sg,nd,ln⟩,S⟩:=h;have F:=I.units;refine⟨_,(ai (aI (aA ju (bz (Wu K) T.n_len WN (ad (aa 0) ae)) (bU T.Tq) (aH _)) (aj iw) aK)
  (ai (aL (i:=2) qU.nd rfl (.inl rfl) Dz)
  (ai (cw PassesOwn.never rfl (gZ (K:=K) rfl rfl T.n_enumerate (ad (aa 0) ae)) (gH (K:=K) rfl rfl (cD (aX (i:=3) qU.nd rfl (.inl rfl)) (cD (aX (i:=4) qU.nd rfl (.inl rfl)) gF))) (ai (aI (dU (gY (fZ (eB (aS (kR (K:=K) T) I (ad (aa 4) ae)))) (gX (aA (rV F) (aa 4) (aa 2) (by with_unfolding_all rfl))))) (aj iw) aK)
  (aj (rl F (aa 2) (aa 4) (aa 3)))))
  (aj (am (aa 2)))))),?_⟩
 refine ba (.inl D) ?_;refine ao (λz=>?_) (λ_=>?_)
 ·have z:((ns.map V.int).length:Int) > 250:=ZS z;rw[WA]at z;lia
 refine λe H1 c=>?_;refine aR a _ rfl (c.sm.seq D) (jY (K:=K) (a:=a) (xs:=ns.map V.int) (λi σ r=>af H r/\∃(b:List (aQ × V)) (C s:Option V),r e=some (.dK b)/\b.length<=i/\(∀n:Int,bn b (.inl n)=(b9 (ns.take i) n).map λi=>V.int (i:Int))/\σ=[some (.ref a),some (.int J),some (.ref e),C,s]) ⟨c.sm,[],_,_,c.at_,by simp,(λn=>by simp[bn,b9]),rfl⟩ (λi σ r _ z=>z.1.seq D) ?_ ?_)
 ·rintro i x p σ G H3 hx ⟨v,b,C,s,B,M,d,rfl⟩ u;obtain⟨n,l,rfl⟩:=fK hx;have hi:=(WF.mp l).1;refine⟨p,_,Z,u.tup,Z,_,_,Z,_,_,Z,Z,?_⟩;have R:=v.trans u.sm;have d3:=u.sm _ _ B;have o:dB (.int n)=true:=(jL n).mpr (sg n (W8 l));refine c7 Z (.int n) ?_;refine ao (λy=>?_) (λ_=>?_)
  ·have y:(!dB (.int n))=true:=y;rw[o]at y;cases y
  have f:n∉ns.take i:=λz=>by
   obtain⟨j,hj⟩:=Zx z;have g:j<i:=by
    have:=(WF.mp hj).1;rw[WO]at this;lia
   rw[Yr g]at hj;obtain⟨N,U⟩:=WF.mp hj;obtain⟨W,Y⟩:=WF.mp l;exact ZR (U.trans Y.symm) (XX.mp nd j i N W g)
  have L:bn b (.inl n)=none:=by rw[d,h9.mpr f];rfl
  refine aR e _ Z (c6.k (k:=.inl n) d3) ?_;refine ao (λy=>?_) (λ_=>?_)
  ·have y:(bn b (.inl n)).isSome=true:=y;rw[L]at y;cases y
  refine aR e _ rfl (jc.k (k:=.inl n) d3 (dS (by lia))) ?_;refine⟨R.put c.nw,_,_,_,aF,?_,λm=>?_,Z⟩
  ·rw[MB _ L,WC];simp;lia
  ·rw[iJ,dO l,Pq,WO,Yv (by lia)];by_cases q:m=n
   ·subst q;rw[ZQ rfl,h9.mpr f];simp
   ·rw[ZP (λz=>q (Sum.inl.inj z)),d];have O:¬n=m:=λz=>q z.symm;cases b9 (ns.take i) m with
    | some j=>rfl
    | none=>simp[O]
 ·rintro σ G ⟨v,b,C,s,B,M,d,rfl⟩;rw[WA,WY]at d;exact S e G v c.nw ⟨b,B,d⟩
structure qw (t:Adr) (H:Hp) (a dx pp pl d0 d1 l0 l1:Addr) (ns ms:e7):Prop where
 o:H a=some (.ins t.bX dx [("places",.ref pp),("lists",.ref pl)])
 p:H pp=some (.lst [.ref d0,.ref d1])
 l:H pl=some (.lst [.ref l0,.ref l1])
 d0:ja H d0 ns
 d1:ja H d1 ms
 l0:H l0=some (.lst (ns.map V.int))
 l1:H l1=some (.lst (ms.map V.int))
def ja.mono{H c:Hp}{d:Addr}{ns:e7}(h:ja H d ns)(s:af H c):ja c d ns:=by
 obtain⟨e,a,b⟩:=h;exact⟨e,s _ _ a,b⟩
def qw.mono{H b:Hp}{a dx pp pl d0 d1 l0 l1:Addr}{ns c:e7}(h:qw t H a dx pp pl d0 d1 l0 l1 ns c)(s:af H b):qw t b a dx pp pl d0 d1 l0 l1 ns c :=
 ⟨s _ _ h.o,s _ _ h.p,s _ _ h.l,h.d0.mono s,h.d1.mono s,s _ _ h.l0,s _ _ h.l1⟩
def JS(t:Adr):Sp:=λvs H Q _=>∃(a dx pp pl d0 d1 l0 l1:Addr) (ns b:e7) (g:Int),vs=[.ref a,.int g]/\cT g/\qw t H a dx pp pl d0 d1 l0 l1 ns b/\∀p H',af H H'->H p=none->H' p=some (.lst ((db (ak g b ns) (ak g ns b) g).map V.int))->Q (.ref p) H'
def Fn (T:Txt w K mg t):bB P w K mg base t.bX "row_beyond" 1 t.Bf t.yZ ["self", "page"] (JS t):=by
 refine⟨T.dq,T.nQ,T.UN,T.VG.okQ uW (λvs H Q E h=>by obtain⟨a,dx,pp,pl,d0,d1,l0,l1,ns,n,g,rfl,_⟩:=h;rfl) λ_ _ _ _ H vs Q E Y h=>?_⟩;obtain⟨a,dx,pp,pl,d0,d1,l0,l1,ns,n,g,rfl,m,b,k⟩:=h;have L:=Y.units;refine⟨_,(ai (cw PassesOwn.never rfl (gZ (K:=K) rfl rfl T.n_enumerate (ad (au (Wv K) (aJ (K:=K) rfl (aa 0)) (az cX ah (aa 1)) (λ_ _=>rfl)) ae)) (gH (K:=K) rfl rfl (cD (aX (i:=2) uW.nd rfl (.inl rfl)) (cD (aX (i:=3) uW.nd rfl (.inl rfl)) gF))) (aj (aI (aA (FH L) (aa 3) (au (Wv K) (aJ (K:=K) rfl (aa 0)) (aa 1) (λ_ _=>rfl)) (by with_unfolding_all rfl)) (aj (am (aT (ad (au (Wv K) (iP (v:=.ref t.qi) rfl T.Ac rfl) (az cX ah (aa 1)) (λ_ _=>rfl)) (ad (aa 2) ae))))) aK)))
  (aj (am (aT ae)))),?_⟩
 have J:H (ak (1-g) l0 l1)=some (.lst ((ak g n ns).map V.int)):=by
  rcases m with rfl|rfl
  ·exact b.l1
  ·exact b.l0
 have R:ja H (ak g d0 d1) (ak g ns n):=by
  rcases m with rfl|rfl
  ·exact b.d0
  ·exact b.d1
 obtain⟨B,D,s⟩:=R;have sh:cR (([254,255]:e7).map V.int) (1-g)=some (.int (254+(1-g))):=by
  rcases m with rfl|rfl<;>rfl
 generalize hO:ak g n ns=O at *;generalize hP:ak g ns n=P' at *;refine bu a _ dx _ _ Z b.o T.dq T.jS Z ?_;refine aR _ (.ref (ak (1-g) l0 l1)) (.inl (.of b.l)) (by rw[mE m.flip];exact congrArg some (lO V.ref _ _ _)) ?_;refine⟨ak (1-g) l0 l1,_,rfl,.of J,jY (K:=K) (a:=ak (1-g) l0 l1) (xs:=O.map V.int) (λi σ F=>af H F/\(∀j,j<i->qh O P' j=false)/\∃u C,σ=[some (.ref a),some (.int g),u,C]) ⟨af.refl _,(λj h=>ZR h (by lia)),_,_,rfl⟩ (λi σ F _ z=>z.1.seq (.of J)) ?_ ?_⟩
 ·rintro i x p σ W H3 hx ⟨r,hj,u,C,rfl⟩ I;obtain⟨q,hq,rfl⟩:=fK hx;have M:=(WF.mp hq).1;refine⟨p,_,Z,I.tup,Z,_,_,Z,_,_,Z,Z,?_⟩;have f:=r.trans I.sm;refine bu a _ dx _ _ Z (f _ _ b.o) T.dq T.iA Z ?_;refine aR _ (.ref (ak g d0 d1)) (.inl (.of (f _ _ b.p))) (by rw[mE m];exact congrArg some (lO V.ref _ _ _)) ?_;refine⟨ak g d0 d1,_,Z,c6.k (k:=.inl q) (f _ _ D),?_⟩;have eq:(bn B (.inl q)).isSome=decide (q∈P'):=by
   rw[s];cases e:b9 P' q with
   | none=>have:=h9.mp e;simp[this]
   | some j =>
    have:q∈P':=Decidable.byContradiction λz=>by rw[h9.mpr z]at e;cases e
    simp[this]
  have G:qh O P' i = !decide (q∈P'):=by
   unfold qh;rw[Xj,hq];rfl
  refine ao (λy=>?_) (λy=>?_)
  ·have y:(!(bn B (.inl q)).isSome)=true:=y;rw[eq,<- G]at y;refine aR _ (.int (254+(1-g))) (.inr (T.w9 _)) sh ?_;refine⟨sz Z,λS U d=>?_⟩;refine k _ _ (f.trans d.sm) (f.free d.nw) ?_;have e:db O P' g=[254+(1-g),(i:Int)]:=by
    unfold db ii;rw[EY hj y M]
   rw[e];exact d.at_
  ·have y:¬(!(bn B (.inl q)).isSome)=true:=y;rw[eq,<- G]at y;refine⟨f,λj N=>?_,_,_,Z⟩;by_cases c:j<i
   ·exact hj j c
   ·obtain rfl:j=i:=by lia
    simpa using y
 ·rintro σ W ⟨r,hj,u,C,rfl⟩;rw[WA]at hj;refine⟨sz Z,λS U d=>k _ _ (r.trans d.sm) (r.free d.nw) ?_⟩;have e:db O P' g=[]:=by
   unfold db ii;rw[Sj hj]
   rfl
  rw[e];exact d.at_
def Kp.seq{a f:Addr}{H b:Hp}{xs:List V}(k:Kp a H b)(n:f≠a)(h:aE K H f xs):aE K b f xs:=by
 rcases h with h|h
 ·rcases h with h|⟨o,h⟩
  ·exact .inl (.inl (k _ _ n h))
  ·exact .inl (.inr ⟨o,k _ _ n h⟩)
 ·exact .inr h
def CA(K:PySem.W.Frag)(t:Adr):Sp:=λvs H Q _=>∃(a dx f g:Addr) (ns b:e7),vs=[.ref a,.ref f,.ref g]/\H a=some (.ins t.bX dx [])/\aE K H f (ns.map V.int)/\aE K H g (b.map V.int)/\eS ns/\eS b/\f≠a/\g≠a /\
 ∀fp H',Kp a H H'->Tg t H' a fp ns b->(∀c∈[fp.pp,fp.pl,fp.ps,fp.d0,fp.d1,fp.l0,fp.l1,fp.s0,fp.s1],c≠a/\H c=none)->Q .non H'
def Oa (T:Txt w K mg t):bo P w K mg base bK 5 t.tK t.sH ["self", "first", "second"] (CA K t):=by
 refine T.VH.okQ K8 (λvs H Q E h=>by obtain⟨a,dx,f,g,ns,ms,rfl,_⟩:=h;rfl) λ_ _ _ _ H vs Q E hr h=>?_;obtain⟨a,dx,f,g,ns,ms,rfl,ha,hf,hg,a0,Y,nf,ng,kq⟩:=h;have hu:=hr.units;refine⟨_,(ai (c8 (K:=K) Z (aa 0) (aT (ad (aS (E2 (K:=K) T) hr (ad (aa 1) (ad ah ae))) (ad (aS (E2 (K:=K) T) hr (ad (aa 2) (ad ah ae))) ae))))
  (ai (c8 (K:=K) rfl (aa 0) (aT (ad (dI (Wx K) T.n_list Xa (ad (aa 1) ae)) (ad (dI (Wx K) T.n_list Xa (ad (aa 2) ae)) ae))))
  (aj (c8 (K:=K) rfl (aa 0) (aT (ad (cN (Fn (K:=K) T) hr (aa 0) (ad ah ae)) (ad (cN (Fn (K:=K) T) hr (aa 0) (ad ah ae)) ae))))))),?_⟩
 refine bI f ns 0 Z hf a0 (λd0 H1 s1 W al=>?_);refine bI g ms 1 Z (s1.seq hg) Y (λd1 H2 s2 a3 av=>?_);refine⟨sz Z,λpp H3 N=>?_⟩;have s3:=s1.trans (s2.trans N.sm);refine cL a _ dx _ rfl (s3 _ _ ha) T.dq T.iA (WE YB (by decide)) ?_;obtain⟨H4,e4⟩:∃H4,H4=upd H3 a (HO.ins t.bX dx (cy "places" (.ref pp) [])):=⟨_,rfl⟩;have a4:H4 a=some (.ins t.bX dx [("places",.ref pp)]):=by rw[e4,aF];rfl
 have k4:Kp a H3 H4:=by rw[e4];exact Kp.upd
 rw[<- e4];clear e4;have d:Kp a H H4:=(Kp.of s3).trans k4;refine ba (.inl (d.seq nf hf)) (λl0 H5 i=>?_);refine ba (.inl ((d.trans (Kp.of i.sm)).seq ng hg)) (λl1 H6 L=>?_);refine⟨sz Z,λpl H7 O=>?_⟩;have V:=i.sm.trans (L.sm.trans O.sm);refine cL a _ dx _ rfl (V _ _ a4) T.dq T.jS (WE (WW 1) (by decide)) ?_;obtain⟨s,e8⟩:∃s,s=upd H7 a (HO.ins t.bX dx (cy "lists" (.ref pl) [("places",.ref pp)])):=⟨_,rfl⟩;have C:s a=some (.ins t.bX dx [("places",.ref pp),("lists",.ref pl)]):=by rw[e8,aF];rfl
 have k8:Kp a H7 s:=by rw[e8];exact Kp.upd
 rw[<- e8];clear e8;have z:d0≠a:=(aB ha W).symm;have v:d1≠a:=(aB (s1 _ _ ha) a3).symm;have I:pp≠a:=(aB (s2 _ _ (s1 _ _ ha)) N.nw).symm;have o:l0≠a:=(aB a4 i.nw).symm;have q:l1≠a:=(aB (i.sm _ _ a4) L.nw).symm;have r:pl≠a:=(aB (L.sm _ _ (i.sm _ _ a4)) O.nw).symm;have j:Kp a H3 s:=k4.trans ((Kp.of V).trans k8);have m:Kp a H s:=(Kp.of s3).trans j;obtain⟨ag,q0,e0⟩:=al;obtain⟨am,q1,e1⟩:=av;have b:qw t s a dx pp pl d0 d1 l0 l1 ns ms:=⟨C,j _ _ I N.at_,k8 _ _ r O.at_,⟨ag,j _ _ z (N.sm _ _ (s2 _ _ q0)),e0⟩,⟨am,j _ _ v (N.sm _ _ q1),e1⟩,k8 _ _ o (O.sm _ _ (L.sm _ _ i.at_)),k8 _ _ q (O.sm _ _ L.at_)⟩;refine bI a dx _ Z C Z ?_;refine⟨a,dx,pp,pl,d0,d1,l0,l1,ns,ms,0,Z,.inl Z,b,λz0 H9 B U ao=>?_⟩;refine bI a dx _ Z (B _ _ C) Z ?_;refine⟨a,dx,pp,pl,d0,d1,l0,l1,ns,ms,1,Z,.inr Z,b.mono B,λz1 HA sA S au=>?_⟩;refine⟨sz Z,λps HB gB=>?_⟩;have D:=B.trans (sA.trans gB.sm);refine cL a _ dx _ rfl (D _ _ C) T.dq T.jR (WE (WW 2) (by decide)) ?_;obtain⟨M,eC⟩:∃M,M=upd HB a (HO.ins t.bX dx (cy "shifted" (.ref ps) [("places",.ref pp),("lists",.ref pl)])):=⟨_,rfl⟩;have aC:M a=some (.ins t.bX dx [("places",.ref pp),("lists",.ref pl),("shifted",.ref ps)]):=by rw[eC,aF];rfl
 have kC:Kp a HB M:=by rw[eC];exact Kp.upd
 rw[<- eC];clear eC;have J:z0≠a:=(aB C U).symm;have F:z1≠a:=(aB (B _ _ C) S).symm;have G:ps≠a:=(aB (sA _ _ (B _ _ C)) gB.nw).symm;have aq:Kp a s M:=(Kp.of D).trans kC;have hB:=b.mono D;have R:∀ {c:Addr} {H':Hp},Kp a H H'->c≠a->H' c=none->H c=none:=λ{c H'} k n e=>by
  cases h:H c with
  | none=>rfl
  | some u=>rw[k c u n h]at e;cases e
 refine kq ⟨dx,pp,pl,ps,d0,d1,l0,l1,z0,z1⟩ M (m.trans aq) ⟨aC,kC _ _ I hB.p,kC _ _ r hB.l,kC _ _ G gB.at_,?_,?_,kC _ _ o hB.l0,kC _ _ q hB.l1,kC _ _ J (gB.sm _ _ (sA _ _ ao)),kC _ _ F (gB.sm _ _ au),a0,Y⟩ ?_
 ·obtain⟨kv,x,y⟩:=hB.d0;exact⟨kv,kC _ _ z x,y⟩
 ·obtain⟨kv,x,y⟩:=hB.d1;exact⟨kv,kC _ _ v x,y⟩
 ·intro c hc;simp only [WU,Yk,or_false]at hc;rcases hc with rfl|rfl|rfl|rfl|rfl|rfl|rfl|rfl|rfl
  ·exact⟨I,s1.free (s2.free N.nw)⟩
  ·exact⟨r,R (d.trans (Kp.of (i.sm.trans L.sm))) r O.nw⟩
  ·exact⟨G,R (m.trans (Kp.of (B.trans sA))) G gB.nw⟩
  ·exact⟨z,W⟩
  ·exact⟨v,s1.free a3⟩
  ·exact⟨o,R d o i.nw⟩
  ·exact⟨q,R (d.trans (Kp.of i.sm)) q L.nw⟩
  ·exact⟨J,R m J U⟩
  ·exact⟨F,R (m.trans (Kp.of B)) F S⟩
def Pt (T:Txt w K mg t):jD P w K mg base "ShiftTongue" t.bX 5 t.tK t.sH ["self", "first", "second"] [] (CA K t):=⟨T.QU,T.oM,⟨[],T.UO,.nil⟩,Oa T⟩
def GG(O P:e7)(g:Int):db O P g=[]\/∃b:Nat,(ii O P).head? = some b/\db O P g=[254+(1-g),(b:Int)]:=by
 unfold db;cases e:(ii O P).head? with
 | none=>exact .inl rfl
 | some b=>exact .inr ⟨b,rfl,rfl⟩
def Tx(O P:e7)(g:Int):db O P g=[] ↔ ii O P=[]:=by
 unfold db;cases e:ii O P with
 | nil=>simp
 | cons b r=>simp
def em(P O:e7)(g:Int)(x:V):Option (e7 × Int):=match x with
 | .int n=>match b9 P n with
  | some i=>some ([(i:Int)],g)
  | none=>match b9 O n with
   | some i=>some ([254+(1-g),(i:Int)],1-g)
   | none=>none
 | _=>none
def Js{P O:e7}{g:Int}{x:V}(hP:eS P)(hO:eS O)(h:dB x=false):em P O g x=none:=by
 cases x with
 | int n =>
  have a:¬Sg n:=λz=>by rw[(jL n).mpr z]at h;cases h
  unfold em;dsimp only;rw[h9.mpr λz=>a (hP.1 n z)];dsimp only;rw[h9.mpr λz=>a (hO.1 n z)]
 | _=>rfl
def Ky{v:V}(h:dB v=true):∃n,v=.int n/\Sg n:=by
 cases v with
 | int n=>exact⟨n,rfl,(jL n).mp h⟩
 | _=>simp[dB,dE]at h
def NJ:Option Int->V
 | some n=>.int n
 | none=>.non
def Vl{L:e7}{b n:Int}(a:0<=b)(h:L[b.toNat]? = some n):cR (L.map V.int) b=some (.int n):=by
 obtain⟨k,rfl⟩:∃k:Nat,b=(k:Int):=⟨b.toNat,by lia⟩;exact aD (by rw[WJ];simp at h;rw[h];rfl)
def JH(t:Adr):Sp:=λvs H Q _=>∃(a:Addr) (f:Fp) (ns c:e7) (b g:Int),vs=[.ref a,.int b,.int g]/\cT g/\Tg t H a f ns c/\0<=b/\Q (NJ (ak g ns c)[b.toNat]?) H
def Fm (T:Txt w K mg t):bB P w K mg base t.bX "sign_of" 1 t.Be t.yY ["self", "byte", "page"] (JH t):=by
 refine⟨T.dq,T.nO,T.UM,T.VF.okQ K7 (λvs H Q E h=>by obtain⟨a,f,ns,d,b,g,rfl,_⟩:=h;rfl) λ_ _ _ _ H vs Q E m h=>?_⟩;obtain⟨a,f,ns,d,b,g,rfl,two,c,j,k⟩:=h;refine⟨_,(aj (am (iO (aA fi (aa 1) (bz (Wu K) T.n_len WN (ad (au (Wv K) (aJ (K:=K) Z (aa 0)) (aa 2) (λ_ _=>rfl)) ae)) (aH _)) (au (Wv K) (au (Wv K) (aJ (K:=K) Z (aa 0)) (aa 2) (λ_ _=>rfl)) (aa 1) (λ_ _=>rfl)) bY))),?_⟩;have el:cR [V.ref f.l0,V.ref f.l1] g=some (.ref (ak g f.l0 f.l1)):=by rw[mE two];exact congrArg some (lO V.ref _ _ _)
 have i:=c.ll two;refine bu a _ f.dx _ _ Z c.o T.dq T.jS Z ?_;refine aN (.inl (.of c.l)) el ?_;refine ba (.inl (.of i)) ?_;refine ao (λz=>?_) (λz=>?_)
 ·have z:b<(((ak g ns d).map V.int).length:Int):=ZS z;rw[WA]at z;refine bu a _ f.dx _ _ Z c.o T.dq T.jS Z ?_;refine aN (.inl (.of c.l)) el ?_;obtain⟨n,e⟩:∃n,(ak g ns d)[b.toNat]? = some n:=⟨_,W9 (by lia)⟩;rw[e]at k;exact⟨_,.int n,.inl (.of i),Vl j e,k⟩
 ·have z:¬b<(((ak g ns d).map V.int).length:Int):=λy=>z (ZT y);rw[WA]at z;rw[XD (by lia)]at k;exact k
def ue(g:Int)(row:e7):Prop:=(∃b,row=[b]/\0<=b)\/∃c,row=[254+(1-g),c]/\0<=c
def d8(P O:e7)(g:Int)(row:e7):Option (Int × Int):=match row with
 | [b]=>P[b.toNat]?.map λn=>(n,g)
 | [_,c]=>match O[c.toNat]? with
  | some n=>if n∈P then none else some (n,1-g)
  | none=>none
 | _=>none
def Cn(t:Adr):Sp:=λvs H Q _=>∃(a:Addr) (f:Fp) (ns b:e7) (q:Addr) (row:e7) (g:Int),vs=[.ref a,.ref q,.int g]/\cT g/\Tg t H a f ns b/\H q=some (.lst (row.map V.int))/\ue g row /\
 (d8 (ak g ns b) (ak g b ns) g row=none->Q .non H)/\(∀n g',d8 (ak g ns b) (ak g b ns) g row=some (n,g')->∀p H',bc H p (.tup [.int n,.int g']) H'->Q (.ref p) H')
def N3 (T:Txt w K mg t):bo P w K mg base bK 2 t.tI t.sE ["self", "row", "page"] (Cn t):=by
 refine T.VD.okQ uV (λvs H Q E h=>by obtain⟨o,f,ns,r,q,row,g,rfl,_⟩:=h;rfl) λ_ _ _ _ H vs Q E D h=>?_;obtain⟨a,f,ns,r,q,row,g,rfl,two,m,hq,ok,d,l⟩:=h;have u:=D.units;refine⟨_,(ai (aI (aA (bG (K:=K) Z u) (bz (Wu K) T.n_len WN (ad (aa 1) ae)) ah (aH _)) (ai (aL (i:=3) uV.nd Z (.inl Z) (cN (Fm (K:=K) T) D (aa 0) (ad (au (Wv K) (aa 1) ah (λ_ _=>rfl)) (ad (aa 2) ae))))
  (aj (am (iO (aA jW (aa 3) bY (aH _)) bY (bF (ad (aa 3) (ad (aa 2) ae))))))) aK)
  (ai (aI (dU (ku (aA (bG (K:=K) rfl u) (bz (Wu K) T.n_len WN (ad (aa 1) ae)) ah (aH _)) (lS (aA (bG (K:=K) rfl u) (au (Wv K) (aa 1) ah (λ_ _=>rfl)) (au (Wv K) (iP (v:=.ref t.qi) rfl T.Ac rfl) (az cX ah (aa 2)) (λ_ _=>rfl)) (aH _))))) (ai (aL (i:=3) uV.nd rfl (.inl rfl) (cN (Fm (K:=K) T) D (aa 0) (ad (au (Wv K) (aa 1) ah (λ_ _=>rfl)) (ad (az cX ah (aa 2)) ae))))
  (aj (am (iO (dU (gY (aA jW (aa 3) bY (aH _)) (gX (aA (rV u) (aa 3) (au (Wv K) (aJ (K:=K) rfl (aa 0)) (aa 2) (λ_ _=>rfl)) (by with_unfolding_all rfl))))) bY (bF (ad (aa 3) (ad (az cX ah (aa 2)) ae))))))) aK)
  (aj (am bY)))),?_⟩
 refine ba (.inl (.of hq)) ?_;rcases ok with ⟨b,rfl,b0⟩|⟨c,rfl,c0⟩
 ·refine bI a f.dx _ Z m.o Z ?_;refine aN (.inl (.of hq)) (aD (j:=0) Z) ?_;refine⟨a,f,ns,r,b,g,Z,two,m,b0,?_⟩;unfold d8 at d l;dsimp only at d l;cases e:(ak g ns r)[b.toNat]? with
  | none=>exact d (by rw[e];rfl)
  | some n=>exact⟨sz rfl,λp C g'=>l n g (by rw[e];rfl) p C g'⟩
 ·have sh:cR (([254,255]:e7).map V.int) (1-g)=some (.int (254+(1-g))):=by
   rcases two with rfl|rfl<;>rfl
  refine ba (.inl (.of hq)) ?_;refine aN (.inl (.of hq)) (aD (j:=0) Z) ?_;refine aN (.inr (T.w9 _)) sh ?_;refine ao (λ_=>?_) (λz=>ZR (show decide (254+(1-g)=254+(1-g))=true by simp) z);refine bI a f.dx _ Z m.o Z ?_;refine aN (.inl (.of hq)) (aD (j:=1) Z) ?_;refine⟨a,f,ns,r,c,1-g,Z,two.flip,m,c0,?_⟩;rw[CQ two];unfold d8 at d l;dsimp only at d l;cases e:(ak g r ns)[c.toNat]? with
  | none =>
   rw[e]at d;exact d Z
  | some n =>
   rw[e]at d l;dsimp only at d l;obtain⟨x,B,s⟩:=m.dk two;refine bu a _ f.dx _ _ Z m.o T.dq T.iA Z ?_;refine aR _ (.ref (ak g f.d0 f.d1)) (.inl (.of m.p)) (by rw[mE two];exact congrArg some (lO V.ref _ _ _)) ?_;refine aN Z (c6.k (k:=.inl n) B) ?_;by_cases hn:n∈ak g ns r
   ·rw[ZQ hn]at d;obtain⟨i,F,_⟩:=md hn;have y:bn x (.inl n)=some (.int (i:Int)):=by rw[s,F];rfl
    refine ao (λ_=>?_) (λz=>ZR (show (bn x (.inl n)).isSome=true by rw[y];rfl) z);exact d Z
   ·rw[ZP hn]at l;have y:bn x (.inl n)=none:=by rw[s,h9.mpr hn];rfl
    refine ao (λz=>ZR (show (bn x (.inl n)).isSome=true from z) (by rw[y];decide)) (λ_=>?_);exact⟨sz Z,λp C g'=>l n (1-g) Z p C g'⟩
def Fj (T:Txt w K mg t):eV P w K mg base t.bX "whole" 2 t.tI t.sE ["self", "row", "page"] [] (Cn t) :=
 ⟨T.dq,T.nM,⟨_,T.UK,.nil⟩,N3 T⟩
def de(one other:e7):Bool:=decide (other.take one.length=one)
def Ko(K:PySem.W.Frag):Sp:=λvs H Q _=>∃(a b:Addr) (x y:e7),vs=[.ref a,.ref b]/\aE K H a (x.map V.int)/\aE K H b (y.map V.int)/\∀H',af H H'->Q (.bl (de x y)) H'
def zy(ns:e7)(k:Nat):cY (ns.map V.int) none (some (k:Int))=(ns.take k).map V.int:=by rw[ib,zA]
def xL (T:Txt w K mg t):bj P w K mg base "begins" 1 t.Bc t.yV ["one", "other"] (Ko K):=by
 refine⟨T.R7,T.Id.kp,T.UE,T.Id.okQ K3 (λvs H Q E h=>by obtain⟨a,b,x,y,rfl,_⟩:=h;rfl) λ_ _ _ _ H vs Q E g h=>?_⟩;obtain⟨a,b,x,y,rfl,d,hb,k⟩:=h;have f:=g.units;refine⟨_,(aj (am (kx (bG (K:=K) Z f) (dw (Ww K) (aa 1) gf (ci (bz (Wu K) T.n_len WN (ad (aa 0) ae)))) (aa 0) (aH _)))),?_⟩;refine⟨_,.inl d,_,Z,_,hb,λi e c=>?_⟩;rw[WA,zy]at c;exact Sw c.lst (c.sm.seq d) (k e c.sm)
def gN(P O:e7)(g:Int)(row:e7):Bool:=(d8 P O g row).isSome || (!(db O P g).isEmpty && de row (db O P g))
def CD(t:Adr):Sp:=λvs H Q _=>∃(a:Addr) (f:Fp) (ns b:e7) (q:Addr) (row:e7) (g:Int),vs=[.ref a,.ref q,.int g]/\cT g/\Tg t H a f ns b/\H q=some (.lst (row.map V.int))/\ue g row /\
 (gN (ak g ns b) (ak g b ns) g row=false->∀H',af H H'->Q .non H')/\(gN (ak g ns b) (ak g b ns) g row=true->∀p (c:e7) H',af H H'->H' p=some (.lst (c.map V.int))->(d8 (ak g ns b) (ak g b ns) g row=none->c=(db (ak g b ns) (ak g ns b) g).drop row.length)->Q (.ref p) H')
def Oe (T:Txt w K mg t):bo P w K mg base bK 3 t.tL t.sI ["self", "row", "page"] (CD t):=by
 refine T.VI.okQ K9 (λvs H Q E h=>by obtain⟨o,f,ns,d,q,row,g,rfl,_⟩:=h;rfl) λ_ _ _ _ H vs Q E v h=>?_;obtain⟨a,f,ns,d,q,row,g,rfl,two,i,hq,ok,j,k⟩:=h;have D:=v.units;refine⟨_,(ai (aI (aA pq (cE (Fj (K:=K) T) v (aa 0) (ad (aa 1) (ad (aa 2) ae))) bY (aH _)) (aj (am (aT ae))) aK)
  (ai (aI (dU (ku (fZ (gK (K:=K) rfl (aa 1))) (lS (gK (K:=K) rfl (au (Wv K) (aJ (K:=K) rfl (aa 0)) (aa 2) (λ_ _=>rfl)))))) (aj (am (aT (ad ah ae)))) aK)
  (ai (aI (dU (ku (gK (K:=K) rfl (au (Wv K) (aJ (K:=K) rfl (aa 0)) (aa 2) (λ_ _=>rfl))) (lS (eB (aS (xL (K:=K) T) v (ad (aa 1) (ad (au (Wv K) (aJ (K:=K) rfl (aa 0)) (aa 2) (λ_ _=>rfl)) ae))))))) (aj (am (dw (Ww K) (au (Wv K) (aJ (K:=K) rfl (aa 0)) (aa 2) (λ_ _=>rfl)) (ci (bz (Wu K) T.n_len WN (ad (aa 1) ae))) gf))) aK)
  (aj (am bY))))),?_⟩
 refine bI a f.dx _ Z i.o Z ?_;refine⟨a,f,ns,d,q,row,g,Z,two,i,hq,ok,λhw=>?_,λn g' hw p B C=>?_⟩
 ·have u:row≠[]:=by
   rcases ok with ⟨b,rfl,_⟩|⟨c,rfl,_⟩<;>simp
  have rt:(!(row.map V.int).isEmpty)=true:=by
   cases row with
   | nil=>exact ZR rfl u
   | cons _ _=>rfl
  refine ba (.inl (.of hq)) ?_;refine ao (λz=>ZR (show (!(!(row.map V.int).isEmpty))=true from z) (by rw[rt];decide)) (λ_=>?_);have es:cR [V.ref f.s0,V.ref f.s1] g=some (.ref (ak g f.s0 f.s1)):=by rw[mE two];exact congrArg some (lO V.ref _ _ _)
  have hs:=i.ss two;refine bu a _ f.dx _ _ Z i.o T.dq T.jR Z ?_;refine aN (.inl (.of i.s)) es ?_;refine ba (.inl (.of hs)) ?_;unfold gN at j k;rw[hw]at j k;refine ao (λz=>?_) (λz=>?_)
  ·have z:(!((db (ak g d ns) (ak g ns d) g).map V.int).isEmpty)=true:=z;rw[List.isEmpty_map]at z;rw[z]at j k;refine bu a _ f.dx _ _ Z i.o T.dq T.jR Z ?_;refine aN (.inl (.of i.s)) es ?_;refine⟨q,ak g f.s0 f.s1,row,_,Z,.of hq,.of hs,λB s1=>?_⟩;refine ao (λy=>?_) (λy=>?_)
   ·have y:de row (db (ak g d ns) (ak g ns d) g)=true:=y;rw[y]at k;have m:=i.mono s1;refine bu a _ f.dx _ _ Z m.o T.dq T.jR Z ?_;refine aN (.inl (.of m.s)) es ?_;refine⟨_,.inl (.of (s1 _ _ hq)),_,Z,_,.of (s1 _ _ hs),λx r l=>?_⟩;rw[WA,ib,qa]at l;exact k Z x _ r (s1.trans l.sm) l.at_ (λ_=>rfl)
   ·have y:de row (db (ak g d ns) (ak g ns d) g)=false:=by
     cases e:de row (db (ak g d ns) (ak g ns d) g) with
     | false=>rfl
     | true=>exact ZR e y
    rw[y]at j;exact j Z B s1
  ·have z:(!((db (ak g d ns) (ak g ns d) g).map V.int).isEmpty)=false:=by
    cases e:(!((db (ak g d ns) (ak g ns d) g).map V.int).isEmpty) with
    | false=>rfl
    | true=>exact ZR e z
   rw[List.isEmpty_map]at z;rw[z]at j;exact j Z H (af.refl _)
 ·refine⟨sz Z,λx r l=>?_⟩;exact k (by unfold gN;rw[hw];rfl) x [] r (C.sm.trans l.sm) l.at_ (λh=>by rw[hw]at h;cases h)
def Fo (T:Txt w K mg t):eV P w K mg base t.bX "fill" 3 t.tL t.sI ["self", "row", "page"] [] (CD t) :=
 ⟨T.dq,T.nR,⟨_,T.UP,.nil⟩,Oe T⟩
def kL(P O:e7)(g:Int)(row:e7):List V:=match d8 P O g row with
 | some (n,g')=>[.str "sign",.int n,.int g']
 | none=>if gN P O g row=true then [.str "more",.non,.int g] else [.str "none",.non,.int g]
def i4(P O:e7):e7:=(ii P O).map λb:Nat=>(b:Int)
def Ea{O P:e7}{c:Int}(a:0<=c):c∈i4 O P ↔ ∃n,O[c.toNat]? = some n/\n∉P:=by
 unfold i4;rw[Xs]
 constructor
 ·rintro⟨b,hb,rfl⟩;simpa using Ec.mp hb
 ·rintro h;exact⟨c.toNat,Ec.mpr h,by lia⟩
def GQ{O P:e7}:i4 O P=[] ↔ ii O P=[]:=by unfold i4;simp
theorem OP{P O:e7}{g b:Int}(f:0<=b):kL P O g [b]=match P[b.toNat]? with
 | some n=>[.str "sign",.int n,.int g]
 | none=>if b=254+(1-g)/\i4 O P≠[] then [.str "more",.non,.int g] else [.str "none",.non,.int g]:=by
 have hw:d8 P O g [b]=P[b.toNat]?.map λn=>(n,g):=rfl;unfold kL;rw[hw];cases e:P[b.toNat]? with
 | some n=>rfl
 | none =>
  have d:d8 P O g [b]=none:=by rw[hw,e];rfl
  dsimp only [Option.map];unfold gN;rw[d];rcases GG O P g with hb|⟨i,hi,hb⟩
  ·have a:=GQ.mpr ((Tx O P g).mp hb);rw[hb,a];simp
  ·have a:i4 O P≠[]:=λz=>by
    rw[GQ.mp z]at hi;cases hi
   rw[hb];unfold de;by_cases c:b=254+(1-g)
   ·simp[c,a]
   ·have c':¬254+(1-g)=b:=λz=>c z.symm;simp[c,c']
def OO {P O:e7} {g c:Int} (a:0<=c):kL P O g [254+(1-g),c]=if c∈i4 O P then [.str "sign",.int (O.getD c.toNat 0),.int (1-g)] else [.str "none",.non,.int g]:=by
 by_cases h:c∈i4 O P
 ·rw[ZQ h];obtain⟨n,b,d⟩:=(Ea a).mp h;unfold kL d8;simp[b,d,Xj]
 ·rw[ZP h];have hw:d8 P O g [254+(1-g),c]=none:=by
   unfold d8;dsimp only;cases e:O[c.toNat]? with
   | none=>rfl
   | some n =>
    dsimp only;rw[ZQ];exact Decidable.byContradiction λz=>h ((Ea a).mpr ⟨n,e,z⟩)
  have f:gN P O g [254+(1-g),c]=false:=by
   unfold gN;rw[hw];rcases GG O P g with hb|⟨i,hi,hb⟩
   ·rw[hb];rfl
   ·rw[hb];unfold de;have:¬(i:Int)=c:=λz=>h (by
     unfold i4;exact Xs.mpr ⟨i,List.mem_of_mem_head? hi,z⟩)
    simp[this]
  unfold kL;rw[hw,f]
  rfl
structure lG (H:Hp) (p:Addr) (s:Int) (r:e7):Prop where
 h:∃q,H p=some (.tup [.int s,.ref q])/\H q=some (.lst (r.map V.int))
 l:1<=r.length/\r.length<=6
def lG.mono{H c:Hp}{p:Addr}{s:Int}{r:e7}(h:lG H p s r)(k:af H c):lG c p s r:=by
 obtain⟨⟨q,a,b⟩,l⟩:=h
 exact⟨⟨q,k _ _ a,k _ _ b⟩,l⟩
def gP(e f:Int × e7):Bool:=decide (e.1=f.1) || de e.2 f.2 || de f.2 e.2
def Kj:Sp:=λvs H Q _=>∃(a b:Addr) (e f:Int × e7),vs=[.ref a,.ref b]/\lG H a e.1 e.2/\lG H b f.1 f.2/\∀H',af H H'->Q (.bl (gP e f)) H'
def Qm (T:Txt w K mg t):bj P w K mg base "collide" 2 t.A7 t.yQ ["one", "other"] Kj:=by
 refine⟨T.RX,T.HY.kp,T.Uz,T.HY.okQ KY (λvs H Q E h=>by obtain⟨a,b,x,y,rfl,_⟩:=h;rfl) λ_ _ _ _ H vs Q E l h=>?_⟩;obtain⟨a,b,⟨s1,c⟩,⟨g,d⟩,rfl,⟨⟨m,i,e⟩,_⟩,⟨⟨n,hb,f⟩,_⟩,k⟩:=h;dsimp only at i e hb f;have q:=l.units;refine⟨_,(aj (am (rk (kx (bG (K:=K) Z q) (au (Wv K) (aa 0) ah (λ_ _=>rfl)) (au (Wv K) (aa 1) ah (λ_ _=>rfl)) (aH _)) (rk (aS (xL (K:=K) T) l (ad (au (Wv K) (aa 0) ah (λ_ _=>rfl)) (ad (au (Wv K) (aa 1) ah (λ_ _=>rfl)) ae))) (jO (aS (xL (K:=K) T) l (ad (au (Wv K) (aa 1) ah (λ_ _=>rfl)) (ad (au (Wv K) (aa 0) ah (λ_ _=>rfl)) ae)))))))),?_⟩;refine aN (.inr (.of i)) (aD (j:=0) Z) ?_;refine aN (.inr (.of hb)) (aD (j:=0) Z) ?_;refine ao (λz=>?_) (λz=>?_)
 ·refine cA (k H (af.refl _)) ?_;have z:decide (s1=g)=true:=z;show (decide (s1=g) || de c d || de d c)=true;rw[z];rfl
 have z:¬decide (s1=g)=true:=z;refine aN (.inr (.of i)) (aD (j:=1) Z) ?_;refine aN (.inr (.of hb)) (aD (j:=1) Z) ?_;refine⟨m,n,c,d,Z,.of e,.of f,λo k1=>?_⟩;refine ao (λy=>?_) (λy=>?_)
 ·refine cA (k o k1) ?_;have y:de c d=true:=y;show (decide (s1=g) || de c d || de d c)=true;rw[y];simp
 have y:¬de c d=true:=y;refine aN (.inr (.of (k1 _ _ hb))) (aD (j:=1) Z) ?_;refine aN (.inr (.of (k1 _ _ i))) (aD (j:=1) Z) ?_;refine⟨n,m,d,c,Z,.of (k1 _ _ f),.of (k1 _ _ e),λp k2=>?_⟩;refine cA (k p (k1.trans k2)) ?_;show (decide (s1=g) || de c d || de d c)=de d c;simp at z y;simp[z,y]
structure Es (es:List (Int × e7)):Prop where
 sg:∀e∈es,Sg e.1/\1<=e.2.length/\e.2.length<=6/\∀b∈e.2,0<=b/\b<=255
 pw:es.Pairwise λe f=>gP e f=false
 l:es.length<=64
def Gu(e f:Int × e7):gP e f=gP f e:=by
 unfold gP;rw[show decide (e.1=f.1)=decide (f.1=e.1) by simp[eq_comm],Bool.or_assoc,Bool.or_assoc,Bool.or_comm (de e.2 f.2)]
def Es.two{es:List (Int × e7)}(h:Es es){e f:Int × e7}(b:e∈es)(d:f∈es):e=f\/gP e f=false:=by
 obtain⟨i,a,rfl⟩:=YC.mp b;obtain⟨j,hj,rfl⟩:=YC.mp d;rcases Y9 i j with c|c|c
 ·exact .inr (XX.mp h.pw i j a hj c)
 ·subst c;exact .inl Z
 ·rw[Gu];exact .inr (XX.mp h.pw j i hj a c)
def kj(H:Hp)(ps:List Addr)(es:List (Int × e7)):Prop:=dg (λa e=>lG H a e.1 e.2) ps es
def kj.mono{H b:Hp}{ps:List Addr}{es:List (Int × e7)}(h:kj H ps es)(s:af H b):kj b ps es:=h.imp λa e z=>z.mono s
def Ju(K:PySem.W.Frag):Sp:=λvs H Q _=>∃(q:Addr) (r:e7),vs=[.ref q]/\H q=some (.lst (r.map V.int))/\(∀b∈r,0<=b/\b<=255)/\r.length<=1000/\∀H',af H H'->Q (.bl true) H'
def Qi (T:Txt w K mg t):bj P w K mg base "is_row" 3 t.AV t.yK ["thing"] (Ju K):=by
 refine⟨T.RO,T.HR.kp,T.Ut,T.HR.okQ KQ (λvs H Q E h=>by obtain⟨q,r,rfl,_⟩:=h;rfl) λ_ _ _ _ H vs Q E e h=>?_⟩;obtain⟨q,r,rfl,hq,hb,j,k⟩:=h;refine⟨_,(aj (am (ky (bz (qe (K:=K) rfl) T.n_isinstance Yj (ad (aa 0) (ad (m7 rfl T.n_list Xa) ae))) (jO (bz (Tm (K:=K) rfl rfl) T.n_all PyProof.Rows.boot_all (ad (hG rfl (cq.of (fns:=(al qZ).names) (N:=["thing"]) (Nc:=["each"]) (nv:=1) (caps:=[]) rfl rfl (by decide +kernel)) (cC (K:=K) rfl (aa 0)) (λ_ _ _ _=>(aX (i:=0) (show List.Nodup (["each"]:List Str) by decide +kernel) rfl (Or.inl rfl) (Or.inr rfl))) (λ_ _ _ _=>fX) (λ_ _ _ _=>(aS (Qk (K:=K) T) e (ad (aa 0) ae)))) ae)))))),?_⟩;refine aN (.lst hq) (by with_unfolding_all rfl) ?_;refine o6 ?_;refine cB q rfl ⟨_,.of hq⟩ (qc ((r.map λ_=>true).map V.bl) (by simp) (.of hq) (bM (by rw[WA];lia)) (λi x y g N hx c l hN=>?_) λf d a=>?_)
 ·obtain⟨o,b,rfl⟩:=fK hx;rw[WJ,WJ,b]at c;cases c;have:=hb o (W8 b);exact⟨_,rfl,.int _,cA (hN _ (af.refl _)) (by simp[dE];lia)⟩
 refine ba a.lst ?_;exact cA (k d a.sm) (by simp)
def Kf(K:PySem.W.Frag):Sp:=λvs H Q _=>∃(p:Addr) (e:Int × e7),vs=[.ref p]/\lG H p e.1 e.2/\Sg e.1/\(∀b∈e.2,0<=b/\b<=255)/\∀H',af H H'->Q (.bl true) H'
def Qj (T:Txt w K mg t):bj P w K mg base "is_entry" 4 t.AY t.yN ["thing"] (Kf K):=by
 refine⟨T.RS,T.HV.kp,T.Uw,T.HV.okQ KU (λvs H Q E h=>by obtain⟨p,e,rfl,_⟩:=h;rfl) λ_ _ _ _ H vs Q E b h=>?_⟩;obtain⟨p,⟨sg,r⟩,rfl,⟨⟨q,a,hq⟩,l1,f⟩,hs,hb,k⟩:=h;dsimp only at a hq l1 f hs hb;have d:=b.units;refine⟨_,(ai (aI (dU (gY (fZ (eB (bz (qe (K:=K) Z) T.n_isinstance Yj (ad (aa 0) (ad (m7 Z T.n_tuple YD) ae))))) (gX (aA (iC (K:=K) Z d) (bz (Wu K) T.n_len WN (ad (aa 0) ae)) ah (aH _))))) (aj (am ix)) aK)
  (aj (am (ky (aS (kR (K:=K) T) b (ad (au (Wv K) (aa 0) ah (λ_ _=>rfl)) ae)) (ky (aS (Qi (K:=K) T) b (ad (au (Wv K) (aa 0) ah (λ_ _=>rfl)) ae)) (jO (m6 gL gL ah (bz (Wu K) T.n_len WN (ad (au (Wv K) (aa 0) ah (λ_ _=>rfl)) ae)) (bU T.Tr)))))))),?_⟩
 refine aN (.tup a) (by with_unfolding_all rfl) ?_;refine ao (λz=>ZR z (by decide)) (λ_=>?_);refine ba (.inr (.of a)) ?_;refine aN (.inr (.of a)) (aD (j:=0) Z) ?_;refine c7 Z (.int _) ?_;refine ao (λ_=>?_) (λz=>ZR ((jL sg).mpr hs) z);refine aN (.inr (.of a)) (aD (j:=1) Z) ?_;refine⟨q,r,rfl,hq,hb,by lia,λc s1=>?_⟩;refine o6 ?_;refine aN (.inr (.of (s1 _ _ a))) (aD (j:=1) Z) ?_;refine ba (.inl (.of (s1 _ _ hq))) ?_;refine ao (λz=>?_) (λz=>?_)
 ·exact cA (k c s1) (by rw[WA];simp;lia)
 ·exact ZR (show decide ((1:Int)<=((r.map V.int).length:Int))=true by rw[WA];simp;lia) z
def Kk:Sp:=λvs H Q _=>∃(a:Addr) (ps:List Addr) (es:List (Int × e7)),vs=[.ref a]/\H a=some (.lst (ps.map V.ref))/\kj H ps es/\Es es/\∀H',af H H'->Q .non H'
def Gn(xs:List V)(k:Nat):cY xs none (some (k:Int))=xs.take k:=zA xs k
def wY{a:List Addr}{i:Nat}{x:V}(h:(a.map V.ref)[i]? = some x):∃q,a[i]? = some q/\x=.ref q:=by
 rw[WJ]at h;obtain⟨q,hq,rfl⟩:=Xq.mp h;exact⟨q,hq,Z⟩
def Qn (T:Txt w K mg t):bj P w K mg base "check_table" 5 t.A8 t.yR ["rows"] Kk:=by
 refine⟨T.RY,T.HZ.kp,T.UA,T.HZ.okQ mZ (λvs H Q E h=>by obtain⟨a,ps,es,rfl,_⟩:=h;rfl) λ_ _ _ _ H vs Q E I h=>?_⟩;obtain⟨a,ps,es,rfl,s,y,ok,k⟩:=h;have hu:=I.units;refine⟨_,(ai (aI (aA ju (bz (Wu K) T.n_len WN (ad (aa 0) ae)) (bU T.Tp) (aH _)) (aj iw) aK)
  (aj (cw PassesOwn.never rfl (gZ (K:=K) rfl rfl T.n_enumerate (ad (aa 0) ae)) (gH (K:=K) rfl rfl (cD (aX (i:=1) mZ.nd rfl (.inl rfl)) (cD (aX (i:=2) mZ.nd rfl (.inl rfl)) gF))) (ai (aI (fZ (eB (aS (Qj (K:=K) T) I (ad (aa 2) ae)))) (aj iw) aK)
  (aj (cw PassesOwn.never rfl (gZ (K:=K) rfl rfl T.n_enumerate (ad (dw (Ww K) (aa 0) gf (ci (aa 1))) ae)) (gH (K:=K) rfl rfl (cD (aX (i:=3) mZ.nd rfl (.inl rfl)) (cD (aX (i:=4) mZ.nd rfl (.inl rfl)) gF))) (aj (aI (eB (aS (Qm (K:=K) T) I (ad (aa 4) (ad (aa 2) ae)))) (aj iw) aK)))))))),?_⟩
 have lp:ps.length=es.length:=y.1;have a6:=ok.l;refine ba (.inl (.of s)) ?_;refine ao (λz=>?_) (λ_=>?_)
 ·have z:((ps.map V.ref).length:Int) > 64:=ZS z;rw[WA]at z;lia
 refine aR a _ Z (.of s) (jY (K:=K) (a:=a) (xs:=ps.map V.ref) (λi σ m=>af H m/\∃M N d c,σ=[some (.ref a),M,N,d,c]) ⟨af.refl _,_,_,_,_,Z⟩ (λi σ m _ z=>z.1.seq (.of s)) ?_ ?_)
 ·rintro i x p σ U H3 hx ⟨F,M,N,d,c,rfl⟩ L;obtain⟨B,C,rfl⟩:=wY hx;obtain⟨e,J,S⟩:=y.right C;refine⟨p,_,Z,L.tup,Z,_,_,Z,_,_,Z,Z,?_⟩;have O:=F.trans L.sm;obtain⟨k1,k2,k3,k4⟩:=ok.sg e (W8 J);refine⟨B,e,Z,S.mono O,k1,k4,λH4 s4=>?_⟩;refine ao (λz=>ZR (show (!true)=true from z) (by decide)) (λ_=>?_);have n:=O.trans s4;refine⟨_,Z,_,n.seq (.of s),λR H5 r=>?_⟩;rw[Gn]at r;have g:=n.trans r.sm;refine aR R _ Z r.lst (jY (K:=K) (a:=R) (xs:=(ps.map V.ref).take i) (λj σ m=>af H5 m/\∃d c,σ=[some (.ref a),some (.int (i:Int)),some (.ref B),d,c]) ⟨af.refl _,_,_,Z⟩ (λi σ m _ z=>z.1.seq r.lst) ?_ ?_)
  ·rintro j u pj σ H6 H7 b ⟨v,d,c,rfl⟩ D;have q:j<i:=by have:=(WF.mp b).1;rw[WO]at this;lia
   rw[Yr q]at b;obtain⟨pu,G,rfl⟩:=wY b;obtain⟨f,W,ef⟩:=y.right G;refine⟨pj,_,Z,D.tup,Z,_,_,Z,_,_,Z,Z,?_⟩;have o:=g.trans (v.trans D.sm);refine⟨pu,B,f,e,Z,ef.mono o,S.mono o,λH8 s8=>?_⟩;have nc:gP f e=false:=by
    obtain⟨Y,e1⟩:=WF.mp W;obtain⟨a2,e2⟩:=WF.mp J;rw[<- e1,<- e2];exact XX.mp ok.pw j i Y a2 q
   refine ao (λz=>ZR (show gP f e=true from z) (by rw[nc];decide)) (λ_=>?_);exact⟨v.trans (D.sm.trans s8),_,_,Z⟩
  ·rintro σ H6 ⟨v,d,c,rfl⟩;exact⟨g.trans v,_,_,_,_,Z⟩
 ·rintro σ U ⟨F,_⟩;exact k U F
structure Ft where
 dx:Addr
 d1:Addr
 d2:Addr
 d3:Addr
def dn(r:e7):List aQ:=r.map Sum.inl
def rK(r:e7):r.map V.int=(dn r).map kV:=by
 unfold dn;rw[XE];rfl
def rL{r s:e7}(h:dn r=dn s):r=s:=by
 unfold dn at h
 induction r generalizing s with
 | nil=>cases s with
  | nil=>rfl
  | cons _ _=>cases h
 | cons x r ih=>cases s with
  | nil=>cases h
  | cons y s=>simp at h;rw[h.1,ih (by simpa using h.2)]
def lB(es:List (Int × e7))(row:e7):Prop:=∃e∈es,∃m,m<=e.2.length/\row=e.2.take m
def qm(H:Hp)(k3:List (List aQ × V))(es:List (Int × e7))(a:e7):Prop:=∃(q:Addr) (b:e7),bn k3 (dn a)=some (.ref q)/\H q=some (.tup (b.map V.int))/\∃e'∈es,e'.2=a++b
structure Kv (H:Hp) (k1:List (aQ × V)) (k2 k3:List (List aQ × V)) (es:List (Int × e7)):Prop where
 a:∀e∈es,∃q,bn k1 (.inl e.1)=some (.ref q)/\H q=some (.tup (e.2.map V.int))
 b:∀e∈es,bn k2 (dn e.2)=some (.int e.1)
 b':∀r:e7,(∀e∈es,e.2≠r)->bn k2 (dn r)=none
 c:∀e∈es,∀m,m<=e.2.length->qm H k3 es (e.2.take m)
 c':∀r:e7,¬lB es r->bn k3 (dn r)=none
structure Tt (t:Adr) (H:Hp) (a:Addr) (f:Ft) (es:List (Int × e7)) (n:Nat):Prop where
 o:H a=some (.ins t.ce f.dx [("row_by_sign",.ref f.d1),("sign_by_row",.ref f.d2),("rest_by_row",.ref f.d3)])
 k:∃k1 k2 k3,H f.d1=some (.dK k1)/\H f.d2=some (.dT k2)/\H f.d3=some (.dT k3)/\k1.length<=n/\k2.length<=n/\k3.length<=n/\Kv H k1 k2 k3 es
 ne:f.d2≠f.d3
variable {H H':Hp}{a:Addr}{f:Ft}{es:List (Int × e7)}{n:Nat}
def Kv.mono{k1:List (aQ × V)}{k2 k3:List (List aQ × V)}(h:Kv H k1 k2 k3 es)(s:∀q xs,H q=some (.tup xs)->H' q=some (.tup xs)):Kv H' k1 k2 k3 es:=by
 refine⟨λe d=>?_,h.b,h.b',λe d m g=>?_,h.c'⟩
 ·obtain⟨q,x,y⟩:=h.a e d;exact⟨q,x,s _ _ y⟩
 ·obtain⟨q,f,x,y,z⟩:=h.c e d m g;exact⟨q,f,x,s _ _ y,z⟩
def Tt.mono(h:Tt t H a f es n)(s:af H H'):Tt t H' a f es n:=by
 obtain⟨o,⟨k1,k2,k3,g,d,c,l1,b,i,j⟩,ne⟩:=h;exact⟨s _ _ o,⟨k1,k2,k3,s _ _ g,s _ _ d,s _ _ c,l1,b,i,j.mono λq xs e=>s _ _ e⟩,ne⟩
def bA{c d:Addr}{u v:HO}(h:H c=some u)(k:H d=some v)(n:u≠v):c≠d:=λz=>by rw[z,k]at h;exact n (WZ h).symm
def eR(f:Ft)(H a:Hp):Prop:=∀c u,c≠f.d1->c≠f.d2->c≠f.d3->H c=some u->a c=some u
def eR.trans{H a b:Hp}(h:eR f H a)(h':eR f a b):eR f H b:=λc u g i d e=>h' c u g i d (h c u g i d e)
def eR.of{H a:Hp}(h:af H a):eR f H a:=λc u _ _ _ e=>h c u e
def Tt.tup{q:Addr}{xs:List V}(h:Tt t H a f es n)(hq:H q=some (.tup xs))(k:eR f H H'):H' q=some (.tup xs):=by
 obtain⟨o,⟨k1,k2,k3,d,b,c,_⟩,ne⟩:=h;exact k _ _ (bA hq d (by intro z;cases z)) (bA hq b (by intro z;cases z)) (bA hq c (by intro z;cases z)) hq
def Ke(t:Adr):Sp:=λvs H Q _=>∃(a:Addr) (f:Ft) (q:Addr) (n:Nat) (s:Int) (r:e7) (es:List (Int × e7)),vs=[.ref a,.int s,.ref q]/\Tt t H a f es n/\H q=some (.tup (r.map V.int))/\r.length<=6/\n<=1000/\(∀e∈es,e.1≠s/\e.2≠r) /\
 ∀H',Tt t H' a f (es++[(s,r)]) (n+9)->eR f H H'->Q .non H'
def Qr (T:Txt w K mg t):bB P w K mg base t.ce "enter" 1 t.Bd t.yX ["self", "sign", "row"] (Ke t):=by
 refine⟨T.fj,T.nL,T.UJ,T.VC.okQ C2 (λvs H Q E h=>by obtain⟨a,f,q,n,s,r,es,rfl,_⟩:=h;rfl) λ_ _ _ _ H vs Q E hr h=>?_⟩;obtain⟨a,f,q,n,sg,r,es,rfl,tb,hq,lr,ln,new,k⟩:=h;have hu:=hr.units;obtain⟨o,⟨k1,k2,k3,a1,a2,a3,l1,l2,l3,kv⟩,ne⟩:=id tb;refine⟨_,(ai (rl hu (aJ (K:=K) Z (aa 0)) (aa 1) (aa 2))
  (ai (rl hu (aJ (K:=K) rfl (aa 0)) (aa 2) (aa 1))
  (aj (cw PassesOwn.never rfl (m5 rfl T.n_range (ad (az (Wt K) (bz (Wu K) T.n_len WN (ad (aa 2) ae)) ah) ae)) (aX (i:=3) C2.nd rfl (.inl rfl)) (aj (rl hu (aJ (K:=K) rfl (aa 0)) (dw (FF (K:=K) rfl) (aa 2) gf (ci (aa 3))) (dw (FF (K:=K) rfl) (aa 2) (ci (aa 3)) gf))))))),?_⟩
 have a8:f.d1≠f.d2:=bA a1 a2 (by intro z;cases z);have a7:f.d1≠f.d3:=bA a1 a3 (by intro z;cases z);have R:a≠f.d1:=bA o a1 (by intro z;cases z);have M:a≠f.d2:=bA o a2 (by intro z;cases z);have O:a≠f.d3:=bA o a3 (by intro z;cases z);refine bu a _ f.dx _ _ Z o T.fj T.jQ Z ?_;refine aR f.d1 _ rfl (jc.k (k:=.inl sg) a1 (dS (by lia))) ?_;obtain⟨D,W⟩:∃D,D=upd H f.d1 (.dK (cH k1 (.inl sg) (.ref q))):=⟨_,rfl⟩;rw[<- W];have o1:eR f H D:=λc u m1 m2 m3 e=>by rw[W,ap m1];exact e
 have b1:D f.d1=some (.dK (cH k1 (.inl sg) (.ref q))):=by rw[W,aF]
 have b2:D f.d2=some (.dT k2):=by rw[W,ap a8.symm];exact a2
 have b3:D f.d3=some (.dT k3):=by rw[W,ap a7.symm];exact a3
 clear W;refine bu a _ f.dx _ _ Z (o1 _ _ R M O o) T.fj T.kF Z ?_;have aB:=tb.tup hq o1;refine aR f.d2 _ rfl (jc.t (k:=dn r) b2 (by rw[<- rK];exact aB) (dS (by lia))) ?_;obtain⟨H2,Y⟩:∃H2,H2=upd D f.d2 (.dT (cH k2 (dn r) (.int sg))):=⟨_,rfl⟩;rw[<- Y];have o2:eR f D H2:=λc u m1 m2 m3 e=>by rw[Y,ap m2];exact e
 have c1:H2 f.d1=some (.dK (cH k1 (.inl sg) (.ref q))):=by rw[Y,ap a8];exact b1
 have c2:H2 f.d2=some (.dT (cH k2 (dn r) (.int sg))):=by rw[Y,aF]
 have c3:H2 f.d3=some (.dT k3):=by rw[Y,ap ne.symm];exact b3
 clear Y;have S:=o1.trans o2;have ao:=tb.tup hq S;refine ba (.inr (.of ao)) ?_;refine qA rfl (by rw[WA];lia) (by rw[WA];lia) ?_;rw[WA];refine mr (lo:=0) (n:=((r.length:Int)+1).toNat) (λi σ U=>eR f H U/\U f.d1=some (.dK (cH k1 (.inl sg) (.ref q)))/\U f.d2=some (.dT (cH k2 (dn r) (.int sg)))/\(∃g,U f.d3=some (.dT g)/\g.length<=n+i/\(∀m,m<i->qm U g (es++[(sg,r)]) (r.take m))/\(∀e∈es,∀m,m<=e.2.length->qm U g (es++[(sg,r)]) (e.2.take m))/\(∀l,¬lB (es++[(sg,r)]) l->bn g (dn l)=none))/\∃v3,σ=[some (.ref a),some (.int sg),some (.ref q),v3]) ⟨S,c1,c2,⟨k3,c3,by lia,(λm h=>ZR h (by lia)),(λe d m F=>?_),λl v=>kv.c' l λ⟨e,d,z⟩=>v ⟨e,Xc _ d,z⟩⟩,_,rfl⟩ ?_ ?_
 ·obtain⟨q',r2,x,y,e',aq,z⟩:=kv.c e d m F;exact⟨q',r2,x,tb.tup y S,e',Xc _ aq,z⟩
 ·rintro i σ H3 hi ⟨G,d1,d2,⟨g,d3,av,j,p,J⟩,v3,rfl⟩;have B:=tb.tup hq G;refine⟨_,Z,_,.of B,B,λC H4 s4 h4=>?_⟩;refine bu a _ f.dx _ _ Z (s4 _ _ (G _ _ R M O o)) T.fj T.kG Z ?_;refine⟨_,Z,_,.of (s4 _ _ B),s4 _ _ B,λp5 H5 s5 h5=>?_⟩;rw[Yl,zy,rK]at h5;have N:=s4.trans s5;refine aR f.d3 _ rfl (jc.t (k:=dn (r.take i)) (N _ _ d3) h5 (dS (by lia))) ?_;obtain⟨L,e6⟩:∃L,L=upd H5 f.d3 (.dT (cH g (dn (r.take i)) (.ref C))):=⟨_,rfl⟩;rw[<- e6];have t6:∀c u,c≠f.d3->H3 c=some u->L c=some u:=λc u m e=>by rw[e6,ap m];exact N _ _ e
  have aA:C≠f.d3:=bA (s5 _ _ h4) (N _ _ d3) (by intro z;cases z);have an:L C=some (.tup (cY (r.map V.int) (some (0+(i:Int))) none)):=by rw[e6,ap aA];exact s5 _ _ h4
  have b6:L f.d3=some (.dT (cH g (dn (r.take i)) (.ref C))):=by rw[e6,aF]
  clear e6;have I:L C=some (.tup ((r.drop i).map V.int)):=by
   rw[an,Yl,ib];exact congrArg _ (congrArg _ (congrArg _ (qa r i)))
  have keep:∀l,qm H3 g (es++[(sg,r)]) l->qm L (cH g (dn (r.take i)) (.ref C)) (es++[(sg,r)]) l:=by
   rintro l ⟨q',r2,x,y,z⟩;by_cases c:dn l=dn (r.take i)
   ·have c':=rL c;exact⟨C,r.drop i,by rw[iJ,ZQ c],I,(sg,r),by simp,by rw[c',Xm]⟩
   ·exact⟨q',r2,by rw[iJ,ZP c];exact x,t6 _ _ (bA y d3 (by intro z;cases z)) y,z⟩
  refine⟨λc u m1 m2 m3 e=>t6 _ _ m3 (G c u m1 m2 m3 e),t6 _ _ a7 d1,t6 _ _ ne d2,⟨_,b6,?_,λm F=>?_,(λe d m F=>keep _ (p e d m F)),λl v=>?_⟩,_,Z⟩
  ·have:=o4 g (dn (r.take i)) (.ref C);lia
  ·by_cases c:m<i
   ·exact keep _ (j m c)
   ·obtain rfl:m=i:=by lia
    exact⟨C,r.drop m,by rw[iJ,ZQ rfl],I,(sg,r),by simp,by rw[Xm]⟩
  ·rw[iJ,ZP (λz=>v ⟨(sg,r),by simp,i,by dsimp only;lia,rL z⟩)];exact J l v
 ·rintro σ H3 ⟨G,d1,d2,⟨g,d3,av,j,p,J⟩,_⟩;refine k _ ⟨G _ _ R M O o,⟨_,_,g,d1,d2,d3,?_,?_,by lia,?_⟩,ne⟩ G
  ·have:=o4 k1 (.inl sg) (.ref q);lia
  ·have:=o4 k2 (dn r) (.int sg);lia
  ·refine⟨λe d=>?_,λe d=>?_,λr' a4=>?_,(λe d m F=>?_),J⟩
   ·rcases WQ.mp d with d|d
    ·rw[iJ,ZP (λz=>(new e d).1 (Sum.inl.inj z))];obtain⟨q',x,y⟩:=kv.a e d;exact⟨q',x,tb.tup y G⟩
    ·rw[WK.mp d,iJ,ZQ rfl];exact⟨q,Z,tb.tup hq G⟩
   ·rcases WQ.mp d with d|d
    ·rw[iJ,ZP (λz=>(new e d).2 (rL z))];exact kv.b e d
    ·rw[WK.mp d,iJ,ZQ rfl]
   ·rw[iJ,ZP (λz=>a4 (sg,r) (by simp) (rL z).symm)];exact kv.b' r' λe d=>a4 e (by simp[d])
   ·rcases WQ.mp d with d|d
    ·exact p e d m F
    ·rw[WK.mp d]at F ⊢;exact j m (by dsimp only at F;lia)
def Cw(t:Adr):Sp:=λvs H Q _=>∃(a dx p:Addr) (ps:List Addr) (es:List (Int × e7)),vs=[.ref a,.ref p]/\H a=some (.ins t.ce dx [])/\H p=some (.lst (ps.map V.ref))/\kj H ps es/\Es es /\
 ∀f H',Kp a H H'->Tt t H' a f es 1000->Q .non H'
def Tt.up{H:Hp}{a:Addr}{f:Ft}{es:List (Int × e7)}{n m:Nat}(h:Tt t H a f es n)(i:n<=m):Tt t H a f es m:=by
 obtain⟨o,⟨k1,k2,k3,c,b,d,l1,g,j,e⟩,ne⟩:=h;exact⟨o,⟨k1,k2,k3,c,b,d,by lia,by lia,by lia,e⟩,ne⟩
def N8 (T:Txt w K mg t):bo P w K mg base bK 6 t.tF t.sr ["self", "rows"] (Cw t):=by
 refine T.VA.okQ C0 (λvs H Q E h=>by obtain⟨a,dx,p,ps,es,rfl,_⟩:=h;rfl) λ_ _ _ _ H vs Q E hr h=>?_;obtain⟨a,dx,p,ps,es,rfl,L,hp,U,ok,kq⟩:=h;have hu:=hr.units;refine⟨_,(ai (bE (aS (Qn (K:=K) T) hr (ad (aa 1) ae)))
  (ai (c8 (K:=K) rfl (aa 0) Dz)
  (ai (c8 (K:=K) rfl (aa 0) Dy)
  (ai (c8 (K:=K) rfl (aa 0) Dy)
  (aj (cw PassesOwn.never rfl (cC (K:=K) rfl (aa 1)) (aX (i:=2) C0.nd rfl (.inl rfl)) (aj (bE (cN (Qr (K:=K) T) hr (aa 0) (ad (au (Wv K) (aa 2) ah (λ_ _=>rfl)) (ad (dI (Ab (K:=K) rfl) T.n_tuple YD (ad (au (Wv K) (aa 2) ah (λ_ _=>rfl)) ae)) ae))))))))))),?_⟩
 refine⟨p,ps,es,Z,hp,U,ok,λH1 s1=>?_⟩;refine λd1 H2 g=>?_;refine cL a _ dx _ rfl (g.sm _ _ (s1 _ _ L)) T.fj T.jQ (WE YB (by decide)) ?_;obtain⟨s,S⟩:∃s,s=upd H2 a (HO.ins t.ce dx (cy "row_by_sign" (.ref d1) [])):=⟨_,rfl⟩;have a3:s a=some (.ins t.ce dx [("row_by_sign",.ref d1)]):=by rw[S,aF];rfl
 have k3:Kp a H2 s:=by rw[S];exact Kp.upd
 rw[<- S];clear S;refine λd2 H4 C=>?_;refine cL a _ dx _ rfl (C.sm _ _ a3) T.fj T.kF (WE (WW 1) (by decide)) ?_;obtain⟨k,R⟩:∃k,k=upd H4 a (HO.ins t.ce dx (cy "sign_by_row" (.ref d2) [("row_by_sign",.ref d1)])):=⟨_,rfl⟩;have a5:k a=some (.ins t.ce dx [("row_by_sign",.ref d1),("sign_by_row",.ref d2)]):=by rw[R,aF];rfl
 have k5:Kp a H4 k:=by rw[R];exact Kp.upd
 rw[<- R];clear R;refine λd3 H6 v=>?_;refine cL a _ dx _ rfl (v.sm _ _ a5) T.fj T.kG (WE (WW 2) (by decide)) ?_;obtain⟨d,O⟩:∃d,d=upd H6 a (HO.ins t.ce dx (cy "rest_by_row" (.ref d3) [("row_by_sign",.ref d1),("sign_by_row",.ref d2)])):=⟨_,rfl⟩;have a7:d a=some (.ins t.ce dx [("row_by_sign",.ref d1),("sign_by_row",.ref d2),("rest_by_row",.ref d3)]):=by rw[O,aF];rfl
 have k7:Kp a H6 d:=by rw[O];exact Kp.upd
 rw[<- O];clear O;have n1:d1≠a:=(aB (s1 _ _ L) g.nw).symm;have n2:d2≠a:=(aB a3 C.nw).symm;have n3:d3≠a:=(aB a5 v.nw).symm;have D:Kp a s k:=(Kp.of C.sm).trans k5;have B:Kp a k d:=(Kp.of v.sm).trans k7;have M:Kp a s d:=D.trans B;have a8:Kp a H1 d:=(Kp.of g.sm).trans (k3.trans M);have W:Kp a H d:=(Kp.of s1).trans a8;have b2:k d2=some (.dT []):=k5 _ _ n2 C.at_;have a1:d2≠d3:=aB b2 v.nw;have tb:Tt t d a ⟨dx,d1,d2,d3⟩ [] 0:=⟨a7,⟨[],[],[],M _ _ n1 (k3 _ _ n1 g.at_),B _ _ n2 b2,k7 _ _ n3 v.at_,WB _,WB _,WB _,⟨(λe h=>nomatch h),(λe h=>nomatch h),(λr _=>rfl),(λe h=>nomatch h),(λr _=>rfl)⟩⟩,a1⟩;have f1:H d1=none:=s1.free g.nw;have f2:∀c u,H c=some u->c≠a->c≠d2:=λc u e n=>aB (k3 _ _ n (g.sm _ _ (s1 _ _ e))) C.nw;have f3:∀c u,H c=some u->c≠a->c≠d3:=λc u e n=>aB (D _ _ n (k3 _ _ n (g.sm _ _ (s1 _ _ e)))) v.nw;have lx:=U.1;have aE:=ok.l;have f:∀b,eR ⟨dx,d1,d2,d3⟩ d b->Kp a H b:=λb o c u n e=>o c u (aB e f1) (f2 c u e n) (f3 c u e n) (W c u n e);have px:∀b,eR ⟨dx,d1,d2,d3⟩ d b->b p=some (.lst (ps.map V.ref)):=λb o=>f b o _ _ (bA hp L (by intro z;cases z)) hp;refine cB p rfl ⟨_,.of (px d (eR.of (af.refl _)))⟩ (mv (K:=K) (a:=p) (xs:=ps.map V.ref) (λi σ b=>Tt t b a ⟨dx,d1,d2,d3⟩ (es.take i) (i*9)/\eR ⟨dx,d1,d2,d3⟩ d b/\∃v2,σ=[some (.ref a),some (.ref p),v2]) ⟨tb.up (by lia),eR.of (af.refl _),_,rfl⟩ (λi σ b _ z=>.of (px b z.2.1)) ?_ ?_)
 ·rintro i x σ H8 hx ⟨J,F,v2,rfl⟩;obtain⟨pe,G,rfl⟩:=wY hx;obtain⟨e,he,⟨q,N,y⟩,l1,l6⟩:=U.right G;have I:=f _ F _ _ (bA N L (by intro z;cases z)) N;have a4:=f _ F _ _ (bA y L (by intro z;cases z)) y;have hi:i<ps.length:=(WF.mp G).1;refine bI a dx _ Z J.o Z ?_;refine aN (.inr (.of I)) (aD (j:=0) Z) ?_;refine aN (.inr (.of I)) (aD (j:=1) Z) ?_;refine ba (.of a4) (λpt H9 g9=>?_);refine⟨a,⟨dx,d1,d2,d3⟩,pt,i*9,e.1,e.2,es.take i,rfl,J.mono g9.sm,g9.at_,l6,by lia,λe' Y=>?_,λHA tA oA=>?_⟩
  ·obtain⟨j,hj,rfl⟩:=YC.mp Y;obtain⟨a2,e2⟩:=WF.mp he;rw[WO]at hj;have m:=XX.mp ok.pw j i (by lia) a2 (by lia);rw[e2]at m;rw[List.getElem_take];unfold gP de at m;refine⟨λz=>?_,λz=>?_⟩
   ·rw[ZT z]at m;cases m
   ·rw[z]at m;simp at m
  ·have et:es.take (i+1)=es.take i++[(e.1,e.2)]:=dO he;rw[et];exact⟨tA.up (by lia),F.trans ((eR.of g9.sm).trans oA),_,rfl⟩
 ·rintro σ H8 ⟨t8,F,_⟩;rw[WA,lx,WY]at t8;exact kq _ _ (f _ F) (t8.up (by lia))
def Ps (T:Txt w K mg t):jD P w K mg base "TableTongue" t.ce 6 t.tF t.sr ["self", "rows"] [] (Cw t):=⟨T.QR,T.oK,⟨[],T.UH,.nil⟩,N8 T⟩
def Ck(t:Adr):Sp:=λvs H Q _=>∃(a:Addr) (f:Ft) (es:List (Int × e7)) (q:Addr) (row:e7) (g:Int),vs=[.ref a,.ref q,.int g]/\Tt t H a f es 1000/\Es es/\H q=some (.lst (row.map V.int)) /\
 ((∀e∈es,e.2≠row)->∀H',af H H'->Q .non H')/\(∀e∈es,e.2=row->∀p H',af H H'->H' p=some (.tup [.int e.1,.int g])->Q (.ref p) H')
def NZ (T:Txt w K mg t):bo P w K mg base bK 2 t.tB t.sk ["self", "row", "page"] (Ck t):=by
 refine T.Vy.okQ CZ (λvs H Q E h=>by obtain⟨o,f,es,q,row,g,rfl,_⟩:=h;rfl) λ_ _ _ _ H vs Q E D h=>?_;obtain⟨a,f,es,q,row,g,rfl,u,ok,hq,s,B⟩:=h;have v:=D.units;refine⟨_,(ai (aL (i:=3) CZ.nd Z (.inl Z) (DA v (aJ (K:=K) Z (aa 0)) (dI (Ab (K:=K) Z) T.n_tuple YD (ad (aa 1) ae))))
  (aj (am (iO (aA jW (aa 3) bY (aH _)) bY (bF (ad (aa 3) (ad (aa 2) ae))))))),?_⟩
 obtain⟨o,⟨k1,k2,k3,F,n,G,_,_,_,m⟩,ne⟩:=id u;refine bu a _ f.dx _ _ Z o T.fj T.kF Z ?_;refine cB f.d2 Z (.inr ⟨_,.inl n⟩) ?_;refine ba (.of hq) (λI y j=>?_);have r:=j.at_;rw[rK]at r;refine ba (c6.t (j.sm _ _ n) r) ?_;by_cases c:∀e∈es,e.2≠row
 ·rw[m.b' row c];exact s c y j.sm
 ·obtain⟨e,x⟩:=Classical.not_forall.mp c;obtain⟨l,d⟩:=Classical.not_imp.mp x;have d:e.2=row:=Classical.not_not.mp d;have p:=m.b e l;rw[d]at p;rw[p];exact⟨sz Z,λz C k=>B e l d z C (j.sm.trans k.sm) k.at_⟩
def Qp (T:Txt w K mg t):eV P w K mg base t.ce "whole" 2 t.tB t.sk ["self", "row", "page"] [] (Ck t) :=
 ⟨T.fj,T.nI,⟨_,T.UF,.nil⟩,NZ T⟩
def CC(t:Adr):Sp:=λvs H Q _=>∃(a:Addr) (f:Ft) (es:List (Int × e7)) (q:Addr) (row:e7) (g:Int),vs=[.ref a,.ref q,.int g]/\Tt t H a f es 1000/\H q=some (.lst (row.map V.int)) /\
 (lB es row->∀p (b:e7) H',af H H'->H' p=some (.lst (b.map V.int))->(∃e'∈es,e'.2=row++b)->Q (.ref p) H')/\(¬lB es row->∀H',af H H'->Q .non H')
def Ob (T:Txt w K mg t):bo P w K mg base bK 3 t.tH t.sx ["self", "row", "page"] (CC t):=by
 refine T.VB.okQ C1 (λvs H Q E h=>by obtain⟨o,f,es,q,row,g,rfl,_⟩:=h;rfl) λ_ _ _ _ H vs Q E G h=>?_;obtain⟨a,f,es,q,row,g,rfl,s,hq,k,r⟩:=h;have u:=G.units;refine⟨_,(ai (aL (i:=3) C1.nd Z (.inl Z) (DA u (aJ (K:=K) Z (aa 0)) (dI (Ab (K:=K) Z) T.n_tuple YD (ad (aa 1) ae))))
  (aj (am (iO (aA jW (aa 3) bY (aH _)) bY (dI (Wx K) T.n_list Xa (ad (aa 3) ae)))))),?_⟩
 obtain⟨o,⟨k1,k2,k3,I,M,l,_,_,_,n⟩,ne⟩:=id s;refine bu a _ f.dx _ _ Z o T.fj T.kG Z ?_;refine cB f.d3 Z (.inr ⟨_,.inl l⟩) ?_;refine ba (.of hq) (λL y b=>?_);have p:=b.at_;rw[rK]at p;refine ba (c6.t (b.sm _ _ l) p) ?_;by_cases c:lB es row
 ·obtain⟨e,x,m,z,rfl⟩:=id c;obtain⟨J,C,v,d,D⟩:=n.c e x m z;rw[v];exact⟨_,.inr (.of (b.sm _ _ d)),λB F j=>k c B C F (b.sm.trans j.sm) j.at_ D⟩
 ·rw[n.c' row c];exact r c y b.sm
def Fi (T:Txt w K mg t):eV P w K mg base t.ce "fill" 3 t.tH t.sx ["self", "row", "page"] [] (CC t) :=
 ⟨T.fj,T.nK,⟨_,T.UI,.nil⟩,Ob T⟩
inductive Kt where
 | ld
 | pr (h:Bool)
 | sh (f:Fp) (ns ms:e7)
 | tb (f:Ft) (es:List (Int × e7))
def TN(t:Adr)(H:Hp)(o:Addr):Kt->Prop
 | .ld=>∃dx,H o=some (.ins t.fP dx [])
 | .pr h=>Po t H o h
 | .sh f ns ms=>Tg t H o f ns ms
 | .tb f es=>Tt t H o f es 1000/\Es es
def TN.mono{H a:Hp}{o:Addr}{D:Kt}(h:TN t H o D)(s:af H a):TN t a o D:=by
 cases D with
 | ld=>obtain⟨dx,h⟩:=h;exact⟨dx,s _ _ h⟩
 | pr b=>exact Po.mono h s
 | sh f ns ms=>exact Tg.mono h s
 | tb f es=>exact⟨Tt.mono h.1 s,h.2⟩
def uJ:Kt->Int->Int->Option (e7 × Int)
 | .ld,g,n=>some (row n,g)
 | .pr h,g,n=>some (fF h n,g)
 | .sh _ ns ms,g,n=>em (ak g ns ms) (ak g ms ns) g (.int n)
 | .tb _ es,g,n=>(es.find? λe=>decide (e.1=n)).map λe=>(e.2,g)
def cv(D:Kt)(g n:Int):e7 × Int:=(uJ D g n).getD ([],g)
def eU:Kt->Int->Prop
 | .ld,n=>Sg n
 | .pr _,n=>Sg n
 | .sh _ ns ms,n=>n∈ns\/n∈ms
 | .tb _ es,n=>∃e∈es,e.1=n
def bO:Kt->Int->Prop
 | .sh _ _ _,g=>cT g
 | _,g=>g=0
def Jt{ns a:e7}{g n:Int}(two:cT g)(h:n∈ns\/n∈a):∃r g',em (ak g ns a) (ak g a ns) g (.int n)=some (r,g')/\cT g'/\r.length<=2:=by
 have b:n∈ak g ns a\/n∈ak g a ns:=by
  rcases two with rfl|rfl
  ·exact h
  ·exact h.symm
 unfold em;dsimp only;cases e:b9 (ak g ns a) n with
 | some i=>exact⟨_,_,rfl,two,by show (1:Nat)<=2;decide⟩
 | none =>
  dsimp only;have d:=h9.mp e;rcases b with b|b
  ·exact ZR b d
  ·obtain⟨i,c,_⟩:=md b;rw[c];exact⟨_,_,rfl,two.flip,by show (2:Nat)<=2;decide⟩
def kU{es:List (Int × e7)}{n:Int}(h:∃e∈es,e.1=n):∃e∈es,e.1=n/\(es.find? λe=>decide (e.1=n))=some e:=by
 cases e:es.find? λe=>decide (e.1=n) with
 | none =>
  obtain⟨f,a,rfl⟩:=h;have:=XW.mp e f a;simp at this
 | some f =>
  exact⟨f,Za e,by simpa using YE e,rfl⟩
def uk:Kt->Prop
 | .tb _ es=>Es es
 | _=>True
def TN.ok{H:Hp}{o:Addr}{D:Kt}(h:TN t H o D):uk D:=by
 cases D with
 | tb f es=>exact h.2
 | _=>exact trivial
def qN{D:Kt}{g n:Int}(tn:uk D)(c:bO D g)(d:eU D n):∃r g',uJ D g n=some (r,g')/\cv D g n=(r,g')/\bO D g'/\r.length<=6:=by
 have key:∃r g',uJ D g n=some (r,g')/\bO D g'/\r.length<=6:=by
  cases D with
  | ld=>exact⟨_,_,rfl,c,WP (Dk n).2 (by decide)⟩
  | pr b=>exact⟨_,_,rfl,c,WP (MX b n) (by decide)⟩
  | sh f ns ms =>
   obtain⟨r,g',e,two,l⟩:=Jt c d;exact⟨r,g',e,two,by lia⟩
  | tb f es =>
   obtain⟨e,i,_,h⟩:=kU d;exact⟨e.2,g,by show Option.map _ _=_;rw[h];rfl,c,(Es.sg tn e i).2.2.1⟩
 obtain⟨r,g',e,a,b⟩:=key;exact⟨r,g',e,by unfold cv;rw[e];rfl,a,b⟩
def Iu{g:e7}(h:i7 g)(b:∀x∈g,0<=x):Sg (ic g)/\row (ic g)=g:=by
 cases g with
 | nil=>exact h.elim
 | cons f r =>
  have n:=b f (W3 ..);obtain⟨⟨_,ft⟩,a⟩:=h;obtain⟨d,i⟩:=(FX f r).mp ft
  match r,a,d,i with
  | [],a,_,_ =>
   have k:f<128:=by
    have a:((0:Nat):Int)+1=lb f:=a;unfold lb at a;by_cases c:f<128
    ·exact c
    ·rw[ZP c]at a;(repeat' split at a)<;>omega
   show Sg f/\row f=[f];refine⟨by unfold Sg;omega,?_⟩;unfold row;rw[ZQ k]
  | [x],a,d,i =>
   have a:((1:Nat):Int)+1=lb f:=a;have hx:=d x (by simp);have e:ic [f,x]=(f-192)*64+(x-128):=by simp[ic,jU,cg]
   have k:194<=f/\f<224:=by
    unfold lb at a
    (repeat' split at a)<;>omega
   rw[e];refine⟨by unfold Sg;omega,?_⟩;unfold row;rw[ZP (by omega),ZQ (by omega)]
   congr 1
   ·omega
   ·congr 1;omega
  | [x,y],a,d,i =>
   have a:((2:Nat):Int)+1=lb f:=a;have hx:=d x (by simp);have l:=d y (by simp);have j:=i x rfl;have e:ic [f,x,y]=(f-224)*4096+(x-128)*64+(y-128):=by simp[ic,jU,cg];omega
   have k:224<=f/\f<240:=by
    unfold lb at a
    (repeat' split at a)<;>omega
   have z:(f=224->160<=x)/\(f=237->x<=159)/\(f=238->x<=187):=by
    unfold kM kP at j;refine⟨λc=>?_,λc=>?_,λc=>?_⟩<;>subst c<;>simp at j<;>omega
   rw[e];refine⟨by unfold Sg;omega,?_⟩;unfold row;rw[ZP (by omega),ZP (by omega),ZQ (by omega)]
   congr 1
   ·omega
   ·congr 1
    ·omega
    ·congr 1;omega
  | [x,y,v],a,d,i =>
   have a:((3:Nat):Int)+1=lb f:=a;have hx:=d x (by simp);have l:=d y (by simp);have m:=d v (by simp);have j:=i x rfl;have e:ic [f,x,y,v]=(f-240)*262144+(x-128)*4096+(y-128)*64+(v-128):=by simp[ic,jU,cg];omega
   have k:240<=f/\f<=244:=by
    unfold lb at a
    (repeat' split at a)<;>omega
   have z:(f=240->144<=x)/\(f=244->x<=143):=by
    unfold kM kP at j;refine⟨λc=>?_,λc=>?_⟩<;>subst c<;>simp at j<;>omega
   rw[e];refine⟨by unfold Sg;omega,?_⟩;unfold row;rw[ZP (by omega),ZP (by omega),ZP (by omega)]
   congr 1
   ·omega
   ·congr 1
    ·omega
    ·congr 1
     ·omega
     ·congr 1;omega
  | _::_::_::_::r,a,_,_ =>
   exfalso
   have:=(o5 f).2;simp at a;omega
def Iw(h:Bool){r:e7}{n:Int}(hb:aW r)(e:gx h r=some n):Sg n/\fF h n=r:=by
 unfold gx at e;by_cases c:r.length=2\/r.length=4
 ·rw[ZQ c]at e;rcases c with c|c
  ·match r,c with
   | [x,y],_ =>
    have hx:=hb x (by simp);have a:=hb y (by simp);have e:jK [u2 h x y]=some n:=e;have e:(if dB (.int (u2 h x y))=true then some (u2 h x y) else none)=some n:=e;by_cases d:dB (.int (u2 h x y))=true
    ·rw[ZQ d]at e;cases e;refine⟨(jL _).mp d,?_⟩;unfold fF du u2;cases h
     ·simp[ub];rw[ZQ (by omega)];simp[ub];omega
     ·simp[ub];rw[ZQ (by omega)];simp[ub];omega
    ·rw[ZP d]at e;cases e
  ·match r,c with
   | [x,y,z,v],_ =>
    have hx:=hb x (by simp);have a:=hb y (by simp);have hz:=hb z (by simp);have b:=hb v (by simp);have e:jK [u2 h x y,u2 h z v]=some n:=e;unfold jK at e;simp only at e
    split at e
    ·cases e;rename_i d;cases h
     ·simp[u2]at d ⊢;refine⟨by unfold Sg;omega,?_⟩;unfold fF du;rw[ZP (by omega)];simp[ub];omega
     ·simp[u2]at d ⊢;refine⟨by unfold Sg;omega,?_⟩;unfold fF du;rw[ZP (by omega)];simp[ub];omega
    ·cases e
 ·rw[ZP c]at e;cases e
def Cj{ns a:e7}{g n:Int}(two:cT g)(h:n∈ns\/n∈a):∃r g',em (ak g ns a) (ak g a ns) g (.int n)=some (r,g')/\cT g'/\((∃b:Int,r=[b]/\0<=b/\(ak g ns a)[b.toNat]? = some n/\g'=g)\/(∃c:Int,r=[254+(1-g),c]/\0<=c/\(ak g a ns)[c.toNat]? = some n/\n∉ak g ns a/\g'=1-g)):=by
 have d:n∈ak g ns a\/n∈ak g a ns:=by
  rcases two with rfl|rfl
  ·exact h
  ·exact h.symm
 unfold em;dsimp only;cases e:b9 (ak g ns a) n with
 | some i=>exact⟨_,_,rfl,two,.inl ⟨(i:Int),rfl,by lia,by simpa using (me e).1,rfl⟩⟩
 | none =>
  dsimp only;have j:=h9.mp e;rcases d with d|d
  ·exact ZR d j
  ·obtain⟨i,f,_⟩:=md d;rw[f];exact⟨_,_,rfl,two.flip,.inr ⟨(i:Int),rfl,by lia,by simpa using (me f).1,j,rfl⟩⟩
def Ci{f:Fp}{ns a:e7}{g n:Int}{r:e7}{g':Int}(e:em (ak g ns a) (ak g a ns) g (.int n)=some (r,g')):cv (.sh f ns a) g n=(r,g'):=by
 show (em (ak g ns a) (ak g a ns) g (.int n)).getD ([],g)=_;rw[e];rfl
def iy:PyData.strOk "sign" = true:=by decide +kernel
def rq:PyData.strOk "more" = true:=by decide +kernel
def rp:PyData.strOk "none" = true:=by decide +kernel
def di{x:Str}(h:PyData.strOk x=true):SeqAt.shaped (.str x)=true:=by
 simpa [SeqAt.shaped,PyData.canLay0,PyData.depth] using h
def Ct:Sp:=λ_ _ _ _=>False
inductive Lk where
 | sg (n g:Int)
 | mo
 | no
def xz(g:Int):Lk->List V
 | .sg n g'=>[.str "sign",.int n,.int g']
 | .mo=>[.str "more",.non,.int g]
 | .no=>[.str "none",.non,.int g]
open Classical in
noncomputable def bP:Kt->Int->e7->Lk
 | .ld,g,r=>if i7 r then .sg (ic r) g else if qz r then .mo else .no
 | .pr h,g,r=>match gx h r with
  | some n=>.sg n g
  | none=>if kW h r=none then .no else .mo
 | .sh _ ns ms,g,r=>match d8 (ak g ns ms) (ak g ms ns) g r with
  | some (n,g')=>.sg n g'
  | none=>if gN (ak g ns ms) (ak g ms ns) g r=true then .mo else .no
 | .tb _ es,g,r=>match es.find? λe=>decide (e.2=r) with
  | some e=>.sg e.1 g
  | none=>if lB es r then .mo else .no
def Dm:Kt->Int->e7->Prop
 | .ld,_,r=>aW r/\r.length<=9
 | .pr _,_,r=>aW r/\r.length<=9
 | .sh _ _ _,g,r=>ue g r
 | .tb _ _,_,r=>aW r
def mQ(t:Adr):Sp:=λvs H Q _=>∃(o q:Addr) (D:Kt) (g:Int) (r:e7),vs=[.ref o,.ref q,.int g]/\TN t H o D/\bO D g/\H q=some (.lst (r.map V.int))/\Dm D g r/\∀p H',af H H'->H' p=some (.tup (xz g (bP D g r)))->Q (.ref p) H'
def rA (T:Txt w K mg t):bo P w K mg base bK 7 t.i5 t.kX ["self", "begun", "page"] (mQ t):=by
 refine T.Vx.okQ CY (λvs H Q E h=>by obtain⟨o,q,D,g,r,rfl,_⟩:=h;rfl) λ_ _ _ _ H vs Q E v h=>?_;obtain⟨o,q,D,g,r,rfl,tn,pg,hq,C,k⟩:=h;have Y:=v.units;refine⟨_,(ai (aL (i:=3) CY.nd Z (.inl Z) (cM (cE (QF (K:=K) T) v (aa 0) (ad (aa 1) (ad (aa 2) ae))) (cM (cE (Fq (K:=K) T) v (aa 0) (ad (aa 1) (ad (aa 2) ae))) (cM (cE (Fj (K:=K) T) v (aa 0) (ad (aa 1) (ad (aa 2) ae))) (cE (Qp (K:=K) T) v (aa 0) (ad (aa 1) (ad (aa 2) ae)))))))
  (ai (aI (aA pq (aa 3) bY (aH _)) (aj (am (bF (ad cj (ad (au (Wv K) (aa 3) ah (λ_ _=>rfl)) (ad (au (Wv K) (aa 3) ah (λ_ _=>rfl)) ae)))))) aK)
  (ai (aI (aA jW (cM (cE (Fy (K:=K) T) v (aa 0) (ad (aa 1) (ad (aa 2) ae))) (cM (cE (Fv (K:=K) T) v (aa 0) (ad (aa 1) (ad (aa 2) ae))) (cM (cE (Fo (K:=K) T) v (aa 0) (ad (aa 1) (ad (aa 2) ae))) (cE (Fi (K:=K) T) v (aa 0) (ad (aa 1) (ad (aa 2) ae)))))) bY (aH _)) (aj (am (bF (ad cj (ad bY (ad (aa 2) ae)))))) aK)
  (aj (am (bF (ad cj (ad bY (ad (aa 2) ae))))))))),?_⟩
 cases D with
 | ld =>
  obtain rfl:g=0:=pg;obtain⟨dx,F⟩:=id tn;have S:r.length<=1000:=by have:=C.2;lia
  dsimp only [bP]at k;refine .inl ⟨o,dx,_,Z,F,Z,?_⟩;refine⟨o,q,_,Z,.of hq,S,λW p x s=>?_,λnw x s1=>?_⟩
  ·rw[ZQ W]at k;refine aN (.inr s.tup) (aD (j:=0) Z) ?_;refine aN (.inr s.tup) (aD (j:=1) Z) ?_;exact⟨sz Z,λm c b=>k m c (s.sm.trans b.sm) b.at_⟩
  ·rw[ZP nw]at k;refine .inl ⟨o,dx,_,Z,s1 _ _ F,Z,?_⟩;refine⟨o,q,_,Z,.of (s1 _ _ hq),S,λU m c b=>?_,λV c B=>?_⟩
   ·rw[ZQ U]at k;exact⟨sz Z,λd l a=>k d l (s1.trans (b.sm.trans a.sm)) a.at_⟩
   ·rw[ZP V]at k;exact⟨sz Z,λd l a=>k d l (s1.trans (B.trans a.sm)) a.at_⟩
 | pr h =>
  obtain rfl:g=0:=pg;have po:Po t H o h:=tn;obtain⟨dx,F⟩:=id po;have l9:=C.2;dsimp only [bP]at k;refine .inr (.inl ⟨o,dx,_,Z,F,Z,?_⟩);refine⟨o,q,h,_,rfl,po,.of hq,C.1,by lia,λn' L p x s=>?_,λL x s1=>?_⟩
  ·rw[L]at k;refine aN (.inr s.tup) (aD (j:=0) Z) ?_;refine aN (.inr s.tup) (aD (j:=1) Z) ?_;exact⟨sz Z,λm c b=>k m c (s.sm.trans b.sm) b.at_⟩
  ·rw[L]at k;dsimp only at k;refine .inr (.inl ⟨o,dx,_,Z,s1 _ _ F,Z,?_⟩);refine⟨o,q,h,_,rfl,po.mono s1,.of (s1 _ _ hq),C.1,by lia,λf u m c b=>?_,λu c B=>?_⟩
   ·rw[ZP (by rw[u];intro z;cases z)]at k;exact⟨sz Z,λd l a=>k d l (s1.trans (b.sm.trans a.sm)) a.at_⟩
   ·rw[ZQ u]at k;exact⟨sz Z,λd l a=>k d l (s1.trans (B.trans a.sm)) a.at_⟩
 | sh f ns ms =>
  have two:cT g:=pg;have J:Tg t H o f ns ms:=tn;dsimp only [bP]at k;refine .inr (.inr (.inl ⟨o,f.dx,_,Z,J.o,Z,?_⟩));refine⟨o,f,ns,ms,q,_,g,Z,two,J,hq,C,λhw=>?_,λn g' hw p x s=>?_⟩
  ·rw[hw]at k;dsimp only at k;refine .inr (.inr (.inl ⟨o,f.dx,_,Z,J.o,Z,?_⟩));refine⟨o,f,ns,ms,q,_,g,Z,two,J,hq,C,λM x s1=>?_,λM p1 r2 x s1 _ _=>?_⟩
   ·rw[ZP (by rw[M];decide)]at k;exact⟨sz Z,λm c b=>k m c (s1.trans b.sm) b.at_⟩
   ·rw[ZQ M]at k;exact⟨sz Z,λm c b=>k m c (s1.trans b.sm) b.at_⟩
  ·rw[hw]at k;refine aN (.inr s.tup) (aD (j:=0) Z) ?_;refine aN (.inr s.tup) (aD (j:=1) Z) ?_;exact⟨sz Z,λm c b=>k m c (s.sm.trans b.sm) b.at_⟩
 | tb f es =>
  obtain rfl:g=0:=pg;obtain⟨G,ok⟩:=id tn;dsimp only [bP]at k;refine .inr (.inr (.inr ⟨o,f.dx,_,Z,G.o,Z,?_⟩));refine⟨o,f,es,q,_,0,Z,G,ok,hq,λO x s1=>?_,λe I y p x s1 R=>?_⟩
  ·rw[show (es.find? λe=>decide (e.2=r))=none from XW.mpr λe I=>by simpa using O e I]at k;dsimp only at k;refine .inr (.inr (.inr ⟨o,f.dx,_,Z,(G.mono s1).o,Z,?_⟩));refine⟨o,f,es,q,_,0,Z,G.mono s1,s1 _ _ hq,λrt m _ c B _ _=>?_,λN c B=>?_⟩
   ·rw[ZQ rt]at k;exact⟨sz Z,λd l a=>k d l (s1.trans (B.trans a.sm)) a.at_⟩
   ·rw[ZP N]at k;exact⟨sz Z,λd l a=>k d l (s1.trans (B.trans a.sm)) a.at_⟩
  ·have u:(es.find? λe=>decide (e.2=r))=some e:=by
    cases u:es.find? λe=>decide (e.2=r) with
    | none=>exact ZR (ZT y) (XW.mp u e I)
    | some e' =>
     have h':e'.2=r:=by simpa using YE u
     rcases ok.two (Za u) I with z|z
     ·rw[z]
     ·unfold gP de at z;rw[h',y]at z;simp at z
   rw[u]at k;refine aN (.inr (.of R)) (aD (j:=0) Z) ?_;refine aN (.inr (.of R)) (aD (j:=1) Z) ?_;exact⟨sz Z,λd l a=>k d l (s1.trans a.sm) a.at_⟩
def QH (T:Txt w K mg t):eV P w K mg base t.fP "look" 7 t.i5 t.kX ["self", "begun", "page"] [] (mQ t):=⟨T.qd,T.mt_LeadTongue_look,⟨_,T.tz,.nil⟩,rA T⟩
def QD (T:Txt w K mg t):eV P w K mg base t.cP "look" 7 t.i5 t.kX ["self", "begun", "page"] [] (mQ t):=⟨T.iE,T.mt_PairTongue_look,⟨_,T.tz,.nil⟩,rA T⟩
def Qs (T:Txt w K mg t):eV P w K mg base t.bX "look" 7 t.i5 t.kX ["self", "begun", "page"] [] (mQ t):=⟨T.dq,T.mt_ShiftTongue_look,⟨_,T.tz,.nil⟩,rA T⟩
def Qq (T:Txt w K mg t):eV P w K mg base t.ce "look" 7 t.i5 t.kX ["self", "begun", "page"] [] (mQ t):=⟨T.fj,T.mt_TableTongue_look,⟨_,T.tz,.nil⟩,rA T⟩
def jg(u:Int):Sp:=λvs H Q _=>∃o:V,vs=[o]/\Q (.int u) H
def xj (T:Txt w K mg t):bo P w K mg base bK 1 t.j8 t.mw ["self"] (jg 1):=by
 refine T.Vw.okQ K4 (λvs H Q E h=>by obtain⟨o,rfl,_⟩:=h;rfl) λ_ _ _ _ H vs Q E a h=>?_;obtain⟨o,rfl,k⟩:=h;exact⟨_,(aj (am ah)),k⟩
def Fw (T:Txt w K mg t):bB P w K mg base t.fP "unit" 1 t.j8 t.mw ["self"] (jg 1):=⟨T.qd,T.mt_LeadTongue_unit,T.Ah,xj T⟩
def Fk (T:Txt w K mg t):bB P w K mg base t.bX "unit" 1 t.j8 t.mw ["self"] (jg 1):=⟨T.dq,T.mt_ShiftTongue_unit,T.Ah,xj T⟩
def Fg (T:Txt w K mg t):bB P w K mg base t.ce "unit" 1 t.j8 t.mw ["self"] (jg 1):=⟨T.fj,T.mt_TableTongue_unit,T.Ah,xj T⟩
def Fr (T:Txt w K mg t):bB P w K mg base t.cP "unit" 1 t.Bn t.zi ["self"] (jg 2):=by
 refine⟨T.iE,T.om,T.U6,T.VZ.okQ Lp (λvs H Q E h=>by obtain⟨o,rfl,_⟩:=h;rfl) λ_ _ _ _ H vs Q E a h=>?_⟩;obtain⟨o,rfl,k⟩:=h;exact⟨_,(aj (am ah)),k⟩
def dM:Kt->Prop
 | .sh _ ns ms=>eS ns/\eS ms
 | .tb _ es=>Es es
 | _=>True
def TN.koS{H:Hp}{o:Addr}{D:Kt}(h:TN t H o D):dM D:=by
 cases D with
 | sh f ns ms=>exact⟨Tg.k0 h,Tg.k1 h⟩
 | tb f es=>exact h.2
 | _=>exact trivial
def dM.kok{D:Kt}(h:dM D):uk D:=by
 cases D with
 | tb f es=>exact h
 | _=>exact trivial
def Pn{D:Kt}{n:Int}(ok:dM D)(h:eU D n):Sg n:=by
 cases D with
 | ld=>exact h
 | pr b=>exact h
 | sh f ns ms=>exact h.elim (ok.1.1 n) (ok.2.1 n)
 | tb f es =>
  obtain⟨e,a,rfl⟩:=h;exact (Es.sg ok e a).1
def EQ{P:e7}{n:Int}{i:Nat}(nd:P.Nodup)(h:P[i]? = some n):b9 P n=some i:=by
 obtain⟨j,hj,_⟩:=md (W8 h);obtain⟨f,d⟩:=me hj;rcases Y9 i j with c|c|c
 ·exact ZR h (d i c)
 ·rw[c];exact hj
 ·obtain⟨e,b⟩:=WF.mp f;obtain⟨g,a⟩:=WF.mp h;exact ZR (b.trans a.symm) (XX.mp nd j i e g c)
def Et{D:Kt}{g n g':Int}{r:e7}(ok:dM D)(pg:bO D g)(k:Dm D g r)(h:bP D g r=.sg n g'):eU D n/\cv D g n=(r,g')/\bO D g':=by
 cases D with
 | ld =>
  dsimp only [bP]at h;by_cases c:i7 r
  ·rw[ZQ c]at h;cases h;obtain⟨a,b⟩:=Iu c λx hx=>(k.1 x hx).1;refine⟨a,?_,pg⟩;show (row (ic r),g)=_;rw[b]
  ·rw[ZP c]at h
   split at h<;>cases h
 | pr b =>
  dsimp only [bP]at h;cases e:gx b r with
  | some m =>
   rw[e]at h;cases h;obtain⟨a,j⟩:=Iw b k.1 e;refine⟨a,?_,pg⟩;show (fF b n,g)=_;rw[j]
  | none =>
   rw[e]at h;dsimp only at h
   split at h<;>cases h
 | sh f ns ms =>
  dsimp only [bP]at h;have two:cT g:=pg;obtain⟨okP,okO⟩:=ok;have oP:=qQ (g:=g) okP okO;have oO:=qQ (g:=g) okO okP;cases e:d8 (ak g ns ms) (ak g ms ns) g r with
  | none =>
   rw[e]at h;dsimp only at h
   split at h<;>cases h
  | some z =>
   rw[e]at h;obtain⟨m,u⟩:=z;cases h;have i:∀ {x:Int},x∈ak g ns ms\/x∈ak g ms ns->x∈ns\/x∈ms:=λ{x} hx=>by
    rcases two with rfl|rfl
    ·exact hx
    ·exact hx.symm
   rcases k with ⟨b,rfl,b0⟩|⟨c,rfl,c0⟩
   ·have e:((ak g ns ms)[b.toNat]?.map λn=>(n,g))=some (n,g'):=e;obtain⟨m,d,j⟩:=Xq.mp e;cases j;refine⟨i (.inl (W8 d)),?_,pg⟩;show (em (ak g ns ms) (ak g ms ns) g (.int n)).getD _=_;unfold em;dsimp only;rw[EQ oP.2.1 d];show (([(b.toNat:Int)],g):e7 × Int)=_;rw[ZA b0]
   ·have e:(match (ak g ms ns)[c.toNat]? with|some n=>if n∈ak g ns ms then none else some (n,1-g)|none=>none)=some (n,g'):=e;cases d:(ak g ms ns)[c.toNat]? with
    | none=>rw[d]at e;cases e
    | some m =>
     rw[d]at e;dsimp only at e;by_cases hp:m∈ak g ns ms
     ·rw[ZQ hp]at e;cases e
     ·rw[ZP hp]at e;cases e;refine⟨i (.inr (W8 d)),?_,two.flip⟩;show (em (ak g ns ms) (ak g ms ns) g (.int n)).getD _=_;unfold em;dsimp only;rw[h9.mpr hp];dsimp only;rw[EQ oO.2.1 d];show (([254+(1-g),(c.toNat:Int)],1-g):e7 × Int)=_;rw[ZA c0]
 | tb f es =>
  dsimp only [bP]at h;cases e:es.find? λe=>decide (e.2=r) with
  | none =>
   rw[e]at h;dsimp only at h
   split at h<;>cases h
  | some x =>
   rw[e]at h;cases h;have hx:=Za e;have q:x.2=r:=by simpa using YE e
   refine⟨⟨x,hx,Z⟩,?_,pg⟩;obtain⟨y,s,l,p⟩:=kU (es:=es) (n:=x.1) ⟨x,hx,rfl⟩;have o:y=x:=by
    rcases Es.two ok s hx with z|z
    ·exact z
    ·unfold gP at z;rw[ZT l]at z;cases z
   show (Option.map _ _).getD _=_;rw[p,o,<- q]
   rfl
def df:Kt->Int->e7->Prop
 | .ld,_,r=>aW r/\r.length<=4
 | .pr _,_,r=>aW r/\r.length<=3
 | .sh _ _ _,g,r=>r=[]\/r=[254+(1-g)]
 | .tb _ _,_,r=>aW r/\r.length<=6
def aO:Kt->Nat
 | .pr _=>2
 | _=>1
def df.nil(D:Kt)(g:Int):df D g []:=by
 cases D with
 | ld=>exact⟨(λ_ h=>nomatch h),WT _⟩
 | pr b=>exact⟨(λ_ h=>nomatch h),WT _⟩
 | sh f ns ms=>exact .inl rfl
 | tb f es=>exact⟨(λ_ h=>nomatch h),WT _⟩
def df.byts{D:Kt}{g:Int}{r:e7}(pg:bO D g)(h:df D g r):aW r/\r.length<=6:=by
 cases D with
 | ld=>exact⟨h.1,by have:=h.2;lia⟩
 | pr b=>exact⟨h.1,by have:=h.2;lia⟩
 | sh f ns ms =>
  have two:cT g:=pg;rcases h with rfl|rfl
  ·exact⟨(λ_ h=>nomatch h),WT _⟩
  ·refine⟨λx hx=>?_,by show 1<=6;decide⟩;rw[WK.mp hx];rcases two with rfl|rfl<;>decide
 | tb f es=>exact h
def mD{r:e7}{b:Int}(h:aW r)(a:0<=b)(c:b<=255):aW (r++[b]):=λx hx=>by
 rcases WQ.mp hx with z|z
 ·exact h x z
 ·rw[WK.mp z];exact⟨a,c⟩
def zw{D:Kt}{g:Int}{r:e7}{b:Int}(h:df D g r)(a:0<=b)(d:b<=255):Dm D g (r++[b]):=by
 cases D with
 | ld=>exact⟨mD h.1 a d,by have:=h.2;rw[WC];show _+1<=_;lia⟩
 | pr c=>exact⟨mD h.1 a d,by have:=h.2;rw[WC];show _+1<=_;lia⟩
 | sh f ns ms =>
  rcases h with rfl|rfl
  ·exact .inl ⟨b,Z,a⟩
  ·exact .inr ⟨b,Z,a⟩
 | tb f es=>exact mD h.1 a d
def zx{D:Kt}{g:Int}{r:e7}{b:Int}(h:df D g r)(a:0<=b)(d:b<=255):Dm D g ((r++[b]).drop ((r++[b]).length-aO D)):=by
 have one:(r++[b]).drop ((r++[b]).length-1)=[b]:=by rw[WC];simp
 have e:aW [b]:=λx hx=>by rw[WK.mp hx];exact⟨a,d⟩
 cases D with
 | ld=>show aW _/\_;rw[show aO .ld=1 from rfl,one];exact⟨e,by show 1<=9;decide⟩
 | pr c=>exact⟨λx hx=>mD h.1 a d x (Y3 hx),by have:=h.2;rw[Xr,WC];show _+1-_<=_;lia⟩
 | sh f ns ms=>show ue _ _;rw[show aO (.sh f ns ms)=1 from rfl,one];exact .inl ⟨b,Z,a⟩
 | tb f es=>show aW _;rw[show aO (.tb f es)=1 from rfl,one];exact e
def Sm(h:Bool){r:e7}(l:r.length=4)(e:gx h r=none):kW h r=none:=by
 unfold kW;refine XW.mpr λf a=>?_;rw[Bool.not_eq_true,Option.isSome_eq_false_iff,Option.isNone_iff_eq_none];by_cases c:f=[]
 ·rw[c,WM];exact e
 ·unfold gx;have:1<=f.length:=ZB.mpr c;rw[ZP (by rw[WC,l];lia)]
def xq{D:Kt}{g:Int}{r:e7}(ok:dM D)(i:Dm D g r)(l:r.length%aO D=0)(j:r.length<=4\/∀h,D ≠ .pr h)(h:bP D g r=.mo):df D g r:=by
 cases D with
 | ld =>
  dsimp only [bP]at h;refine⟨i.1,?_⟩
  split at h
  ·cases h
  split at h
  ·rename_i k;cases r with
   | nil=>exact WT _
   | cons f r =>
    have k:lH f r:=k;have:=k.1;have:=(o5 f).2;rw[W0];lia
  ·cases h
 | pr b =>
  dsimp only [bP]at h;refine⟨i.1,?_⟩;have l:r.length%2=0:=l;cases e:gx b r with
  | some m=>rw[e]at h;cases h
  | none =>
   rw[e]at h;dsimp only at h;rcases j with j|j
   ·by_cases c:r.length=4
    ·rw[ZQ (Sm b c e)]at h;cases h
    ·lia
   ·exact ZR Z (j b)
 | sh f ns ms =>
  dsimp only [bP]at h;rcases i with ⟨b,rfl,b0⟩|⟨c,rfl,c0⟩
  ·have a:=OP (P:=ak g ns ms) (O:=ak g ms ns) (g:=g) b0;unfold kL at a;cases e:d8 (ak g ns ms) (ak g ms ns) g [b] with
   | some z=>rw[e]at h;cases h
   | none =>
    rw[e]at h a;dsimp only at h a;by_cases c:gN (ak g ns ms) (ak g ms ns) g [b]=true
    ·rw[ZQ c]at a;cases e2:(ak g ns ms)[b.toNat]? with
     | some n=>rw[e2]at a;cases a
     | none =>
      rw[e2]at a;dsimp only at a;by_cases c2:b=254+(1-g)/\i4 (ak g ms ns) (ak g ns ms)≠[]
      ·exact .inr (by rw[c2.1])
      ·rw[ZP c2]at a;cases a
    ·rw[ZP c]at h;cases h
  ·have a:=OO (P:=ak g ns ms) (O:=ak g ms ns) (g:=g) c0;unfold kL at a;cases e:d8 (ak g ns ms) (ak g ms ns) g [254+(1-g),c] with
   | some z=>rw[e]at h;cases h
   | none =>
    rw[e]at h a;dsimp only at h a;by_cases d:gN (ak g ns ms) (ak g ms ns) g [254+(1-g),c]=true
    ·rw[ZQ d]at a
     split at a<;>cases a
    ·rw[ZP d]at h;cases h
 | tb f es =>
  dsimp only [bP]at h;refine⟨i,?_⟩
  split at h
  ·cases h
  split at h
  ·rename_i rt;obtain⟨e,o,m,p,rfl⟩:=rt;have:=(Es.sg ok e o).2.2.1;rw[WO];lia
  ·cases h
inductive Ev where
 | sg (n:Int)
 | ft (p l:Nat) (k:Str) (bs:e7)
inductive Wy where
 | pl
 | se
 | pn
def Ji:Wy->e7->e7
 | .se,bs=>bs.map λb=>61184+b
 | _,_=>[]
def ko(W:Wy):Ev->e7
 | .sg n=>[n]
 | .ft _ _ _ bs=>Ji W bs
def bq(W:Wy)(es:List Ev):e7:=es.flatMap (ko W)
def aU:List Ev->List (Nat × Nat × Str)
 | []=>[]
 | .sg _::es=>aU es
 | .ft p l k _::es=>(p,l,k)::aU es
theorem gl:∀xs ys:List Ev,aU (xs++ys)=aU xs++aU ys
 | [],_=>rfl
 | .sg n::xs,ys=>gl xs ys
 | .ft p l k bs::xs,ys=>by show (p,l,k)::aU (xs++ys)=_;rw[gl xs ys];rfl
def qJ(W:Wy)(xs ys:List Ev):bq W (xs++ys)=bq W xs++bq W ys:=YF ..
noncomputable def cI(D:Kt)(g:Int)(c:Nat)(r:e7):Int × e7 × List Ev:=match bP D g r with
 | .sg n g'=>(g',[],[.sg n])
 | .mo=>(g,r,[])
 | .no=>(g,[],[.ft (c-r.length) r.length "strange" r])
noncomputable def iY(D:Kt)(g:Int)(c:Nat)(r:e7):Int × e7 × List Ev:=match bP D g r with
 | .sg n g'=>(g',[],[.sg n])
 | .mo=>(g,r,[])
 | .no=>((cI D g c (r.drop (r.length-aO D))).1,(cI D g c (r.drop (r.length-aO D))).2.1,.ft (c-r.length) (r.length-aO D) "broken" (r.take (r.length-aO D))::(cI D g c (r.drop (r.length-aO D))).2.2)
noncomputable def cu(D:Kt)(g:Int)(r:e7)(c:Nat)(b:Int):Int × e7 × List Ev :=
 if (r++[b]).length%aO D=0 then (if (r++[b]).length=aO D then cI D g c (r++[b]) else iY D g c (r++[b])) else (g,r++[b],[])
noncomputable def run(D:Kt):Int->e7->Nat->e7->Int × e7 × List Ev
 | g,r,_,[]=>(g,r,[])
 | g,r,c,b::bs=>((run D (cu D g r (c+1) b).1 (cu D g r (c+1) b).2.1 (c+1) bs).1,(run D (cu D g r (c+1) b).1 (cu D g r (c+1) b).2.1 (c+1) bs).2.1,(cu D g r (c+1) b).2.2++(run D (cu D g r (c+1) b).1 (cu D g r (c+1) b).2.1 (c+1) bs).2.2)
theorem Di(D:Kt)(b:Int):∀(bs:e7) (g:Int) (r:e7) (c:Nat),run D g r c (bs++[b])=((cu D (run D g r c bs).1 (run D g r c bs).2.1 (c+bs.length+1) b).1,(cu D (run D g r c bs).1 (run D g r c bs).2.1 (c+bs.length+1) b).2.1,(run D g r c bs).2.2++(cu D (run D g r c bs).1 (run D g r c bs).2.1 (c+bs.length+1) b).2.2)
 | [],g,r,c=>by simp[run]
 | a::bs,g,r,c=>by
  show run D g r c (a::(bs++[b]))=_;simp only [run];rw[Di D b bs];simp[Nat.add_assoc,YQ 1,Nat.add_left_comm]
theorem Dj(D:Kt):∀(bs b:e7) (g:Int) (r:e7) (c:Nat),run D g r c (bs++b)=((run D (run D g r c bs).1 (run D g r c bs).2.1 (c+bs.length) b).1,(run D (run D g r c bs).1 (run D g r c bs).2.1 (c+bs.length) b).2.1,(run D g r c bs).2.2++(run D (run D g r c bs).1 (run D g r c bs).2.1 (c+bs.length) b).2.2)
 | [],b,g,r,c=>by simp[run]
 | a::bs,b,g,r,c=>by
  show run D g r c (a::(bs++b))=_;simp only [run];rw[Dj D bs];simp[Nat.add_assoc,YQ 1]
def ug(D:Kt):Ev->Prop
 | .sg n=>eU D n
 | .ft _ l _ bs=>aW bs/\bs.length=l
def cV(D:Kt)(g x:Int):e7 × Int:=if 61184<=x/\x<=61439 then ([x-61184],g) else cv D g x
def aY(D:Kt)(g:Int)(xs:e7):e7 × Int:=xs.foldl (λa n=>(a.1++(cV D a.2 n).1,(cV D a.2 n).2)) ([],g)
theorem uy(D:Kt):∀(b:e7) (row:e7) (g:Int),b.foldl (λa n=>(a.1++(cV D a.2 n).1,(cV D a.2 n).2)) (row,g)=(row++(aY D g b).1,(aY D g b).2)
 | [],row,g=>by simp[aY]
 | n::b,row,g=>by
  rw[Yd,uy D b];have e:aY D g (n::b)=((cV D g n).1++(aY D (cV D g n).2 b).1,(aY D (cV D g n).2 b).2):=by
   show List.foldl _ _ (n::b)=_;rw[Yd,uy D b];simp
  rw[e,Xe]
def km(D:Kt)(g:Int)(xs ys:e7):aY D g (xs++ys)=((aY D g xs).1++(aY D (aY D g xs).2 ys).1,(aY D (aY D g xs).2 ys).2):=by
 show List.foldl _ _ (xs++ys)=_;rw[List.foldl_append];exact uy D ys _ _
def qC(D:Kt)(g n:Int):aY D g [n]=cV D g n:=by simp[aY]
theorem qD(D:Kt)(g:Int):∀bs:e7,aW bs->aY D g (bs.map λb=>61184+b)=(bs,g)
 | [],_=>rfl
 | b::bs,h=>by
  have hb:=h b (W3 ..);have e:(b::bs).map (λb=>61184+b)=[61184+b]++bs.map λb=>61184+b:=rfl;rw[e,km,qC];unfold cV;rw[ZQ (by lia),qD D g bs λx hx=>h x (W4 _ hx)];simp;lia
def JK{D:Kt}{g n:Int}(h:Sg n):cV D g n=cv D g n:=by
 unfold cV;rw[ZP (λz=>h.2.2.2 z)]
def BB(D:Kt)(g:Int)(r:e7)(z:Int × e7 × List Ev):Prop:=bO D z.1/\df D z.1 z.2.1/\(aY D g (bq .se z.2.2)).1++z.2.1=r/\(aY D g (bq .se z.2.2)).2=z.1/\(∀e∈z.2.2,ug D e)/\z.2.2.length<=2
def FA{D:Kt}{g n g':Int}{r:e7}(ok:dM D)(pg:bO D g)(d:Dm D g r)(h:bP D g r=.sg n g'):BB D g r (g',[],[.sg n]):=by
 obtain⟨a,b,c⟩:=Et ok pg d h;have e:aY D g (bq .se [.sg n])=(r,g'):=by
  show aY D g [n]=_;rw[qC,JK (Pn ok a),b]
 refine⟨c,df.nil _ _,by rw[e,WM],by rw[e],λx hx=>?_,by show 1<=2;decide⟩;rw[WK.mp hx];exact a
def FB{D:Kt}{g:Int}{r:e7}(c:Nat)(ok:dM D)(pg:bO D g)(f:Dm D g r)(a:aW r)(i:r.length%aO D=0)(j:r.length<=4\/∀h,D ≠ .pr h):BB D g r (cI D g c r)/\(cI D g c r).2.2.length<=1:=by
 unfold cI;cases e:bP D g r with
 | sg n g'=>exact⟨FA ok pg f e,by show 1<=1;decide⟩
 | mo=>exact⟨⟨pg,xq ok f i j e,rfl,rfl,(λ_ h=>nomatch h),by show 0<=2;decide⟩,by show 0<=1;decide⟩
 | no =>
  have d:aY D g (bq .se [.ft (c-r.length) r.length "strange" r])=(r,g):=by
   show aY D g ((r.map λb=>61184+b)++[])=_;rw[WM,qD D g r a]
  refine⟨⟨pg,df.nil _ _,by rw[d,WM],by rw[d],λx hx=>?_,by show 1<=2;decide⟩,by show 1<=1;decide⟩;rw[WK.mp hx];exact⟨a,Z⟩
def xP{D:Kt}{g:Int}{r:e7}(c:Nat){b:Int}(ok:dM D)(pg:bO D g)(i:df D g r)(m:0<=b)(o:b<=255):BB D g (r++[b]) (cu D g r c b):=by
 obtain⟨q,N⟩:=i.byts pg;have a:=mD q m o;have j:=zw i m o;have s:(r++[b]).length<=4\/∀h,D ≠ .pr h:=by
  cases D with
  | pr h=>exact .inl (by rw[WC];have:=i.2;show _+1<=4;lia)
  | _=>exact .inr (λh z=>by cases z)
 unfold cu;by_cases d:(r++[b]).length%aO D=0
 ·rw[ZQ d];by_cases one:(r++[b]).length=aO D
  ·rw[ZQ one];exact (FB c ok pg j a d s).1
  ·rw[ZP one];unfold iY;cases e:bP D g (r++[b]) with
   | sg n g'=>exact FA ok pg j e
   | mo=>exact⟨pg,xq ok j d s e,rfl,rfl,(λ_ h=>nomatch h),by show 0<=2;decide⟩
   | no =>
    have M:1<=aO D/\aO D<=2:=by cases D<;>simp[aO]
    have B:(r++[b]).length=r.length+1:=by rw[WC];rfl
    have I:aO D<=(r++[b]).length:=by
     rcases Zb (r++[b]).length (aO D) with z|z
     ·rw[Zc z]at d;lia
     ·exact z
    have ld:((r++[b]).drop ((r++[b]).length-aO D)).length=aO D:=by rw[Xr];lia
    obtain⟨⟨F,y,v,C,G,J⟩,L⟩:=FB (r:=(r++[b]).drop ((r++[b]).length-aO D)) c ok pg (zx i m o) (λx hx=>a x (Y3 hx)) (by rw[ld,Nat.mod_self]) (.inl (by rw[ld];lia));have f:aW ((r++[b]).take ((r++[b]).length-aO D)):=λx hx=>a x (XV hx);have u:∀(p l:Nat) (k:Str) (bs:e7) (es:List Ev),aW bs->aY D g (bq .se (.ft p l k bs::es))=(bs++(aY D g (bq .se es)).1,(aY D g (bq .se es)).2):=λp l k bs es hb=>by
     show aY D g ((bs.map λb=>61184+b)++bq .se es)=_;rw[km,qD D g bs hb]
    refine⟨F,y,?_,?_,λx hx=>?_,?_⟩
    ·dsimp only;rw[u _ _ _ _ _ f,Xe,v,Xm]
    ·dsimp only;rw[u _ _ _ _ _ f,C]
    ·rcases WU.mp hx with rfl|hx
     ·exact⟨f,by rw[WO];lia⟩
     ·exact G x hx
    ·dsimp only;rw[W0];lia
 ·rw[ZP d];refine⟨pg,?_,rfl,rfl,(λ_ h=>nomatch h),by show 0<=2;decide⟩;have B:(r++[b]).length=r.length+1:=by rw[WC];rfl
  cases D with
  | pr h =>
   have d:¬(r++[b]).length%2=0:=d;refine⟨a,?_⟩;have:=i.2;dsimp only;lia
  | _=>exact ZR (YG _) d
theorem rS{D:Kt}(ok:dM D):∀(bs:e7) (g:Int) (r:e7) (c:Nat),bO D g->df D g r->aW bs->bO D (run D g r c bs).1/\df D (run D g r c bs).1 (run D g r c bs).2.1/\(aY D g (bq .se (run D g r c bs).2.2)).1++(run D g r c bs).2.1=r++bs/\(aY D g (bq .se (run D g r c bs).2.2)).2=(run D g r c bs).1/\(∀e∈(run D g r c bs).2.2,ug D e)/\(run D g r c bs).2.2.length<=2*bs.length
 | [],g,r,c,pg,bg,_=>⟨pg,bg,by simp[run,bq,aY],rfl,(λ_ h=>nomatch h),WB _⟩
 | b::bs,g,r,c,pg,bg,hb=>by
  have h:=hb b (W3 ..);obtain⟨j,d,i,a,k,l⟩:=xP (c+1) ok pg bg h.1 h.2;obtain⟨k1,k2,k3,k4,k5,k6⟩:=rS ok bs _ _ (c+1) j d λx hx=>hb x (W4 _ hx);simp only [run];refine⟨k1,k2,?_,?_,λe f=>?_,?_⟩
  ·rw[qJ,km];dsimp only;rw[a,Xe,k3,<- Xe,i,Xe]
   rfl
  ·rw[qJ,km];dsimp only;rw[a,k4]
  ·rcases WQ.mp f with z|z
   ·exact k e z
   ·exact k5 e z
  ·rw[WC,W0];lia
def vO:Option Int->V
 | none=>.non
 | some n=>.int n
def oB:Wy->e7->List (Option Int)
 | .pl,_=>[]
 | .se,bs=>bs.map λb=>some (61184+b)
 | .pn,_=>[none]
def o1(W:Wy):Ev->List (Option Int)
 | .sg n=>[some n]
 | .ft _ _ _ bs=>oB W bs
def bS(W:Wy)(es:List Ev):List (Option Int):=es.flatMap (o1 W)
def BT(W:Wy)(xs ys:List Ev):bS W (xs++ys)=bS W xs++bS W ys:=YF ..
def iD:List Ev->List Ev
 | []=>[]
 | .sg n::es=>.sg n::iD es
 | .ft p l k bs::_=>[.ft p l k bs]
def bi:Wy->List Ev->List Ev
 | .pl,es=>iD es
 | _,es=>es
def bQ:Wy->List Ev->Bool
 | .pl,es=>!(aU es).isEmpty
 | _,_=>false
def DO(W:Wy)(xs ys:List Ev):bQ W (xs++ys)=(bQ W xs || bQ W ys):=by
 cases W with
 | pl=>show (!(aU (xs++ys)).isEmpty)=_;rw[gl];show _=(!(aU xs).isEmpty || !(aU ys).isEmpty);cases aU xs<;>cases aU ys<;>rfl
 | _=>rfl
theorem pM{W:Wy}(ys:List Ev):∀ {xs:List Ev},bQ W xs=false->bi W (xs++ys)=xs++bi W ys
 | [],_=>rfl
 | .sg n::xs,h=>by
  cases W with
  | pl=>exact congrArg (Ev.sg n :: ·) (pM (W:=.pl) ys (xs:=xs) h)
  | _=>rfl
 | .ft p l k bs::xs,h=>by
  cases W with
  | pl=>cases h
  | _=>rfl
def sV{W:Wy}{xs:List Ev}(h:bQ W xs=false):bi W xs=xs:=by
 have:=pM [] h;rw[WM,show bi W []=[] by cases W<;>rfl,WM]at this;exact this
theorem zt{W:Wy}(ys:List Ev):∀ {xs:List Ev},bQ W xs=true->bi W (xs++ys)=bi W xs
 | [],h=>by cases W<;>cases h
 | .sg n::xs,h=>by
  cases W with
  | pl=>exact congrArg (Ev.sg n :: ·) (zt (W:=.pl) ys (xs:=xs) h)
  | _=>cases h
 | .ft p l k bs::xs,h=>by
  cases W with
  | pl=>rfl
  | _=>cases h
def bN{a b:TS}{D:dZ}{σ:St}{H:Hp}(h:∀T:TS,T=b->mM a T D σ H):mM a b D σ H:=h b rfl
def b8{i:Nat}{v:V}{σ:St}{H:Hp}{Q:St->Hp->Prop}(h:Q (σ.set i (some v)) H):cO i v σ H Q:=h
def fJ{σ:St}{i:Nat}{v:V}{H:Hp}{Q:VK}(h:σ[i]? = some (some v))(q:Q v H):mV i σ H Q:=by
 unfold mV;rw[h];exact q
def Se{lo:Int}{n:Nat}{g:TG}{tb:TS}{D:dZ}{σ:St}{H:Hp}(a:Nat->St->Hp->Prop)(d:a 0 σ H)
 (hs:∀i σ H N,N=a (i+1)->i<n->a i σ H->g (.int (lo+i)) σ H λb c=>tb { D with nx:=N,ct:=N,bk:=D.nx } b c) (hd:∀σ H,a n σ H->D.nx σ H) :
 ∃W:Nat->Nat->St->Hp->Prop,(∃m,W 0 m σ H)/\∀i m σ H,W i m σ H ->
  ((ik lo n).stop i H/\D.nx σ H)\/((ik lo n).go i H/\∃N:St->Hp->Prop,(∀σ' H',N σ' H'->∃m',m'<m/\W (i+1) m' σ' H')/\∀x H',(ik lo n).yld i H x H'->g x σ H' λb c=>tb { D with nx:=N,ct:=N,bk:=D.nx } b c):=mr a d (λi σ H hx p=>hs i σ H _ rfl hx p) hd
def Sf{K:PySem.W.Frag}{a:Addr}{xs:List V}{g:TG}{tb:TS}{D:dZ}{σ:St}{H:Hp}(c:Nat->St->Hp->Prop)(h:c 0 σ H)(f:∀i σ H,i<=xs.length->c i σ H->aE K H a xs)
 (hs:∀i x p σ H b N,N=c (i+1)->xs[i]? = some x->c i σ H->bc H p (.tup [.int (i:Int),x]) b->g (.ref p) σ b λe d=>tb { D with nx:=N,ct:=N,bk:=D.nx } e d) (hd:∀σ H,c xs.length σ H->D.nx σ H) :
 ∃W:Nat->Nat->St->Hp->Prop,(∃m,W 0 m σ H)/\∀i m σ H,W i m σ H ->
  ((iF K a).stop i H/\D.nx σ H)\/((iF K a).go i H/\∃N:St->Hp->Prop,(∀σ' b,N σ' b->∃m',m'<m/\W (i+1) m' σ' b)/\∀x b,(iF K a).yld i H x b->g x σ b λe d=>tb { D with nx:=N,ct:=N,bk:=D.nx } e d):=jY c h f (λi x p σ H b hx q j=>hs i x p σ H b _ rfl hx q j) hd
def dC(c:Nat)(r:e7):List Ev:=if r=[] then [] else [.ft (c-r.length) r.length "short" r]
def uB(D:Kt):1<=aO D/\aO D<=2:=by cases D<;>simp[aO]
inductive eZ (D:Kt):Int->Nat->e7->List Ev->Prop where
 | nil (g:Int) (p:Nat):eZ D g p [] []
 | sg {g:Int} {p:Nat} {n:Int} {bs:e7} {es:List Ev} (h:eU D n) (pg:bO D g) (k:eZ D (cv D g n).2 (p+(cv D g n).1.length) bs es):eZ D g p ((cv D g n).1++bs) (.sg n::es)
 | ft {g:Int} {p:Nat} {kd:Str} {xs bs:e7} {es:List Ev} (b:aW xs) (pg:bO D g) (k:eZ D g (p+xs.length) bs es):eZ D g p (xs++bs) (.ft p xs.length kd xs::es)
noncomputable def ia(D:Kt)(g:Int)(r:e7)(c:Nat)(bs:e7):List Ev:=(run D g r c bs).2.2++dC (c+bs.length) (run D g r c bs).2.1
def So(D:Kt)(g:Int)(r:e7)(c:Nat)(b:Int)(bs:e7):ia D g r c (b::bs)=(cu D g r (c+1) b).2.2++ia D (cu D g r (c+1) b).1 (cu D g r (c+1) b).2.1 (c+1) bs:=by
 unfold ia;simp only [run];rw[Xe,W0,show c+(bs.length+1)=c+1+bs.length by lia]
noncomputable def aG(D:Kt)(bs:e7):List Ev:=ia D 0 [] 0 bs
theorem zQ{D:Kt}(ok:dM D):∀(bs:e7) (g:Int) (r:e7) (c:Nat),bO D g->df D g r->r.length<=c->aW bs->eZ D g (c-r.length) (r++bs) (ia D g r c bs)
 | [],g,r,c,pg,bg,lc,_=>by
  show eZ D g (c-r.length) (r++[]) ([]++dC (c+0) r);rw[XS,Nat.add_zero];unfold dC;by_cases z:r=[]
  ·rw[ZQ z,z];exact .nil _ _
  ·rw[ZP z];exact .ft (bg.byts pg).1 pg (.nil _ _)
 | b::bs,g,r,c,pg,bg,lc,hb=>by
  have d:=hb b (W3 ..);have q:aW bs:=λx hx=>hb x (W4 _ hx);obtain⟨_,i,_,_,_,_⟩:=xP (c+1) ok pg bg d.1 d.2;have v:=zw bg d.1 d.2;have m:=mD (bg.byts pg).1 d.1 d.2;have J:(r++[b]).length=r.length+1:=by rw[WC];rfl
  have C:=uB D;rw[So,show r++b::bs=(r++[b])++bs by rw[Xe];rfl];have ih:=λg' y=>zQ ok bs g' y (c+1);have j:∀g',bO D g'->eZ D g' (c+1) bs (ia D g' [] (c+1) bs):=λg' l=>ih g' [] l (df.nil _ _) (WT _) q;have f:∀(L:e7) n g',Dm D g L->L.length<=c+1->bP D g L=.sg n g'->eZ D g (c+1-L.length) (L++bs) (.sg n::ia D g' [] (c+1) bs):=λL n g' dL lL h=>by
   obtain⟨a,s,l⟩:=Et ok pg dL h;have k:eZ D g (c+1-L.length) ((cv D g n).1++bs) (.sg n::ia D g' [] (c+1) bs):=.sg a pg (by
    rw[s];dsimp only;rw[show c+1-L.length+L.length=c+1 by lia];exact j g' l)
   rw[s]at k;exact k
  have p:∀(L:e7) (u:Str),aW L->L.length<=c+1->eZ D g (c+1-L.length) (L++bs) (.ft (c+1-L.length) L.length u L::ia D g [] (c+1) bs):=λL u bL lL=>.ft bL pg (by rw[show c+1-L.length+L.length=c+1 by lia];exact j g pg);have stay:∀L:e7,df D g L->L.length<=c+1->eZ D g (c+1-L.length) (L++bs) (ia D g L (c+1) bs):=λL bL lL=>ih g L pg bL lL q;have one:∀L:e7,Dm D g L->aW L->L.length<=c+1->L.length%aO D=0->(L.length<=4\/∀h,D ≠ .pr h)->eZ D g (c+1-L.length) (L++bs) ((cI D g (c+1) L).2.2++ia D (cI D g (c+1) L).1 (cI D g (c+1) L).2.1 (c+1) bs):=λL dL bL lL B G=>by
   unfold cI;cases e:bP D g L with
   | sg n g'=>exact f L n g' dL lL e
   | mo=>exact stay L (xq ok dL B G e) lL
   | no=>exact p L _ bL lL
  rw[show c-r.length=c+1-(r++[b]).length by lia];unfold cu at i ⊢;by_cases dv:(r++[b]).length%aO D=0
  ·rw[ZQ dv]at i ⊢;by_cases o:(r++[b]).length=aO D
   ·rw[ZQ o];exact one _ v m (by lia) dv (.inl (by lia))
   ·rw[ZP o]at i ⊢;unfold iY at i ⊢;cases e:bP D g (r++[b]) with
    | sg n g'=>exact f _ n g' v (by lia) e
    | mo=>rw[e]at i;exact stay _ i (by lia)
    | no =>
     dsimp only;have I:aO D<=(r++[b]).length:=by
      rcases Zb (r++[b]).length (aO D) with z|z
      ·rw[Zc z]at dv;lia
      ·exact z
     obtain⟨L,eL⟩:∃L,L=(r++[b]).drop ((r++[b]).length-aO D):=⟨_,rfl⟩;obtain⟨F,eF⟩:∃F,F=(r++[b]).take ((r++[b]).length-aO D):=⟨_,rfl⟩;have lL:L.length=aO D:=by rw[eL,Xr];lia
     have lF:F.length=(r++[b]).length-aO D:=by rw[eF,WO];lia
     have eFL:F++L=r++[b]:=by rw[eF,eL,Xm]
     have dmL:Dm D g L:=by rw[eL];exact zx bg d.1 d.2
     have byL:aW L:=λx hx=>m x (by rw[<- eFL];exact W6 _ hx);rw[<- eL,<- eF,<- lF,<- eFL,Xe];refine .ft (λx hx=>m x (by rw[<- eFL];exact Xc _ hx)) pg ?_;rw[show c+1-(F++L).length+F.length=c+1-L.length by rw[WC];lia];exact one L dmL byL (by lia) (by rw[lL,Nat.mod_self]) (.inl (by lia))
  ·rw[ZP dv]at i ⊢;exact stay _ i (by lia)
def qv(D:Kt)(g:Int)(r:e7):Prop:=r=[]\/r.length%aO D≠0\/bP D g r=.mo
def EX(D:Kt)(g:Int)(c:Nat)(r:e7):qv D (cI D g c r).1 (cI D g c r).2.1:=by
 unfold cI;cases e:bP D g r with
 | mo=>exact .inr (.inr e)
 | _=>exact .inl rfl
def PF(D:Kt)(g:Int)(r:e7)(c:Nat)(b:Int):qv D (cu D g r c b).1 (cu D g r c b).2.1:=by
 unfold cu
 split
 ·split
  ·exact EX D g c _
  ·unfold iY;cases e:bP D g (r++[b]) with
   | mo=>exact .inr (.inr e)
   | sg n g'=>exact .inl rfl
   | no=>exact EX D g c _
 ·rename_i h;exact .inr (.inl h)
theorem EW(D:Kt):∀(bs:e7) (g:Int) (r:e7) (c:Nat),qv D g r->qv D (run D g r c bs).1 (run D g r c bs).2.1
 | [],_,_,_,h=>h
 | b::bs,g,r,c,_=>EW D bs _ _ (c+1) (PF D g r (c+1) b)
def Kp.free{x b:Addr}{H a:Hp}{o:HO}(k:Kp x H a)(hx:a x=some o)(n:a b=none):H b=none:=by
 cases e:H b with
 | none=>rfl
 | some u =>
  have:=k b u (λz=>by rw[z,hx]at n;cases n) e;rw[n]at this;cases this
def bR(t:Adr):Wy->Addr
 | .pl=>t.cm
 | _=>t.cQ
def lJ(y:Addr):Wy->List (Str × V)
 | .pl=>[]
 | _=>[("way",.ref y)]
abbrev fu(t:Adr)(W:Wy)(dx o b mt y:Addr)(g:Int)(c:Nat)(e:Bool):HO:=.ins (bR t W) dx (("tongue",.ref o)::("place",.int 0)::("at_page",.int g)::("begun",.ref b)::("many",.int (c:Int))::("met",.ref mt)::("ended",.bl e)::lJ y W)
def aZ(T:Txt w K mg t)(W:Wy):Cls K (bR t W):=by cases W with|pl=>exact T.dY|_=>exact T.Gv
def jh (T:Txt w K mg t) (W:Wy):NoAttr K (bR t W) "tongue":=by cases W with|pl=>exact T.jj|_=>exact T.nr
def D5 (T:Txt w K mg t) (W:Wy):NoAttr K (bR t W) "place":=by cases W with|pl=>exact T.ni|_=>exact T.ny
def lU (T:Txt w K mg t) (W:Wy):NoAttr K (bR t W) "at_page":=by cases W with|pl=>exact T.jk|_=>exact T.nH
def dW (T:Txt w K mg t) (W:Wy):NoAttr K (bR t W) "begun":=by cases W with|pl=>exact T.iV|_=>exact T.nG
def xp (T:Txt w K mg t) (W:Wy):NoAttr K (bR t W) "many":=by cases W with|pl=>exact T.nk|_=>exact T.nC
def xo (T:Txt w K mg t) (W:Wy):NoAttr K (bR t W) "met":=by cases W with|pl=>exact T.nj|_=>exact T.nB
def nh (T:Txt w K mg t) (W:Wy):NoAttr K (bR t W) "ended":=by cases W with|pl=>exact T.kH|_=>exact T.nE
def oZ(y:Addr)(W:Wy){a b c d e f g:Str × V}:(a::b::c::d::e::f::g::lJ y W).length<1000:=by cases W with|pl=>exact WE (WW 7) (by decide)|_=>exact WE (WW 8) (by decide)
def iX (y:Addr) (W:Wy) (m:Str) (h:(m == "way")=false):(lJ y W).lookup m=none:=by
 cases W with
 | pl=>rfl
 | _=>show (match m == "way" with|true=>_|false=>_)=_;rw[h];rfl
def uM(t:Adr)(W:Wy):Sp:=λvs H Q _=>∃(x dx o:Addr),vs=[.ref x,.ref o,.int 0]/\H x=some (.ins (bR t W) dx [])/\∀b mt H',H b=none->H mt=none->b≠mt->Kp x H H'->H' x=some (.ins (bR t W) dx [("tongue",.ref o),("place",.int 0),("at_page",.int 0),("begun",.ref b),("many",.int 0),("met",.ref mt),("ended",.bl false)])->H' b=some (.lst [])->H' mt=some (.lst [])->Q .non H'
def DW (T:Txt w K mg t) (W:Wy):bo P w K mg base bK 1 t.mF t.mx ["self", "tongue", "place"] (uM t W):=by
 refine T.Ig.okQ Li (λvs H Q E h=>by obtain⟨x,dx,o,rfl,_⟩:=h;rfl) λ_ _ _ _ H vs Q E n h=>?_;obtain⟨x,dx,o,rfl,hx,k⟩:=h;refine⟨_,(ai (c8 (K:=K) Z (aa 0) (aa 1))
  (ai (c8 (K:=K) rfl (aa 0) (aa 2))
  (ai (c8 (K:=K) rfl (aa 0) ah)
  (ai (c8 (K:=K) rfl (aa 0) (aT ae))
  (ai (c8 (K:=K) rfl (aa 0) ah)
  (ai (c8 (K:=K) rfl (aa 0) (aT ae))
  (aj (c8 (K:=K) rfl (aa 0) ix)))))))),?_⟩
 refine cL x _ dx _ rfl hx (aZ T W) (jh T W) (WE YB (by decide)) ?_;refine cL x _ dx _ rfl aF (aZ T W) (D5 T W) (WE (WW 1) (by decide)) ?_;refine cL x _ dx _ rfl aF (aZ T W) (lU T W) (WE (WW 2) (by decide)) ?_;refine⟨sz Z,λb l d=>?_⟩;have f:H b=none:=Kp.free (x:=x) (Kp.trans Kp.upd (Kp.trans Kp.upd Kp.upd)) aF d.nw;have k1:Kp x H l:=Kp.trans (Kp.trans Kp.upd (Kp.trans Kp.upd Kp.upd)) (Kp.of d.sm);have a:b≠x:=λz=>by rw[z,hx]at f;cases f
 have m:=d.sm x _ aF;refine cL x _ dx _ rfl m (aZ T W) (dW T W) (WE (WW 3) (by decide)) ?_;refine cL x _ dx _ rfl aF (aZ T W) (xp T W) (WE (WW 4) (by decide)) ?_;refine⟨sz Z,λmt g c=>?_⟩;have nm:H mt=none:=Kp.free (x:=x) (k1.trans (Kp.trans Kp.upd Kp.upd)) aF c.nw;have k3:Kp x H g:=Kp.trans (k1.trans (Kp.trans Kp.upd Kp.upd)) (Kp.of c.sm);have i:g b=some (.lst []):=c.sm _ _ (by rw[ap a,ap a];exact d.at_);have nbm:b≠mt:=aB (by rw[ap a,ap a];exact d.at_) c.nw;have e:mt≠x:=λz=>by rw[z,hx]at nm;cases nm
 have j:=c.sm x _ aF;refine cL x _ dx _ rfl j (aZ T W) (xo T W) (WE (WW 5) (by decide)) ?_;refine cL x _ dx _ rfl aF (aZ T W) (nh T W) (WE (WW 6) (by decide)) ?_;exact k b mt _ f nm nbm (k3.trans (Kp.upd.trans Kp.upd)) (by rw[aF];rfl) (by rw[ap a,ap a];exact i) (by rw[ap e,ap e];exact c.at_)
def PC (T:Txt w K mg t):G0 P w K mg base 1 t.mF t.mx ["self", "tongue", "place"] [] (uM t .se):=⟨T.Ig.kp,⟨_,T.UX,.nil⟩,DW T .se⟩
def rO (T:Txt w K mg t):jD P w K mg base "Reader" t.cm 1 t.mF t.mx ["self", "tongue", "place"] [.int 0] (uM t .pl):=⟨T.FE,T.oQ,⟨_,T.TJ,.cons ⟨_,rfl⟩ .nil⟩,DW T .pl⟩
def J9(t:Adr):Sp:=λvs H Q _=>∃(x dx o y:Addr),vs=[.ref x,.ref o,.ref y,.int 0]/\H x=some (.ins t.cQ dx [])/\∀b mt H',H b=none->H mt=none->b≠mt->Kp x H H'->H' x=some (fu t .se dx o b mt y 0 0 false)->H' b=some (.lst [])->H' mt=some (.lst [])->Q .non H'
def EV (T:Txt w K mg t):jD P w K mg base "GoingReader" t.cQ 2 t.Bu t.zp ["self", "tongue", "way", "place"] [.int 0] (J9 t):=⟨T.Q4,T.oW,⟨_,T.TK,.cons ⟨_,rfl⟩ .nil⟩,by
 refine T.Wd.okQ Lz (λvs H Q E h=>by obtain⟨x,dx,o,y,rfl,_⟩:=h;rfl) λ_ _ _ _ H vs Q E i h=>?_;obtain⟨x,dx,o,y,rfl,hx,k⟩:=h;refine⟨_,(ai (bE (Mq (K:=K) Z T.qf T.FE (PC T) i (ad (aa 0) (ad (aa 1) (ad (aa 3) ae)))))
  (aj (c8 (K:=K) rfl (aa 0) (aa 2)))),?_⟩
 refine⟨x,dx,o,Z,hx,λb mt j c nm nbm k1 g d e=>?_⟩;have a:b≠x:=λz=>by rw[z,hx]at c;cases c
 have f:mt≠x:=λz=>by rw[z,hx]at nm;cases nm
 refine cL x _ dx _ rfl g T.Gv T.lW (WE (WW 7) (by decide)) ?_;exact k b mt _ c nm nbm (k1.trans Kp.upd) (by rw[aF];rfl) (by rw[ap a];exact d) (by rw[ap f];exact e)⟩
def i6(t:Adr)(H:Hp)(y:Addr):Wy->Prop
 | .pl=>True
 | .se=>∃dx,H y=some (.ins t.i3 dx [])
 | .pn=>∃dx,H y=some (.ins t.eP dx [("sign",.non)])
def i6.mono{H a:Hp}{y:Addr}{W:Wy}(h:i6 t H y W)(s:af H a):i6 t a y W:=by
 cases W with
 | pl=>exact trivial
 | _=>exact let ⟨dx,z⟩:=h;⟨dx,s _ _ z⟩
def J8(t:Adr):Sp:=λvs H Q _=>∃(x dx:Addr),vs=[.ref x,.non]/\H x=some (.ins t.eP dx [])/\Q .non (upd H x (.ins t.eP dx [("sign",.non)]))
def Pw (T:Txt w K mg t):jD P w K mg base "Put" t.eP 1 t.Bl t.ze ["self", "sign"] [] (J8 t):=⟨T.QY,T.oR,⟨[],T.U3,.nil⟩,by
 refine T.VW.okQ Ln (λvs H Q E h=>by obtain⟨x,dx,rfl,_⟩:=h;rfl) λ_ _ _ _ H vs Q E a h=>?_;obtain⟨x,dx,rfl,hx,k⟩:=h;exact⟨_,(aj (c8 (K:=K) rfl (aa 0) (aa 1))),x,_,dx,_,rfl,hx,T.zC,T.lV,by decide,k⟩⟩
def Co(K:PySem.W.Frag)(t:Adr)(W:Wy):Sp:=λvs H Q _=>∃(y a:Addr) (bs:e7),vs=[.ref y,.ref a]/\i6 t H y W/\aE K H a (bs.map V.int)/\bs.length<=1000/\∀p H',bc H p (.lst ((oB W bs).map vO)) H'->Q (.ref p) H'
def Qz (T:Txt w K mg t):bB P w K mg base t.eP "told" 1 t.Bk t.zd ["self", "row"] (Co K t .pn):=by
 refine⟨T.zC,T.oh,T.U2,T.VV.okQ Lm (λvs H Q E h=>by obtain⟨y,a,bs,rfl,_⟩:=h;rfl) λ_ _ _ _ H vs Q E e h=>?_⟩;obtain⟨y,a,bs,rfl,⟨dx,b⟩,c,d,k⟩:=h;exact⟨_,(aj (am (aT (ad (aJ (K:=K) Z (aa 0)) ae)))),y,_,dx,_,_,Z,b,T.zC,T.lV,Z,sz Z,k⟩
def Qu (T:Txt w K mg t):bB P w K mg base t.i3 "told" 1 t.Bi t.y6 ["self", "row"] (Co K t .se):=by
 refine⟨T.S4,T.nU,T.US,T.VM.okQ Le (λvs H Q E h=>by obtain⟨y,a,bs,rfl,_⟩:=h;rfl) λ_ _ _ _ H vs Q E n h=>?_⟩;obtain⟨y,a,bs,rfl,wy,c,l,k⟩:=h;refine⟨_,(aj (am (hG rfl (cq.of (fns:=(al q9).names) (N:=["self", "row"]) (Nc:=["byte"]) (nv:=1) (caps:=[]) rfl rfl (by decide +kernel)) (cC (K:=K) rfl (aa 1)) (λ_ _ _ _=>(aX (i:=0) (show List.Nodup (["byte"]:List Str) by decide +kernel) rfl (Or.inl rfl) (Or.inr rfl))) (λ_ _ _ _=>fX) (λ_ _ _ _=>(az (Wt K) (bU T.Ae) (aa 0)))))),?_⟩;refine cB a rfl ⟨_,c⟩ (qc ((oB .se bs).map vO) (by simp[oB]) c (bM (by rw[WA];lia)) (λi x y j N hx b m hN=>?_) λd g e=>k d g e);obtain⟨o,f,rfl⟩:=fK hx;unfold oB at b;rw[WJ,WJ,f]at b;cases b;exact hN _ (af.refl _)
abbrev FL:=List (Addr × Nat × Nat × Str)
def mq(x:Nat × Nat × Str):List V:=[.int (x.1:Int),.int (x.2.1:Int),.str x.2.2]
def eY(H:Hp)(mt:Addr)(L:FL):Prop:=H mt=some (.lst (L.map λx=>V.ref x.1))/\∀x∈L,H x.1=some (.tup (mq x.2))
def eY.mono{H a:Hp}{mt:Addr}{L:FL}(h:eY H mt L)(s:af H a):eY a mt L:=⟨s _ _ h.1,λx hx=>s _ _ (h.2 x hx)⟩
def eY.keep{H a:Hp}{mt x b:Addr}{L:FL}{C dx:Addr}{fs:List (Str × V)}{vs:List V}(h:eY H mt L)(k:∀c u,c≠x->c≠b->H c=some u->a c=some u)(hx:H x=some (.ins C dx fs))(hb:H b=some (.lst vs))(n:mt≠b):eY a mt L :=
 ⟨k _ _ (bA h.1 hx (by intro z;cases z)) n h.1,λz hz=>k _ _ (bA (h.2 z hz) hx (by intro z;cases z)) (bA (h.2 z hz) hb (by intro z;cases z)) (h.2 z hz)⟩
def J1(t:Adr)(W:Wy):Sp:=λvs H Q _=>∃(x dx o b mt y:Addr) (g:Int) (c l:Nat) (k:Str) (r:e7) (L:FL),vs=[.ref x,.int (l:Int),.str k]/\H x=some (fu t W dx o b mt y g c false)/\H b=some (.lst (r.map V.int))/\eY H mt L/\r.length<=c/\L.length<=10000 /\
 ∀p H',(∀a u,a≠mt->H a=some u->H' a=some u)->H p=none->eY H' mt (L++[(p,c-r.length,l,k)])->Q .non H'
def E3 (T:Txt w K mg t) (W:Wy):bB P w K mg base (bR t W) "note" 1 t.tO t.y8 ["self", "length", "kind"] (J1 t W):=by
 refine⟨aZ T W,(by cases W with|pl=>exact T.nW|_=>exact T.mt_GoingReader_note),T.UU,T.VO.okQ Lg (λvs H Q E h=>by obtain⟨x,dx,o,b,mt,y,g,c,l,k,r,L,rfl,_⟩:=h;rfl) λ_ _ _ _ H vs Q E v h=>?_⟩;obtain⟨x,dx,o,b,mt,y,g,c,l,s,r,L,rfl,hx,hb,ft,lr,lL,k⟩:=h;refine⟨_,(aj (bE (ck (K:=K) Z WS Xk Xl hV (aJ (K:=K) Z (aa 0)) (ad (bF (ad (az cX (az (Wt K) (aJ (K:=K) Z (aa 0)) (aJ (K:=K) Z (aa 0))) (bz (Wu K) T.n_len WN (ad (aJ (K:=K) Z (aa 0)) ae))) (ad (aa 1) (ad (aa 2) ae)))) ae)))),?_⟩;refine bu x _ dx _ _ Z hx (aZ T W) (xo T W) Z ?_;refine⟨.inl ⟨rfl,_,.of ft.1⟩,?_⟩;refine bu x _ dx _ _ Z hx (aZ T W) (D5 T W) Z ?_;refine bu x _ dx _ _ Z hx (aZ T W) (xp T W) Z ?_;refine bu x _ dx _ _ Z hx (aZ T W) (dW T W) Z ?_;refine ba (.inl (.of hb)) ?_;refine⟨sz Z,λp j d=>?_⟩;have m:(0:Int)+(c:Int)-((r.map V.int).length:Int)=((c-r.length:Nat):Int):=by rw[WA];lia
 have f:bc H p (.tup [.int ((0:Int)+(c:Int)-((r.map V.int).length:Int)),.int (l:Int),.str s]) j:=d;rw[m]at f;refine c7 (d.sm _ _ ft.1) (dS (by rw[WA];lia)) ?_;have i:p≠mt:=(aB ft.1 d.nw).symm;refine k p _ (λa u n e=>by rw[ap n];exact d.sm _ _ e) d.nw ⟨by rw[aF,WI];rfl,λz hz=>?_⟩;rcases WQ.mp hz with q|q
 ·rw[ap (bA (ft.2 z q) ft.1 (by intro z;cases z))];exact d.sm _ _ (ft.2 z q)
 ·rw[WK.mp q,ap i];exact f.at_
def wo(H:Hp)(X:List Addr):Hp:=λa=>if a∈X then none else H a
def im{H:Hp}{X:List Addr}{a:Addr}(h:a∈X):wo H X a=none:=ZQ h
def jF{H:Hp}{X:List Addr}{a:Addr}{u:HO}(h:a∉X)(e:H a=some u):wo H X a=some u:=(ZP h).trans e
def iI{H:Hp}{X:List Addr}:af (wo H X) H:=λa u e=>by
 unfold wo at e
 split at e
 ·cases e
 ·exact e
def af.wo{b H:Hp}{X:List Addr}(s:af b H)(h:∀a∈X,b a=none):af b (wo H X):=λa u e=>jF (λz=>by rw[h a z]at e;cases e) (s a u e)
def lI{H:Hp}{x y z a:Addr}{u:HO}(c:a≠x)(d:a≠y)(b:a≠z)(e:H a=some u):wo H [x,y,z] a=some u:=jF (by simp only [WU,Yk,or_false,not_or];exact⟨c,d,b⟩) e
def Iq{b H:Hp}{x y z:Addr}(s:af b H)(f:b x=none)(d:b y=none)(e:b z=none):af b (wo H [x,y,z]):=af.wo s λa c=>by
 simp only [WU,Yk,or_false]at c;rcases c with rfl|rfl|rfl<;>assumption
def xA{C f:Addr}{a:FuncData}{m:Str}{j k:Nat}{ps:List Str}{sp:Sp}(h:bB P w K mg base C m j f a ps sp)(l:j<=k):bB P w K mg base C m k f a ps sp:=⟨h.c,h.mt,h.b,h.ok.mono l⟩
def BO{H:Hp}{x dx o b mt y:Addr}{W:Wy}{D:Kt}{g:Int}{c:Nat}{e:Bool}{σ:St}{Q:VK}(T:Txt w K mg t)(a:σ[0]? = some (some (.ref x)))(hx:H x=some (fu t W dx o b mt y g c e))(tn:TN t H o D)(k:Q (.int (aO D)) H) :
 fS t.fP "unit" (jg 1) [] E0 (kr K (mV 0) "tongue") ff σ H Q\/fS t.cP "unit" (jg 2) [] E0 (kr K (mV 0) "tongue") ff σ H Q\/fS t.bX "unit" (jg 1) [] E0 (kr K (mV 0) "tongue") ff σ H Q\/fS t.ce "unit" (jg 1) [] E0 (kr K (mV 0) "tongue") ff σ H Q:=by
 simp only [fS,kr,ff];cases D with
 | ld =>
  obtain⟨d,i⟩:=id tn;exact .inl (fJ a ⟨x,_,dx,_,_,Z,hx,aZ T W,jh T W,Z,o,d,_,Z,i,Z,_,Z,k⟩)
 | pr h =>
  obtain⟨d,i⟩:=id tn;exact .inr (.inl (fJ a ⟨x,_,dx,_,_,Z,hx,aZ T W,jh T W,Z,o,d,_,Z,i,Z,_,Z,k⟩))
 | sh f ns ms=>exact .inr (.inr (.inl (fJ a ⟨x,_,dx,_,_,rfl,hx,aZ T W,jh T W,rfl,o,f.dx,_,rfl,Tg.o tn,rfl,_,rfl,k⟩)))
 | tb f es=>exact .inr (.inr (.inr (fJ a ⟨x,_,dx,_,_,rfl,hx,aZ T W,jh T W,rfl,o,f.dx,_,rfl,tn.1.o,rfl,_,rfl,k⟩)))
structure Rb (t:Adr) (W:Wy) (Hb H:Hp) (x dx o b mt y:Addr) (D:Kt) (g:Int) (c:Nat) (r:e7) (L:FL):Prop where
 tn:TN t Hb o D
 wy:i6 t Hb y W
 sb:af Hb H
 fx:Hb x=none
 fb:Hb b=none
 fm:Hb mt=none
 nbm:b≠mt
 hx:H x=some (fu t W dx o b mt y g c false)
 hb:H b=some (.lst (r.map V.int))
 ft:eY H mt L
 lc:r.length<=c
 l1:r.length<=100
 lL:L.length<=9000
def Rb.grow{W:Wy}{d H a:Hp}{x dx o b mt y:Addr}{D:Kt}{g:Int}{c:Nat}{r:e7}{L:FL}(h:Rb t W d H x dx o b mt y D g c r L)(s:af H a):Rb t W d a x dx o b mt y D g c r L:={ h with sb:=h.sb.trans s,hx:=s _ _ h.hx,hb:=s _ _ h.hb,ft:=h.ft.mono s }
def jB(t:Adr)(W:Wy)(b H:Hp)(x dx o mt y:Addr)(c:Nat)(L:FL)(z:Int × e7 × List Ev)(Q:VK):Prop :=
 ∀(q b':Addr) (ps:FL) (g':Int) (a:e7) (c':Nat) H',af b H'->H q=none->b b'=none->b'≠mt->q≠b'->H' x=some (fu t W dx o b' mt y g' c' (bQ W z.2.2))->H' b'=some (.lst (a.map V.int))->(bQ W z.2.2=false->g'=z.1/\a=z.2.1/\c'=c)->eY H' mt (L++ps)->ps.map (λx=>x.2)=aU (bi W z.2.2)->H' q=some (.lst ((bS W (bi W z.2.2)).map vO))->Q (.ref q) H'
def lM(one:Bool)(D:Kt)(r:e7):Nat:=if one=true then r.length else r.length-aO D
noncomputable def zM(one:Bool)(D:Kt)(g:Int)(c:Nat)(r:e7)(kd:Str):Int × e7 × List Ev:=if one=true then (g,[],[.ft (c-r.length) r.length kd r]) else ((cI D g c (r.drop (r.length-aO D))).1,(cI D g c (r.drop (r.length-aO D))).2.1,.ft (c-r.length) (r.length-aO D) kd (r.take (r.length-aO D))::(cI D g c (r.drop (r.length-aO D))).2.2)
noncomputable def iW(one:Bool)(D:Kt)(g:Int)(c:Nat)(r:e7):Int × e7 × List Ev:=if one=true then cI D g c r else iY D g c r
structure Bx (D:Kt) (g:Int) (r:e7):Prop where
 lt:aO D<r.length
 pg:bO D g
 dl:Dm D g (r.drop (r.length-aO D))
def mP(t:Adr)(W:Wy)(one:Bool):Sp:=λvs H Q _=>∃(a:Hp) (x dx o b mt y:Addr) (D:Kt) (g:Int) (c:Nat) (r:e7) (L:FL) (d:Str),vs=[.ref x,.int (lM one D r:Int),.str d]/\Rb t W a H x dx o b mt y D g c r L/\(one=false->Bx D g r/\L.length<=8999)/\jB t W a H x dx o mt y c L (zM one D g c r d) Q
def Cu(t:Adr)(W:Wy)(one:Bool):Sp:=λvs H Q _=>∃(a:Hp) (x dx o b mt y:Addr) (D:Kt) (g:Int) (c:Nat) (r:e7) (L:FL),vs=[.ref x]/\Rb t W a H x dx o b mt y D g c r L/\(one=true->r.length=aO D)/\(one=false->Bx D g r/\L.length<=8999)/\jB t W a H x dx o mt y c L (zM one D g c r (if one=true then "strange" else "broken")) Q
def qO(t:Adr)(W:Wy)(one:Bool):Sp:=λvs H Q _=>∃(a:Hp) (x dx o b mt y:Addr) (D:Kt) (g:Int) (c:Nat) (r:e7) (L:FL),vs=[.ref x]/\Rb t W a H x dx o b mt y D g c r L/\bO D g/\Dm D g r/\(one=true->r.length=aO D)/\(one=false->Bx D g r/\L.length<=8999)/\jB t W a H x dx o mt y c L (iW one D g c r) Q
def Cv(t:Adr)(W:Wy):Bool->Sp
 | true=>Ct
 | false=>qO t W true
def Qb (T:Txt w K mg t) (one:Bool):bB P w K mg base t.cm "meet" 2 t.tP t.sK ["self", "length", "kind"] (mP t .pl one):=by
 have F:=λ(T:Txt w K mg t)=>E3 (P:=P) (base:=base) T .pl;refine⟨T.dY,T.nZ,T.UW,T.VQ.okQ Lh (λvs H Q E h=>by obtain⟨G,x,dx,o,b,mt,y,D,g,c,r,L,f,rfl,_⟩:=h;rfl) λ_ _ _ _ H vs Q E I h=>?_⟩;obtain⟨G,x,dx,o,b,mt,y,D,g,c,r,L,f,rfl,M,_,k⟩:=h;refine⟨_,(ai (bE (cN (F T) I (aa 0) (ad (aa 1) (ad (aa 2) ae))))
  (ai (c8 (K:=K) rfl (aa 0) ix)
  (aj (am (aT ae))))),?_⟩
 refine bI x dx _ rfl M.hx rfl ⟨x,dx,o,b,mt,y,g,c,lM one D r,f,r,L,rfl,M.hx,M.hb,M.ft,M.lc,by have:=M.lL;lia,λp N k1 J d=>?_⟩;have l:mt≠x:=bA M.ft.1 M.hx (by intro z;cases z);have s:b≠x:=bA M.hb M.hx (by intro z;cases z);have j:=k1 _ _ l.symm M.hx;refine cL x _ dx _ rfl j T.dY T.kH (WE (WW 7) (by decide)) ?_;refine⟨sz Z,λq v i=>?_⟩;have k2:∀a u,a≠x->a≠mt->H a=some u->v a=some u:=λa u m n e=>i.sm _ _ (by rw[ap m];exact k1 _ _ n e);have nq:H q=none:=by
  cases e:H q with
  | none=>rfl
  | some u =>
   have z:=i.nw;by_cases m:q=x
   ·rw[m,aF]at z;cases z
   ·rw[ap m]at z;by_cases n:q=mt
    ·rw[n,d.1]at z;cases z
    ·rw[k1 _ _ n e]at z;cases z
 have B:eY v mt (L++[(p,c-r.length,lM one D r,f)]):=⟨i.sm _ _ (by rw[ap l];exact d.1),λz hz=>i.sm _ _ (by rw[ap (bA (d.2 z hz) j (by intro z;cases z))];exact d.2 z hz)⟩;have C:∃bs es,(zM one D g c r f).2.2=.ft (c-r.length) (lM one D r) f bs::es:=by cases one<;>exact⟨_,_,rfl⟩
 obtain⟨bs,es,C⟩:=C;unfold jB at k;rw[C]at k;exact k q b [(p,c-r.length,lM one D r,f)] g r c v (λa u e=>k2 a u (aB e M.fx) (aB e M.fm) (M.sb _ _ e)) nq M.fb M.nbm (aB M.hb nq).symm (i.sm x _ (by rw[aF];rfl)) (k2 _ _ s M.nbm M.hb) (λz=>nomatch z) B rfl i.at_
def E6 (T:Txt w K mg t) {W:Wy} (hW:W ≠ .pl) (one:Bool) {n:Nat} (hn:1<=n) (hl:bB P w K mg base (bR t W) "look_at_begun" n t.jy t.j0 ["self"] (Cv t W one)):bB P w K mg base (bR t W) "meet" (n+1) t.t5 t.sS ["self", "length", "kind"] (mP t W one):=by
 have f:=λ(T:Txt w K mg t)=>E3 (P:=P) (base:=base) T W;have d:=λ(_:Txt w K mg t)=>hl;refine⟨aZ T W,(by cases W with|pl=>exact ZR rfl hW|_=>exact T.oJ),T.Vj,T.Wc.okQ C9 (λvs H Q E h=>by obtain⟨Hb,x,dx,o,b,mt,y,D,g,c,r,L,N,rfl,_⟩:=h;rfl) λ_ _ _ _ H vs Q E hr h=>?_⟩;obtain⟨Hb,x,dx,o,b,mt,y,D,g,c,r,L,N,rfl,M,h2,k⟩:=h;obtain⟨tn,wy,sb,fx,fb,fm,nbm,hx,hb,ft,lc,l1,lL⟩:=id M;obtain⟨l,el⟩:∃l,l=lM one D r:=⟨_,rfl⟩;rw[<- el];refine⟨_,(ai (bE (cN (hj:=by lia) (f T) hr (aa 0) (ad (aa 1) (ad (aa 2) ae))))
  (ai (aL (i:=3) C9.nd rfl (.inl rfl) (cM (cN (hj:=by lia) (Qz (K:=K) T) hr (aJ (K:=K) rfl (aa 0)) (ad (dw (Ww K) (aJ (K:=K) rfl (aa 0)) gf (ci (aa 1))) ae)) (cN (hj:=by lia) (Qu (K:=K) T) hr (aJ (K:=K) rfl (aa 0)) (ad (dw (Ww K) (aJ (K:=K) rfl (aa 0)) gf (ci (aa 1))) ae))))
  (ai (c8 (K:=K) rfl (aa 0) (dw (Ww K) (aJ (K:=K) rfl (aa 0)) (ci (aa 1)) gf))
  (aj (am (iO (gK (K:=K) rfl (aJ (K:=K) rfl (aa 0))) (az (Wt K) (aa 3) (cF (hj:=by lia) (d T) hr (aa 0))) (aa 3))))))),?_⟩
 have bg:b≠x:=bA hb hx (by intro z;cases z);have ar:mt≠x:=bA ft.1 hx (by intro z;cases z);have clE:bR t W=t.cQ:=by cases W with|pl=>exact ZR rfl hW|_=>rfl
 refine bI x dx _ rfl hx (iX y W _ rfl) ⟨x,dx,o,b,mt,y,g,c,l,N,r,L,rfl,hx,hb,ft,lc,by lia,λp H1 k1 np ah=>?_⟩;have s:=k1 _ _ ar.symm hx;have a4:=k1 _ _ nbm hb;have s1:af Hb H1:=λa u e=>k1 a u (aB e fm) (sb a u e);have F:=wy.mono s1;dsimp only;have ec:cY (r.map V.int) none (some (l:Int))=(r.take l).map V.int:=by rw[ib,zA]
 have ed:cY (r.map V.int) (some (l:Int)) none=(r.drop l).map V.int:=by rw[ib];exact congrArg _ (qa r l)
 have lt:(r.take l).length<=1000:=by rw[WO];lia
 have yW:(lJ y W).lookup ("way" : Str)=some (V.ref y):=by cases W with|pl=>exact ZR rfl hW|_=>rfl
 refine fV (λσ' H'=>af H1 H'/\∃q,H1 q=none/\H' q=some (.lst ((oB W (r.take l)).map vO))/\σ'=[some (.ref x),some (.int (l:Int)),some (.str N),some (.ref q)]) (λnx hn=>?_) ?_
 ·have aD:∀R H2 q O,bc H1 R (.lst ((r.take l).map V.int)) H2->bc H2 q (.lst ((oB W (r.take l)).map vO)) O->nx [some (.ref x),some (.int (l:Int)),some (.str N),some (.ref q)] O:=λR H2 q O j g3=>hn _ _ ⟨j.sm.trans g3.sm,q,j.sm.free g3.nw,g3.at_,rfl⟩;have naW:NoAttr K (bR t W) "way":=by rw[clE];exact T.lW
  cases W with
  | pl=>exact ZR rfl hW
  | pn =>
   obtain⟨dy,hy⟩:=id F;refine .inl ⟨x,_,dx,_,_,Z,s,aZ T .pn,naW,yW,y,dy,_,Z,hy,Z,x,_,dx,_,_,Z,s,aZ T .pn,dW T .pn,Z,_,Z,_,.of a4,λR H2 j=>?_⟩;rw[ec]at j;exact⟨y,R,_,Z,F.mono j.sm,j.lst,lt,λq O g3=>aD R H2 q O j g3⟩
  | se =>
   obtain⟨dy,hy⟩:=id F;refine .inr ⟨x,_,dx,_,_,Z,s,aZ T .se,naW,yW,y,dy,_,Z,hy,Z,x,_,dx,_,_,Z,s,aZ T .se,dW T .se,Z,_,Z,_,.of a4,λR H2 j=>?_⟩;rw[ec]at j;exact⟨y,R,_,Z,F.mono j.sm,j.lst,lt,λq O g3=>aD R H2 q O j g3⟩
 rintro σ' O ⟨s3,q,nq,hq,rfl⟩;have I:=s3 _ _ s;have aS:=s3 _ _ a4;refine bu x _ dx _ _ Z I (aZ T W) (dW T W) Z ?_;refine⟨_,Z,_,.of aS,λb' H4 v=>?_⟩;rw[ed]at v;refine cL x _ dx _ Z (v.sm _ _ I) (aZ T W) (dW T W) (oZ y W) ?_;have s4:=s1.trans (s3.trans v.sm);have a8:=ah.mono (s3.trans v.sm);have av:=v.sm _ _ I;obtain⟨B,e5⟩:∃B,B=upd H4 x (fu t W dx o b' mt y g c false):=⟨_,rfl⟩;have b3:upd H4 x (.ins (bR t W) dx (cy "begun" (.ref b') (("tongue",.ref o)::("place",.int 0)::("at_page",.int g)::("begun",.ref b)::("many",.int (c:Int))::("met",.ref mt)::("ended",.bl false)::lJ y W)))=B:=by rw[e5];rfl
 rw[b3];have J:B x=some (fu t W dx o b' mt y g c false):=by rw[e5,aF]
 have m:∀a u,a≠x->H4 a=some u->B a=some u:=λa u n e=>by rw[e5,ap n];exact e
 have al:b'≠x:=(aB I v.nw).symm;have G:=m _ _ al v.at_;have aw:=v.sm _ _ hq;have ak:q≠x:=bA aw av (by intro z;cases z);have a2:=m _ _ ak aw;have s5:af Hb B:=λa u e=>m a u (aB e fx) (s4 a u e);have aC:eY B mt (L++[(p,c-r.length,l,N)]):=⟨m _ _ ar a8.1,λz hz=>m _ _ (bA (a8.2 z hz) av (by intro z;cases z)) (a8.2 z hz)⟩;have an:∀a,H1 a=none->H a=none:=λa n=>by
  cases e:H a with
  | none=>rfl
  | some u =>
   by_cases z:a=mt
   ·rw[z,ah.1]at n;cases n
   ·rw[k1 a u z e]at n;cases n
 have aq:q≠b':=aB hq v.nw;have aG:=an q nq;have Y:=an b' (s3.free v.nw);have ay:Hb b'=none:=sb.free Y;have S:b'≠mt:=(aB ft.1 Y).symm;have idW:∀es,bi W es=es/\bQ W es=false:=λes=>by cases W with|pl=>exact ZR rfl hW|_=>exact⟨rfl,rfl⟩
 unfold jB at k;simp only [idW]at k;refine⟨x,_,dx,_,_,Z,J,aZ T W,dW T W,Z,_,.inl (.of G),?_⟩;cases one with
 | true =>
  obtain rfl:l=r.length:=el;rw[WY]at a2;rw[YU]at G ⊢;exact k q b' [(p,c-r.length,r.length,N)] g [] c B s5 aG ay S aq J G (λ_=>⟨rfl,rfl,rfl⟩) aC rfl (by rw[show bS W (zM true D g c r N).2.2=oB W r++[] from rfl,WM];exact a2)
 | false =>
 obtain⟨⟨lm,pg,dl⟩,l8⟩:=h2 rfl;obtain rfl:l=r.length-aO D:=el;have u1:=uB D;have a5:(r.drop (r.length-aO D)).length=aO D:=by rw[Xr];lia
 have cne:((r.drop (r.length-aO D)).map V.int).isEmpty=false:=by
  cases e:r.drop (r.length-aO D) with
  | nil=>rw[e]at a5;simp at a5;lia
  | cons a as=>rfl
 refine ao (λ_=>?_) (λz=>ZR (show (!((r.drop (r.length-aO D)).map V.int).isEmpty)=true by rw[cne];rfl) z);have sw:af Hb (wo B [x,b',mt]):=Iq s5 fx ay fm;have aY:q≠mt:=(aB ft.1 aG).symm;have wq:=lI ak aq aY a2;have aT:∀a u,a≠x->a≠mt->H a=some u->B a=some u:=λa u n1 n2 e=>m _ _ n1 (v.sm _ _ (s3 _ _ (k1 _ _ n2 e)));refine bI x dx _ rfl J (iX y W _ rfl) ⟨wo B [x,b',mt],x,dx,o,b',mt,y,D,g,c,r.drop (r.length-aO D),L++[(p,c-r.length,r.length-aO D,N)],rfl,⟨tn.mono sw,wy.mono sw,iI,im (by simp),im (by simp),im (by simp),S,J,G,aC,by lia,by lia,by rw[WC];show _+1<=9000;lia⟩,pg,dl,(λ_=>a5),(λz=>nomatch z),λq2 b2 ps j r2 c2 H6 s6 bh aV aA b7 a0 a3 U aE a1 a9=>?_⟩;have ezO:iW true D g c (r.drop (r.length-aO D))=cI D g c (r.drop (r.length-aO D)):=ZQ rfl;simp only [idW]at a0 a3 U a1 a9;rw[ezO]at U a1 a9;obtain⟨eg,er,aP⟩:=U trivial;have b0:=s6 _ _ wq;have oB_len:∀bs:e7,(oB W bs).length<=bs.length+1:=λbs=>by
  cases W with
  | pl=>exact WT _
  | se=>unfold oB;rw[WA];exact Xp _
  | pn=>exact Nat.le_add_left _ _
 have bp:(bS W (cI D g c (r.drop (r.length-aO D))).2.2).length<=200:=by
  unfold cI
  split
  ·show 1<=200;decide
  ·show 0<=200;decide
  ·show (oB W (r.drop (r.length-aO D))++[]).length<=200;rw[WM];have:=oB_len (r.drop (r.length-aO D));lia
 have aR:=oB_len (r.take (r.length-aO D));rw[WO]at aR;refine d7 (.of b0) (.of a9) (bM (by rw[WA,WA];lia)) (λq3 H7 C=>?_);rw[<- WI]at C;have aN:H q3=none:=by
  cases e:H q3 with
  | none=>rfl
  | some u =>
   have n1:q3≠x:=(aB a0 C.nw).symm;have n2:q3≠mt:=(aB aE.1 C.nw).symm;have n3:q3≠b':=aB e Y;have:=s6 _ _ (lI n1 n3 n2 (aT _ _ n1 n2 e));rw[C.nw]at this;cases this
 refine k q3 b2 ((p,c-r.length,r.length-aO D,N)::ps) j r2 c2 H7 ((sw.trans s6).trans C.sm) aN (sw.free aV) aA (aB a3 C.nw).symm (C.sm _ _ a0) (C.sm _ _ a3) (λ_=>⟨eg,er,aP⟩) ?_ ?_ C.at_
 ·have:=aE.mono C.sm;rw[Xe]at this;exact this
 ·rw[W7,a1]
  rfl
def aM(t:Adr):Wy->Addr
 | .pl=>t.tP
 | _=>t.t5
def fM(t:Adr):Wy->FuncData
 | .pl=>t.sK
 | _=>t.sS
def E8 (T:Txt w K mg t) (W:Wy) (one:Bool) {n:Nat} (a:1<=n) (b:bB P w K mg base (bR t W) "look_at_begun" n t.jy t.j0 ["self"] (Cv t W one)):bB P w K mg base (bR t W) "meet" (n+1) (aM t W) (fM t W) ["self", "length", "kind"] (mP t W one):=by
 cases W with
 | pl=>exact xA (Qb T one) (by lia)
 | se=>exact E6 T (W:=.se) (λz=>nomatch z) one a b
 | pn=>exact E6 T (W:=.pn) (λz=>nomatch z) one a b
def E4 (T:Txt w K mg t) (W:Wy) (one:Bool) {n:Nat} (j:1<=n) (p:bB P w K mg base (bR t W) "meet" n (aM t W) (fM t W) ["self", "length", "kind"] (mP t W one)):bB P w K mg base (bR t W) "meet_none" (n+1) t.qj t.sJ ["self"] (Cu t W one):=by
 have rQ:=λ(_:Txt w K mg t)=>p;refine⟨aZ T W,(by cases W with|pl=>exact T.nY|_=>exact T.mt_GoingReader_meet_none),T.UV,T.VP.okQ C3 (λvs H Q E h=>by obtain⟨d,x,dx,o,b,mt,y,D,g,c,r,L,rfl,_⟩:=h;rfl) λ_ _ _ _ H vs Q E a h=>?_⟩;obtain⟨d,x,dx,o,b,mt,y,D,g,c,r,L,rfl,M,s,f,k⟩:=h;have u:=a.units;refine⟨_,(ai (aL (i:=1) C3.nd rfl (.inl rfl) (az cX (bz (Wu K) T.n_len WN (ad (aJ (K:=K) rfl (aa 0)) ae)) (cM (cF (hj:=by lia) (Fw (K:=K) T) a (aJ (K:=K) rfl (aa 0))) (cM (cF (hj:=by lia) (Fr (K:=K) T) a (aJ (K:=K) rfl (aa 0))) (cM (cF (hj:=by lia) (Fk (K:=K) T) a (aJ (K:=K) rfl (aa 0))) (cF (hj:=by lia) (Fg (K:=K) T) a (aJ (K:=K) rfl (aa 0))))))))
  (ai (aI (aA ju (aa 1) ah (aH _)) (aj (am (cN (hj:=by lia) (rQ T) a (aa 0) (ad (aa 1) (ad cj ae))))) aK)
  (aj (am (cN (hj:=by lia) (rQ T) a (aa 0) (ad (bz (Wu K) T.n_len WN (ad (aJ (K:=K) rfl (aa 0)) ae)) (ad cj ae))))))),?_⟩
 have tn:=M.tn.mono M.sb;refine fV (λm l=>l=H/\m=[some (.ref x),some (.int ((r.length:Int)-(aO D:Int)))]) (λnx j=>?_) ?_
 ·refine bu x _ dx _ _ Z M.hx (aZ T W) (dW T W) Z ?_;refine ba (.inl (.of M.hb)) ?_;rw[WA];exact BO T rfl M.hx tn (j _ _ ⟨rfl,rfl⟩)
 rintro m l ⟨rfl,rfl⟩;cases one with
 | true =>
  have e:=s rfl;refine ao (λz=>ZR (show (r.length:Int)-(aO D:Int) > 0 from ZS z) (by lia)) (λ_=>?_);refine bI x dx _ Z M.hx (iX y W _ Z) ?_;refine⟨x,_,dx,_,_,Z,M.hx,aZ T W,dW T W,Z,_,.inl (.of M.hb),?_⟩;exact⟨d,x,dx,o,b,mt,y,D,g,c,r,L,_,by rw[WA];rfl,M,f,k⟩
 | false =>
  have e:=(f rfl).1.lt;refine ao (λ_=>?_) (λz=>ZR (ZT (show (r.length:Int)-(aO D:Int) > 0 by lia)) z);have q:(r.length:Int)-(aO D:Int)=((r.length-aO D:Nat):Int):=by lia
  rw[q];exact⟨x,dx,_,Z,M.hx,iX y W _ Z,d,x,dx,o,b,mt,y,D,g,c,r,L,_,Z,M,f,k⟩
def Fa (T:Txt w K mg t) (W:Wy) (one:Bool) {n:Nat} (hn:7<=n) (hm:bB P w K mg base (bR t W) "meet_none" n t.qj t.sJ ["self"] (Cu t W one)):bB P w K mg base (bR t W) "look_at_begun" (n+1) t.jy t.j0 ["self"] (qO t W one):=by
 have Qx:=λ(_:Txt w K mg t)=>hm;refine⟨aZ T W,(by cases W with|pl=>exact T.lX|_=>exact T.mt_GoingReader_look_at_begun),T.GM,T.Ie.okQ uX (λvs H Q E h=>by obtain⟨Hb,x,dx,o,b,mt,y,D,g,c,r,L,rfl,_⟩:=h;rfl) λ_ _ _ _ H vs Q E N h=>?_⟩;obtain⟨Hb,x,dx,o,b,mt,y,D,g,c,r,L,rfl,M,pg,dm,on,tw,k⟩:=h;have hu:=N.units;refine⟨_,(ai (aL (i:=1) uX.nd rfl (.inl rfl) (cM (cE (hj:=by lia) (QH (K:=K) T) N (aJ (K:=K) rfl (aa 0)) (ad (aJ (K:=K) rfl (aa 0)) (ad (aJ (K:=K) rfl (aa 0)) ae))) (cM (cE (hj:=by lia) (QD (K:=K) T) N (aJ (K:=K) rfl (aa 0)) (ad (aJ (K:=K) rfl (aa 0)) (ad (aJ (K:=K) rfl (aa 0)) ae))) (cM (cE (hj:=by lia) (Qs (K:=K) T) N (aJ (K:=K) rfl (aa 0)) (ad (aJ (K:=K) rfl (aa 0)) (ad (aJ (K:=K) rfl (aa 0)) ae))) (cE (hj:=by lia) (Qq (K:=K) T) N (aJ (K:=K) rfl (aa 0)) (ad (aJ (K:=K) rfl (aa 0)) (ad (aJ (K:=K) rfl (aa 0)) ae)))))))
  (ai (aI (aA (bG (K:=K) rfl hu) (au (Wv K) (aa 1) ah (λ_ _=>rfl)) cj (aH _)) (aj (am (aT ae))) aK)
  (ai (aI (aA (bG (K:=K) rfl hu) (au (Wv K) (aa 1) ah (λ_ _=>rfl)) cj (aH _)) (aj (am (cF (hj:=by lia) (Qx T) N (aa 0)))) aK)
  (ai (c8 (K:=K) rfl (aa 0) (aT ae))
  (ai (c8 (K:=K) rfl (aa 0) (au (Wv K) (aa 1) ah (λ_ _=>rfl)))
  (aj (am (aT (ad (au (Wv K) (aa 1) ah (λ_ _=>rfl)) ae))))))))),?_⟩
 have tn:=M.tn.mono M.sb;refine fV (λσ' l=>∃Y,af H l/\l Y=some (.tup (xz g (bP D g r)))/\σ'=[some (.ref x),some (.ref Y)]) (λnx a5=>?_) ?_
 ·have s:∃(o' q':Addr) (D':Kt) (g':Int) (O:e7),([.ref o,.ref b,.int g]:List V)=[.ref o',.ref q',.int g']/\TN t H o' D'/\bO D' g'/\H q'=some (.lst (O.map V.int))/\Dm D' g' O/\∀p l,af H l->l p=some (.tup (xz g' (bP D' g' O)))->nx [some (.ref x),some (.ref p)] l:=⟨o,b,D,g,r,rfl,tn,pg,M.hb,dm,λp l s' d=>a5 _ _ ⟨p,s',d,rfl⟩⟩;cases D with
  | ld =>
   obtain⟨F,ho⟩:=id tn;exact .inl ⟨x,_,dx,_,_,Z,M.hx,aZ T W,jh T W,Z,o,F,_,Z,ho,Z,x,_,dx,_,_,Z,M.hx,aZ T W,dW T W,Z,x,_,dx,_,_,Z,M.hx,aZ T W,lU T W,Z,s⟩
  | pr h =>
   obtain⟨F,ho⟩:=id tn;exact .inr (.inl ⟨x,_,dx,_,_,Z,M.hx,aZ T W,jh T W,Z,o,F,_,Z,ho,Z,x,_,dx,_,_,Z,M.hx,aZ T W,dW T W,Z,x,_,dx,_,_,Z,M.hx,aZ T W,lU T W,Z,s⟩)
  | sh f ns ms=>exact .inr (.inr (.inl ⟨x,_,dx,_,_,rfl,M.hx,aZ T W,jh T W,rfl,o,f.dx,_,rfl,Tg.o tn,rfl,x,_,dx,_,_,rfl,M.hx,aZ T W,dW T W,rfl,x,_,dx,_,_,rfl,M.hx,aZ T W,lU T W,rfl,s⟩))
  | tb f es=>exact .inr (.inr (.inr ⟨x,_,dx,_,_,rfl,M.hx,aZ T W,jh T W,rfl,o,f.dx,_,rfl,tn.1.o,rfl,x,_,dx,_,_,rfl,M.hx,aZ T W,dW T W,rfl,x,_,dx,_,_,rfl,M.hx,aZ T W,lU T W,rfl,s⟩))
 ·rintro σ' H1 ⟨Y,s1,d,rfl⟩;have G:bi W []=[]/\bQ W []=false:=by cases W<;>exact⟨rfl,rfl⟩
  have U:∀n,bi W [.sg n]=[.sg n]/\bQ W [.sg n]=false:=λn=>by cases W<;>exact⟨rfl,rfl⟩
  cases e:bP D g r with
  | sg n g' =>
   rw[e]at d;have S:iW one D g c r=(g',[],[.sg n]):=by
    simp only [iW,cI,iY,e,ite_self]
   rw[S]at k;unfold jB at k;simp only [U]at k;refine aN (.inr (.of d)) (aD (j:=0) Z) ?_;refine xS (di iy) (di rq) ?_;refine ao (λz=>ZR (show PyData.eqv (.str "sign") (.str "more")=true from z) (by decide +kernel)) (λ_=>?_);refine aN (.inr (.of d)) (aD (j:=0) Z) ?_;refine xS (di iy) (di rp) ?_;refine ao (λz=>ZR (show PyData.eqv (.str "sign") (.str "none")=true from z) (by decide +kernel)) (λ_=>?_);refine⟨sz Z,λb' H2 m=>?_⟩;have B:=s1.trans m.sm;have R:=B _ _ M.hx;have C:=m.sm _ _ d;have nb:H b'=none:=s1.free m.nw;have I:Y≠x:=bA C R (by intro z;cases z);have v:b'≠x:=(aB M.hx nb).symm;refine cL x _ dx _ Z R (aZ T W) (dW T W) (oZ y W) ?_;refine aN (.inr (.of (by rw[ap I];exact C))) (aD (j:=2) Z) ?_;refine cL x _ dx _ Z aF (aZ T W) (lU T W) (oZ y W) ?_;refine aN (.inr (.of (by rw[ap I,ap I];exact C))) (aD (j:=1) Z) ?_;refine⟨sz Z,λq H3 J=>?_⟩;have kp:Kp x H H3:=Kp.trans (Kp.trans (Kp.of B) (Kp.trans Kp.upd Kp.upd)) (Kp.of J.sm);have nq:H q=none:=Kp.free (x:=x) (Kp.trans (Kp.of B) (Kp.trans Kp.upd Kp.upd)) aF J.nw;have a4:=J.sm b' _ (by rw[ap v,ap v];exact m.at_);refine k q b' [] g' [] c H3 (λa u e=>kp _ _ (aB e M.fx) (M.sb _ _ e)) nq (M.sb.free nb) (aB M.ft.1 nb).symm (aB (by rw[ap v,ap v];exact m.at_) J.nw).symm (J.sm x _ (by rw[aF];rfl)) a4 (λ_=>⟨rfl,rfl,rfl⟩) ?_ rfl J.at_;rw[WM];exact⟨kp _ _ (bA M.ft.1 M.hx (by intro z;cases z)) M.ft.1,λz hz=>kp _ _ (bA (M.ft.2 z hz) M.hx (by intro z;cases z)) (M.ft.2 z hz)⟩
  | mo =>
   rw[e]at d;have S:iW one D g c r=(g,r,[]):=by
    simp only [iW,cI,iY,e,ite_self]
   rw[S]at k;unfold jB at k;simp only [G]at k;refine aN (.inr (.of d)) (aD (j:=0) Z) ?_;refine xS (di rq) (di rq) ?_;refine ao (λ_=>?_) (λz=>ZR (show PyData.eqv (.str "more") (.str "more")=true by decide +kernel) z);refine⟨sz Z,λq H2 m=>?_⟩;have B:=s1.trans m.sm;have nq:=s1.free m.nw;exact k q b [] g r c H2 (M.sb.trans B) nq M.fb M.nbm (aB M.hb nq).symm (B _ _ M.hx) (B _ _ M.hb) (λ_=>⟨rfl,rfl,rfl⟩) (by rw[WM];exact M.ft.mono B) Z m.at_
  | no =>
   rw[e]at d;have S:iW one D g c r=zM one D g c r (if one=true then "strange" else "broken"):=by
    cases one<;>simp[iW,zM,cI,iY,e]
   rw[S]at k;refine aN (.inr (.of d)) (aD (j:=0) Z) ?_;refine xS (di rp) (di rq) ?_;refine ao (λz=>ZR (show PyData.eqv (.str "none") (.str "more")=true from z) (by decide +kernel)) (λ_=>?_);refine aN (.inr (.of d)) (aD (j:=0) Z) ?_;refine xS (di rp) (di rp) ?_;refine ao (λ_=>?_) (λz=>ZR (show PyData.eqv (.str "none") (.str "none")=true by decide +kernel) z);exact⟨x,dx,_,Z,s1 _ _ M.hx,iX y W _ Z,Hb,x,dx,o,b,mt,y,D,g,c,r,L,Z,M.grow s1,on,tw,λq b' ps g' O c' l a1 a2=>k q b' ps g' O c' l a1 (s1.free a2)⟩
def Qc (T:Txt w K mg t) (W:Wy):bB P w K mg base (bR t W) "look_at_begun" 1 t.jy t.j0 ["self"] Ct :=
 ⟨aZ T W,(by cases W with|pl=>exact T.lX|_=>exact T.mt_GoingReader_look_at_begun),T.GM,T.Ie.okQ uX (λvs H Q E h=>h.elim) λa A outer s H vs Q E b h=>h.elim⟩
def E7 (T:Txt w K mg t) (W:Wy):bB P w K mg base (bR t W) "meet" 2 (aM t W) (fM t W) ["self", "length", "kind"] (mP t W true):=E8 T W true (WB _) (Qc T W)
def E9 (T:Txt w K mg t) (W:Wy):bB P w K mg base (bR t W) "look_at_begun" 8 t.jy t.j0 ["self"] (qO t W true):=Fa T W true (WB _) (xA (E4 T W true (by decide) (E7 T W)) (by decide))
def Qd (T:Txt w K mg t) (W:Wy) (one:Bool):bB P w K mg base (bR t W) "look_at_begun" 11 t.jy t.j0 ["self"] (qO t W one):=by
 cases one with
 | true=>exact xA (E9 T W) (by decide)
 | false=>exact Fa T W false (by decide) (E4 T W false (by decide) (E8 T W false (by decide) (E9 T W)))
def JD(t:Adr)(W:Wy):Sp:=λvs H Q _=>∃(a:Hp) (x dx o b mt y:Addr) (D:Kt) (g:Int) (c:Nat) (r:e7) (L:FL) (v:Int),vs=[.ref x,.int v]/\Rb t W a H x dx o b mt y D g c r L/\bO D g/\df D g r/\0<=v/\v<=255/\L.length<=8999/\jB t W a H x dx o mt y (c+1) L (cu D g r (c+1) v) Q
def P7 (T:Txt w K mg t) (W:Wy):bB P w K mg base (bR t W) "take" 12 t.tM t.y7 ["self", "byte"] (JD t W):=by
 refine⟨aZ T W,(by cases W with|pl=>exact T.nV|_=>exact T.mt_GoingReader_take),T.UT,T.VN.okQ Lf (λvs H Q E h=>by obtain⟨O,x,dx,o,b,mt,y,D,g,c,r,L,v,rfl,_⟩:=h;rfl) λ_ _ _ _ H vs Q E s h=>?_⟩;obtain⟨O,x,dx,o,b,mt,y,D,g,c,r,L,v,rfl,⟨tn,wy,sb,fx,fb,fm,nbm,hx,hb,ft,lc,l1,l9⟩,pg,U,v0,v1,lL,k⟩:=h;have hu:=s.units;have l6:=(U.byts pg).2;have ln:(r++[v]).length=r.length+1:=by rw[WC];rfl
 have C:b≠x:=bA hb hx (by intro z;cases z);obtain⟨one,oneT,oneF⟩:∃one:Bool,(one=true->(r++[v]).length=aO D)/\(one=false->¬(r++[v]).length=aO D):=⟨decide ((r++[v]).length=aO D),ZS,of_decide_eq_false⟩;have Qy:=λ(T:Txt w K mg t)=>Qd (P:=P) (base:=base) T W one;refine⟨_,(ai (bE (ck (K:=K) Z WS Xk Xl hV (aJ (K:=K) Z (aa 0)) (ad (aa 1) ae)))
  (ai (Mr (K:=K) rfl (aa 0) ah)
  (ai (aI (aA (iC (K:=K) rfl hu) (az jt (bz (Wu K) T.n_len WN (ad (aJ (K:=K) rfl (aa 0)) ae)) (cM (cF (Fw (K:=K) T) s (aJ (K:=K) rfl (aa 0))) (cM (cF (Fr (K:=K) T) s (aJ (K:=K) rfl (aa 0))) (cM (cF (Fk (K:=K) T) s (aJ (K:=K) rfl (aa 0))) (cF (Fg (K:=K) T) s (aJ (K:=K) rfl (aa 0))))))) ah (aH _)) (aj (am (aT ae))) aK)
  (aj (am (cF (Qy T) s (aa 0))))))),?_⟩
 refine bu x _ dx _ _ Z hx (aZ T W) (dW T W) Z ?_;refine⟨.inl ⟨rfl,_,.of hb⟩,?_⟩;refine c7 hb (dS (by rw[WA];lia)) ?_;obtain⟨n,B⟩:∃n,n=upd H b (.lst (r.map V.int++[.int v])):=⟨_,rfl⟩;rw[<- B];have a4:n b=some (.lst ((r++[v]).map V.int)):=by rw[B,aF,WI];rfl
 have J:n x=some (fu t W dx o b mt y g c false):=by rw[B,ap C.symm];exact hx
 refine⟨x,_,dx,_,_,Z,J,aZ T W,xp T W,Z,_,_,Z,Z,dx,_,J,oZ y W,?_⟩;obtain⟨f,G⟩:∃f,f=upd n x (fu t W dx o b mt y g (c+1) false):=⟨_,rfl⟩;have R:upd n x (.ins (bR t W) dx (cy "many" (.int ((c:Int)+1)) (("tongue",.ref o)::("place",.int 0)::("at_page",.int g)::("begun",.ref b)::("many",.int (c:Int))::("met",.ref mt)::("ended",.bl false)::lJ y W)))=f:=by rw[G];rfl
 rw[R];have d:f x=some (fu t W dx o b mt y g (c+1) false):=by rw[G];exact aF
 have i:f b=some (.lst ((r++[v]).map V.int)):=by rw[G,ap C];exact a4
 have l:af O f:=by rw[G,B];exact (sb.put fb).put fx
 have k2:∀a u,a≠x->a≠b->H a=some u->f a=some u:=λa u na nb e=>by rw[G,ap na,B,ap nb];exact e
 have F:eY f mt L:=ft.keep k2 hx hb nbm.symm;have a0:=tn.mono l;have I:∀q,f q=none->H q=none:=λq nq=>by
  cases e:H q with
  | none=>rfl
  | some u =>
   have:=k2 q u (λz=>by rw[z,d]at nq;cases nq) (λz=>by rw[z,i]at nq;cases nq) e;rw[nq]at this;cases this
 dsimp only;refine fV (λσ' M=>M=f/\(r++[v]).length%aO D=0/\σ'=[some (.ref x),some (.int v)]) (λnx a3=>?_) ?_
 ·have out:¬(r++[v]).length%aO D=0->∀q N,bc f q (.lst []) N->Q (.ref q) N:=λS q N p=>by
   have Y:cu D g r (c+1) v=(g,r++[v],[]):=by unfold cu;rw[ZP S]
   have j:bi W []=[]/\bQ W []=false:=by cases W<;>exact⟨rfl,rfl⟩
   rw[Y]at k;unfold jB at k;simp only [j]at k;have nq:=I q p.nw;exact k q b [] g (r++[v]) (c+1) N (l.trans p.sm) nq fb nbm (aB hb nq).symm (p.sm _ _ d) (p.sm _ _ i) (λ_=>⟨rfl,rfl,rfl⟩) (by rw[WM];exact F.mono p.sm) Z p.at_
  refine bu x _ dx _ _ Z d (aZ T W) (dW T W) Z ?_;refine ba (.inl (.of i)) ?_;rw[WA];refine BO T Z d a0 ?_;have aq:=uB D;refine⟨(show (0:Int)<(aO D:Int) by lia),?_⟩;refine ao (λz=>?_) (λz=>?_)
  ·have z:(!decide ((((r++[v]).length:Nat):Int)%(aO D:Int)=0))=true:=z;refine⟨sz Z,out (λy=>?_)⟩;rw[<- Zd,y]at z;cases z
  ·refine a3 _ _ ⟨rfl,?_,rfl⟩;have z:¬(!decide ((((r++[v]).length:Nat):Int)%(aO D:Int)=0))=true:=z;rw[<- Zd]at z;cases e:(r++[v]).length%aO D with
   | zero=>rfl
   | succ m=>rw[e]at z;exact ZR Z z
 rintro σ' M ⟨rfl,ev,rfl⟩;have lu:aO D<=(r++[v]).length:=by
  rcases Zb (r++[v]).length (aO D) with z|z
  ·rw[Zc z]at ev;lia
  ·exact z
 have Y:cu D g r (c+1) v=iW one D g (c+1) (r++[v]):=by
  unfold cu iW;rw[ZQ ev];cases hO:one with
  | true=>rw[ZQ (oneT hO),ZQ rfl]
  | false=>rw[ZP (oneF hO),ZP (by decide)]
 rw[Y]at k;exact⟨x,dx,_,rfl,d,iX y W _ rfl,O,x,dx,o,b,mt,y,D,g,c+1,r++[v],L,rfl,⟨tn,wy,l,fx,fb,fm,nbm,d,i,F,by lia,by lia,by lia⟩,pg,zw U v0 v1,oneT,λz=>⟨⟨by have:=oneF z;lia,pg,zx U v0 v1⟩,lL⟩,λq b' ps g' r' c' M a1 a2=>k q b' ps g' r' c' M a1 (I q a2)⟩
def Jq{D:Kt}{g n:Int}(tn:uk D)(pg:bO D g)(d:eU D n):1<=(cv D g n).1.length:=by
 cases D with
 | ld=>exact (Dk n).1
 | pr h=>show 1<=(fF h n).length;rw[MW];split<;>lia
 | sh f ns ms =>
  obtain⟨r,g',e,_,k⟩:=Cj pg d;rw[Ci e];rcases k with ⟨b,rfl,_⟩|⟨c,rfl,_⟩
  ·show 1<=1;decide
  ·show 1<=2;decide
 | tb f es =>
  obtain⟨e,i,_,j⟩:=kU d;have a:cv (.tb f es) g n=(e.2,g):=by
   show (Option.map _ _).getD _=_;rw[j];rfl
  rw[a];exact (Es.sg tn e i).2.1
def jA(D:Kt)(x:Int):Prop:=(61184<=x/\x<=61439)\/eU D x
def uL{D:Kt}{g x:Int}(ok:dM D)(pg:bO D g)(h:jA D x):bO D (cV D g x).2/\1<=(cV D g x).1.length/\(cV D g x).1.length<=6:=by
 unfold cV;by_cases c:61184<=x/\x<=61439
 ·rw[ZQ c];exact⟨pg,by show 1<=1;decide,by show 1<=6;decide⟩
 ·rw[ZP c];have h:=h.resolve_left c;obtain⟨r,g',_,a,p,l⟩:=qN ok.kok pg h;have z:=Jq ok.kok pg h;rw[a]at z ⊢;exact⟨p,z,l⟩
theorem ux{D:Kt}(ok:dM D):∀(xs:e7) (g:Int),bO D g->(∀x∈xs,jA D x)->bO D (aY D g xs).2/\xs.length<=(aY D g xs).1.length
 | [],g,pg,_=>⟨pg,WB _⟩
 | x::xs,g,pg,h=>by
  have e:aY D g (x::xs)=aY D g ([x]++xs):=rfl;obtain⟨a,b,_⟩:=uL ok pg (h x (W3 ..));obtain⟨c,d⟩:=ux ok xs _ a λy f=>h y (W4 _ f);rw[e,km,qC];exact⟨c,by rw[W0,WC];lia⟩
def uG{D:Kt}{es:List Ev}(h:∀e∈es,ug D e):∀x∈bq .se es,jA D x:=λx hx=>by
 obtain⟨e,a,hx⟩:=List.mem_flatMap.mp hx;have o:=h e a;cases e with
 | sg n=>rw[WK.mp hx];exact .inr o
 | ft p l k bs =>
  obtain⟨b,hb,rfl⟩:=Xs.mp hx;have:=o.1 b hb;exact .inl (by lia)
theorem tld_le(W:Wy):∀es:List Ev,(bS W (bi W es)).length<=(bq .se es).length+es.length
 | []=>by cases W<;>exact WB _
 | .sg n::es=>by
  have ih:=tld_le W es;have e:(bS W (bi W (.sg n::es))).length=1+(bS W (bi W es)).length:=by
   have e:bi W (.sg n::es)=.sg n::bi W es:=by cases W<;>rfl
   rw[e];exact WC
  rw[e];show _<=(n::bq .se es).length+(es.length+1);rw[W0];lia
 | .ft p l k bs::es=>by
  have ih:=tld_le W es;show _<=(bs.map (λb=>61184+b)++bq .se es).length+(es.length+1);rw[WC,WA];cases W with
  | pl=>exact WT _
  | se =>
   have e:(bS .se (bi .se (.ft p l k bs::es))).length=bs.length+(bS .se (bi .se es)).length:=(WC (as:=bs.map λb=>some (61184+b))).trans (by rw[WA];rfl);rw[e];lia
  | pn =>
   have e:(bS .pn (bi .pn (.ft p l k bs::es))).length=1+(bS .pn (bi .pn es)).length:=WC;rw[e];lia
theorem pI:∀es:List Ev,(aU es).length<=es.length
 | []=>WB _
 | .sg n::es=>Ze (pI es)
 | .ft p l k bs::es=>XR (pI es)
noncomputable abbrev rn(D:Kt)(ws:e7):Int × e7 × List Ev:=run D 0 [] 0 ws
noncomputable def out(D:Kt)(W:Wy)(ws:e7):List (Option Int):=bS W (bi W (rn D ws).2.2)
def iQ(D:Kt):bO D 0:=by
 cases D with
 | sh f ns ms=>exact .inl rfl
 | _=>exact rfl
def m4{D:Kt}(ok:dM D){ws:e7}(hb:aW ws):bO D (rn D ws).1/\df D (rn D ws).1 (rn D ws).2.1/\(rn D ws).2.1.length<=ws.length/\(rn D ws).2.2.length<=2*ws.length:=by
 obtain⟨pg,b,a,_,_,le⟩:=rS ok ws 0 [] 0 (iQ D) (df.nil _ _) hb;have:=congrArg List.length a;rw[WC,XS]at this;exact⟨pg,b,by lia,le⟩
noncomputable def i0:Bool->Kt->e7->List Ev
 | true,D,ws=>aG D ws
 | false,D,ws=>(rn D ws).2.2
noncomputable def iR:Bool->Wy->Kt->e7->Bool
 | true,_,_,_=>true
 | false,W,D,ws=>bQ W (rn D ws).2.2
structure br (t:Adr) (W:Wy) (Hb H:Hp) (x dx o b mt y:Addr) (D:Kt) (ws:e7) (e:Bool):Prop where
 tn:TN t Hb o D
 wy:i6 t Hb y W
 sb:af Hb H
 fx:Hb x=none
 fb:Hb b=none
 fm:Hb mt=none
 nbm:b≠mt
 st:∃(g:Int) (r:e7) (c:Nat) (L:FL),H x=some (fu t W dx o b mt y g c (iR e W D ws))/\H b=some (.lst (r.map V.int))/\eY H mt L/\L.map (λx=>x.2)=aU (bi W (i0 e D ws))/\(iR e W D ws=false->g=(rn D ws).1/\r=(rn D ws).2.1/\c=ws.length)
section
variable {W:Wy}{Hb Hc H H':Hp}{x dx o b mt y:Addr}{D:Kt}{ws:e7}{e:Bool}
def br.grow(h:br t W Hb H x dx o b mt y D ws e)(s:af H H'):br t W Hb H' x dx o b mt y D ws e:=by
 obtain⟨g,r,c,L,f,a,d,i⟩:=h.st;exact { h with sb:=h.sb.trans s,st:=⟨g,r,c,L,s _ _ f,s _ _ a,d.mono s,i⟩ }
def br.some3(h:br t W Hb H x dx o b mt y D ws e):∀c∈[x,b,mt],∃v,H c=some v/\∀u,v ≠ .tup u:=λc a=>by
 obtain⟨g,r,n,L,f,d,i,j⟩:=h.st;simp only [WU,Yk,or_false]at a;rcases a with rfl|rfl|rfl
 ·exact⟨_,f,λu z=>nomatch z⟩
 ·exact⟨_,d,λu z=>nomatch z⟩
 ·exact⟨_,i.1,λu z=>nomatch z⟩
def br.none3(h:br t W Hb H x dx o b mt y D ws e):∀c∈[x,b,mt],Hb c=none:=λc a=>by
 simp only [WU,Yk,or_false]at a;rcases a with rfl|rfl|rfl
 ·exact h.fx
 ·exact h.fb
 ·exact h.fm
def br.side(h:br t W Hb H x dx o b mt y D ws e):br t W (wo H [x,b,mt]) H x dx o b mt y D ws e:=⟨h.tn.mono (af.wo h.sb h.none3),h.wy.mono (af.wo h.sb h.none3),iI,im (by simp),im (by simp),im (by simp),h.nbm,h.st⟩
def br.back(h:br t W Hc H x dx o b mt y D ws e)(s:af Hb Hc)(tn:TN t Hb o D)(wy:i6 t Hb y W):br t W Hb H x dx o b mt y D ws e:=⟨tn,wy,s.trans h.sb,s.free h.fx,s.free h.fb,s.free h.fm,h.nbm,h.st⟩
def br.other{X:List Addr}(h:br t W Hb H x dx o b mt y D ws e)(s:af (wo H X) H')(d:∀c∈[x,b,mt],c∉X)(nX:∀c∈X,Hb c=none)(f:∀c∈X,∀u,H c≠some (.tup u)):br t W Hb H' x dx o b mt y D ws e:=by
 obtain⟨g,r,c,L,l,j,a,i⟩:=h.st;have k:∀ {c v},c∉X->H c=some v->H' c=some v:=λn e=>s _ _ (jF n e);exact { h with sb:=(af.wo h.sb nX).trans s,st:=⟨g,r,c,L,k (d _ (by simp)) l,k (d _ (by simp)) j,⟨k (d _ (by simp)) a.1,λz hz=>k (λq=>f _ q _ (a.2 z hz)) (a.2 z hz)⟩,i⟩ }
end
def CH(K:PySem.W.Frag)(t:Adr)(W:Wy):Sp:=λvs H Q _=>∃(d:Hp) (x dx o b mt y a:Addr) (D:Kt) (c ws:e7),vs=[.ref x,.ref a]/\br t W d H x dx o b mt y D c false/\aE K d a (ws.map V.int)/\aW c/\aW ws/\c.length+ws.length<=1000 /\
 ∀q b' ts H',H q=none->q≠b'->br t W d H' x dx o b' mt y D (c++ws) false->out D W (c++ws)=out D W c++ts->H' q=some (.lst (ts.map vO))->ts.length<=20*ws.length->Q (.ref q) H'
def mf (T:Txt w K mg t) (W:Wy):bB P w K mg base (bR t W) "feed" 13 t.tQ t.y9 ["self", "row"] (CH K t W):=by
 have Qv:=λ(T:Txt w K mg t)=>P7 (P:=P) (base:=base) T W;refine⟨aZ T W,(by cases W with|pl=>exact T.n5|_=>exact T.mt_GoingReader_feed),T.UY,T.VR.okQ uY (λvs H Q E h=>by obtain⟨Hb,x,dx,o,b,mt,y,a,D,j,ws,rfl,_⟩:=h;rfl) λ_ _ _ _ H vs Q E hr h=>?_⟩;obtain⟨Hb,x,dx,o,b,mt,y,a,D,j,ws,rfl,R,ha,be,aG,lw,k⟩:=h;have hu:=hr.units;have ok:=R.tn.koS;refine⟨_,(ai (aL (i:=2) uY.nd Z (.inl Z) (aT ae))
  (ai (aI (gK (K:=K) rfl (aJ (K:=K) rfl (aa 0))) (aj (am (aa 2))) aK)
  (ai (cw PassesOwn.never rfl (cC (K:=K) rfl (aa 1)) (aX (i:=3) uY.nd rfl (.inl rfl)) (ai (bE (ck (K:=K) rfl WS Xn Xo (Wz K) (aa 2) (ad (cN (Qv T) hr (aa 0) (ad (aa 3) ae)) ae)))
  (aj (aI (gK (K:=K) rfl (aJ (K:=K) rfl (aa 0))) (aj Mf) aK))))
  (aj (am (aa 2)))))),?_⟩
 refine⟨sz Z,λq H1 C=>?_⟩;have R1:=R.grow C.sm;obtain⟨g0,r0,c0,L0,a7,b2,bb,eL0,ba⟩:=R.st;dsimp only [iR,i0]at a7 eL0 ba;have fq:Hb q=none:=R.sb.free C.nw;have a6:q≠mt:=(aB bb.1 C.nw).symm;have U:q≠x:=(aB a7 C.nw).symm;have aC:q≠b:=(aB b2 C.nw).symm;refine bu x _ dx _ _ Z (C.sm _ _ a7) (aZ T W) (nh T W) Z ?_;have more:∀d ys,bQ W (rn D d).2.2=true->bQ W (rn D (d++ys)).2.2=true/\bi W (rn D (d++ys)).2.2=bi W (rn D d).2.2:=λd ys h=>by
  rw[show (rn D (d++ys)).2.2=(rn D d).2.2++_ from congrArg (λz=>z.2.2) (Dj D d ys 0 [] 0)];exact⟨by rw[DO,h];rfl,zt _ h⟩
 have O:∀d ys H' b',bQ W (rn D d).2.2=true->br t W Hb H' x dx o b' mt y D d false->br t W Hb H' x dx o b' mt y D (d++ys) false:=λd ys H' b' h R'=>by
  obtain⟨g,r,c,L,a1,a2,a3,a4,_⟩:=R'.st;dsimp only [iR,i0]at a1 a4;obtain⟨m1,m2⟩:=more d ys h;exact { R' with st:=⟨g,r,c,L,by dsimp only [iR];rw[m1];rw[h]at a1;exact a1,a2,a3,by dsimp only [i0];rw[m2];exact a4,λz=>ZR (m1.symm.trans z) (by decide)⟩ }
 refine ao (λz=>?_) (λz=>?_)
 ·have z:bQ W (rn D j).2.2=true:=z;refine k q b [] H1 C.nw aC (O _ _ _ _ z R1) ?_ C.at_ (WT _);unfold out;rw[(more j ws z).2,WM]
 have o0:bQ W (rn D j).2.2=false:=by
  cases e:bQ W (rn D j).2.2 with
  | false=>rfl
  | true=>exact ZR e z
 refine⟨a,Z,⟨_,R1.sb.seq ha⟩,kT (K:=K) (a:=a) (xs:=ws.map V.int) (λi σ H'=>∃(b':Addr) (p:List (Option Int)) (v3:Option V),q≠b'/\br t W Hb H' x dx o b' mt y D (j++ws.take i) false/\bQ W (rn D (j++ws.take i)).2.2=false/\out D W (j++ws.take i)=out D W j++p/\H' q=some (.lst (p.map vO))/\p.length<=20*i/\σ=[some (.ref x),some (.ref a),some (.ref q),v3])
  ⟨b,[],_,aC,by rw[Zf,WM];exact R1,by rw[Zf,WM];exact o0,by rw[Zf,WM,WM],C.at_,WT _,rfl⟩ (λi σ H' _ z=>by obtain⟨b',p,v3,_,R',_⟩:=z;exact R'.sb.seq ha) ?_ ?_⟩
 ·rintro i v σ H3 NN eN hv ⟨b3,p,v3,m,N,S,eo,F,a5,rfl⟩;obtain⟨v,a8,rfl⟩:=fK hv;have hi:i<ws.length:=(WF.mp a8).1;have l:=aG v (W8 a8);obtain⟨d,G⟩:∃d,d=j++ws.take i:=⟨_,rfl⟩;have bx:d.length=j.length+i:=by rw[G,WC,WO];lia
  have b5:aW d:=by rw[G];exact be.app λz hz=>aG z (XV hz)
  have aD:j++ws.take (i+1)=d++[v]:=by rw[dO a8,G,Xe]
  rw[<- G]at N S eo;obtain⟨s,M,b9,bp⟩:=m4 ok b5;obtain⟨_,_,ay,_,aO,b8⟩:=xP (d.length+1) ok s M l.1 l.2;obtain⟨z,ez⟩:∃z,z=cu D (rn D d).1 (rn D d).2.1 (d.length+1) v:=⟨_,rfl⟩;have Y:rn D (d++[v])=(z.1,z.2.1,(rn D d).2.2++z.2.2):=by
   unfold rn;rw[Di,XF,ez]
  rw[<- ez]at ay aO b8;have I:bQ W (rn D (d++[v])).2.2=bQ W z.2.2:=by rw[Y,DO,S];rfl
  have ar:bi W (rn D (d++[v])).2.2=(rn D d).2.2++bi W z.2.2:=by rw[Y];exact pM _ S
  have bm:(bS W (bi W z.2.2)).length<=20:=by
   have a1:=tld_le W z.2.2;have a2:=(ux ok _ _ s (uG aO)).2;have a3:=congrArg List.length ay;have a4:=(M.byts s).2;rw[WC,WC]at a3;simp at a3;lia
  have f:=N.side;obtain⟨g3,r3,c3,L3,J,b0,bd,eL3,au⟩:=N.st;dsimp only [iR,i0]at J eL3 au;obtain⟨rfl,rfl,rfl⟩:=au S;rw[S]at J;rw[sV S]at eL3;have lL3:L3.length<=4000:=by
   have:=congrArg List.length eL3;rw[WA]at this;have:=pI (rn D d).2.2;lia
  refine⟨.inl ⟨rfl,_,.of F⟩,?_⟩;refine bI x dx _ rfl J (iX y W _ rfl) ⟨wo H3 [x,b3,mt],x,dx,o,b3,mt,y,D,_,_,_,L3,v,rfl,⟨f.tn,f.wy,f.sb,f.fx,f.fb,f.fm,f.nbm,J,b0,bd,b9,by have:=(M.byts s).2;lia,by lia⟩,s,M,l.1,l.2,by lia,λq4 b4 ps g4 r4 c4 H4 s4 bG a9 aP bj aH bc an ag az aN=>?_⟩;rw[<- ez]at aH an az aN;have sw:af Hb (wo H3 [x,b3,mt]):=af.wo N.sb N.none3;have aE:=s4 _ _ (lI U m a6 F);refine d7 aE aN (bM (by rw[WA,WA];lia)) ?_;have B:b4≠q:=λz=>by
   have:=lI (H:=H3) U m a6 F;rw[z]at a9;rw[a9]at this;cases this
  rw[<- WI];obtain⟨H5,e5⟩:∃H5,H5=upd H4 q (.lst ((p++bS W (bi W z.2.2)).map vO)):=⟨_,rfl⟩;rw[<- e5];have k5:∀ {c u},c≠q->H4 c=some u->H5 c=some u:=λn e=>by rw[e5,ap n];exact e
  have aM:=k5 U.symm aH;have R5:br t W Hb H5 x dx o b4 mt y D (d++[v]) false:=by
   refine⟨R.tn,R.wy,by rw[e5];exact (sw.trans s4).put fq,R.fx,sw.free a9,R.fm,aP,g4,r4,c4,L3++ps,by dsimp only [iR];rw[I];exact aM,k5 B bc,⟨k5 a6.symm ag.1,λz hz=>k5 (bA (ag.2 z hz) aE (by intro z;cases z)) (ag.2 z hz)⟩,?_,λh=>?_⟩
   ·dsimp only [i0];rw[WI,eL3,az,ar,gl]
   ·dsimp only [iR]at h;rw[I]at h;obtain⟨a1,a2,a3⟩:=an h;rw[Y];exact⟨a1,a2,by rw[a3,WC];rfl⟩
  have ax:out D W (d++[v])=out D W j++(p++bS W (bi W z.2.2)):=by
   rw[<- Xe,<- eo];unfold out;rw[ar,sV S,BT]
  have aA:H5 q=some (.lst ((p++bS W (bi W z.2.2)).map vO)):=by rw[e5,aF]
  have l5:(p++bS W (bi W z.2.2)).length<=20*(i+1):=by rw[WC];lia
  refine bu x _ dx _ _ Z aM (aZ T W) (nh T W) Z ?_;refine ao (λh=>?_) (λh=>?_)
  ·have h:bQ W (rn D (d++[v])).2.2=true:=I.trans h;have eT:j++ws=(d++[v])++ws.drop (i+1):=by rw[<- aD,Xe,Xm]
   refine k q b4 (p++bS W (bi W z.2.2)) H5 C.nw B.symm (by rw[eT];exact O _ _ _ _ h R5) ?_ aA (by lia);rw[eT,<- ax];unfold out;rw[(more _ _ h).2]
  ·have h':bQ W (rn D (d++[v])).2.2=false:=by
    rw[I];cases e:bQ W z.2.2 with
    | false=>rfl
    | true=>exact ZR e h
   subst eN;dsimp only;rw[aD];exact⟨b4,_,_,B.symm,R5,h',ax,aA,l5,Z⟩
 ·rintro σ H3 ⟨b3,p,v3,m,N,S,eo,F,a5,rfl⟩;rw[WA,WY]at N eo;rw[WA]at a5;exact k q b3 p H3 C.nw m N eo F a5
def jw(D:Kt)(ws:e7):aG D ws=(rn D ws).2.2++dC ws.length (rn D ws).2.1:=by
 unfold aG ia;rw[XF]
def CI(t:Adr)(W:Wy):Sp:=λvs H Q _=>∃(a:Hp) (x dx o b mt y:Addr) (D:Kt) (ws:e7),vs=[.ref x]/\br t W a H x dx o b mt y D ws false/\aW ws/\ws.length<=1000 /\
 ∀q b' ts H',H q=none->q≠b'->br t W a H' x dx o b' mt y D ws true->bS W (bi W (aG D ws))=out D W ws++ts->H' q=some (.lst (ts.map vO))->ts.length<=20->Q (.ref q) H'
def rP (T:Txt w K mg t) (W:Wy):bB P w K mg base (bR t W) "end" 3 t.tS t.zc ["self"] (CI t W):=by
 have rQ:=λ(T:Txt w K mg t)=>E7 (P:=P) (base:=base) T W;refine⟨aZ T W,(by cases W with|pl=>exact T.og|_=>exact T.mt_GoingReader_end),T.U1,T.VU.okQ C4 (λvs H Q E h=>by obtain⟨B,x,dx,o,b,mt,y,D,ws,rfl,_⟩:=h;rfl) λ_ _ _ _ H vs Q E N h=>?_⟩;obtain⟨B,x,dx,o,b,mt,y,D,ws,rfl,R,G,lw,k⟩:=h;have hu:=N.units;obtain⟨g,r,c,L,hx,hb,ft,eL,st⟩:=R.st;dsimp only [iR,i0]at hx eL st;refine⟨_,(ai (aI (gK (K:=K) Z (aJ (K:=K) Z (aa 0))) (aj (am (aT ae))) aK)
  (ai (aL (i:=1) C4.nd rfl (.inl rfl) (iO (gK (K:=K) rfl (aJ (K:=K) rfl (aa 0))) (cN (rQ T) N (aa 0) (ad (bz (Wu K) T.n_len WN (ad (aJ (K:=K) rfl (aa 0)) ae)) (ad cj ae))) (aT ae)))
  (ai (c8 (K:=K) rfl (aa 0) ix)
  (aj (am (aa 1)))))),?_⟩
 refine bu x _ dx _ _ Z hx (aZ T W) (nh T W) Z ?_;unfold jI;dsimp only;refine ao (λz=>?_) (λz=>?_)
 ·have z:bQ W (rn D ws).2.2=true:=z;rw[z]at hx;have e:bi W (aG D ws)=bi W (rn D ws).2.2:=by rw[jw];exact zt _ z
  refine⟨sz Z,λq C a=>?_⟩;refine k q b [] C a.nw (aB hb a.nw).symm { R with sb:=R.sb.trans a.sm,st:=⟨g,r,c,L,a.sm _ _ hx,a.sm _ _ hb,ft.mono a.sm,eL.trans (congrArg aU e.symm),(λz=>nomatch z)⟩ } ?_ a.at_ (WT _);rw[e,WM]
  rfl
 have u:bQ W (rn D ws).2.2=false:=by
  cases e:bQ W (rn D ws).2.2 with
  | false=>rfl
  | true=>exact ZR e z
 obtain⟨pg,Y,lr,le⟩:=m4 R.tn.koS G;have l6:=(Y.byts pg).2;obtain⟨rfl,rfl,rfl⟩:=st u;rw[u]at hx;rw[sV u]at eL;have lL:L.length<=4000:=by
  have:=congrArg List.length eL;rw[WA]at this;have:=pI (rn D ws).2.2;lia
 have e:bi W (aG D ws)=(rn D ws).2.2++bi W (dC ws.length (rn D ws).2.1):=by rw[jw];exact pM _ u
 have S:bS W (bi W (aG D ws))=out D W ws++bS W (bi W (dC ws.length (rn D ws).2.1)):=by
  rw[e,BT];unfold out;rw[sV u]
 refine fV (λM s=>af B s/\∃(q b':Addr) (ps:FL) (g':Int) (p:e7) (c':Nat) (O:Bool),H q=none/\B b'=none/\b'≠mt/\q≠b'/\s x=some (fu t W dx o b' mt y g' c' O)/\s b'=some (.lst (p.map V.int))/\eY s mt (L++ps)/\ps.map (λx=>x.2)=aU (bi W (dC ws.length (rn D ws).2.1))/\s q=some (.lst ((bS W (bi W (dC ws.length (rn D ws).2.1))).map vO))/\M=[some (.ref x),some (.ref q)]) (λnx v=>?_) ?_
 ·refine⟨x,_,dx,_,_,Z,hx,aZ T W,dW T W,Z,_,.inl (.of hb),?_⟩;by_cases er:(rn D ws).2.1=[]
  ·have I:dC ws.length (rn D ws).2.1=[]:=ZQ er;have U:bi W []=[]:=by cases W<;>rfl
   rw[I,U]at v;rw[show (rn D ws).2.1.map V.int=[] by rw[er];rfl];refine⟨sz Z,λq C a=>?_⟩;exact v _ _ ⟨R.sb.trans a.sm,q,b,[],_,_,_,_,a.nw,R.fb,R.nbm,(aB hb a.nw).symm,a.sm _ _ hx,a.sm _ _ hb,by rw[WM];exact ft.mono a.sm,Z,a.at_,Z⟩
  ·have I:dC ws.length (rn D ws).2.1=[.ft (ws.length-(rn D ws).2.1.length) (rn D ws).2.1.length "short" (rn D ws).2.1]:=ZP er;rw[I]at v;refine ao (λ_=>?_) (λz=>ZR (by cases e:(rn D ws).2.1 with|nil=>exact ZR e er|cons _ _=>rfl) z);refine bI x dx _ Z hx (iX y W _ Z) ?_;refine⟨x,_,dx,_,_,Z,hx,aZ T W,dW T W,Z,_,.inl (.of hb),?_⟩;exact⟨B,x,dx,o,b,mt,y,D,_,_,_,L,_,by rw[WA];rfl,⟨R.tn,R.wy,R.sb,R.fx,R.fb,R.fm,R.nbm,hx,hb,ft,lr,by lia,by lia⟩,(λz=>nomatch z),λq b' ps g' p c' C s1 nq J nbm l f j _ d m n=>v _ _ ⟨s1,q,b',ps,g',p,c',_,nq,J,nbm,l,f,j,d,m,n,rfl⟩⟩
 ·rintro M C ⟨s1,q,b',ps,g',p,c',O,nq,J,nbm,l,f,j,d,m,n,rfl⟩;refine cL x _ dx _ Z f (aZ T W) (nh T W) (oZ y W) ?_;have F:q≠x:=(aB hx nq).symm;refine k q b' _ _ nq l ⟨R.tn,R.wy,s1.put R.fx,R.fx,J,R.fm,nbm,g',p,c',L++ps,by rw[aF];rfl,by rw[ap (bA j f (by intro z;cases z))];exact j,⟨by rw[ap (bA d.1 f (by intro z;cases z))];exact d.1,λz hz=>by rw[ap (bA (d.2 z hz) f (by intro z;cases z))];exact d.2 z hz⟩,?_,(λz=>nomatch z)⟩ S (by rw[ap F];exact n) ?_
  ·dsimp only [i0];rw[e,gl,WI,eL,m]
  ·have:=tld_le W (dC ws.length (rn D ws).2.1);refine WP this ?_;unfold dC
   split
   ·exact WT _
   ·show ((rn D ws).2.1.map (λb=>61184+b)++[]).length+1<=20;rw[WM,WA];lia
def Kb(t:Adr)(W:Wy):Sp:=λvs H Q _=>∃(x dx o b mt y:Addr) (g:Int) (c:Nat) (e:Bool) (L:FL),vs=[.ref x]/\H x=some (fu t W dx o b mt y g c e)/\eY H mt L/\∀p H',bc H p (.lst (L.map λx=>V.ref x.1)) H'->Q (.ref p) H'
def o7 (T:Txt w K mg t) (W:Wy):bB P w K mg base (bR t W) "faults" 1 t.tR t.za ["self"] (Kb t W):=by
 refine⟨aZ T W,(by cases W with|pl=>exact T.n6|_=>exact T.mt_GoingReader_faults),T.UZ,T.VS.okQ Lj (λvs H Q E h=>by obtain⟨x,dx,o,b,mt,y,g,c,e,L,rfl,_⟩:=h;rfl) λ_ _ _ _ H vs Q E a h=>?_⟩;obtain⟨x,dx,o,b,mt,y,g,c,e,L,rfl,hx,ft,k⟩:=h;refine⟨_,(aj (am (dI (Wx K) T.n_list Xa (ad (aJ (K:=K) Z (aa 0)) ae)))),?_⟩;refine bu x _ dx _ _ Z hx (aZ T W) (xo T W) Z ?_;exact⟨_,.inl (.of ft.1),k⟩
def BD:Kt->Int->e7->Prop
 | .ld,_,r=>qz r
 | .pr h,_,r=>kW h r≠none
 | .sh _ ns ms,g,r=>gN (ak g ns ms) (ak g ms ns) g r=true
 | .tb _ es,_,r=>lB es r
def mJ(D:Kt)(ws:e7):Prop:=bQ .pl (rn D ws).2.2=false/\((rn D ws).2.1=[]\/BD D (rn D ws).1 (rn D ws).2.1)
def kl(D:Kt)(ws:e7):Prop:=bQ .pl (rn D ws).2.2=false/\(rn D ws).2.1=[]
def GW(D:Kt)(ws:e7)(H:Hp)(Q:VK):Prop:=(¬mJ D ws->∀H',af H H'->Q .non H')/\(mJ D ws->∀(f:e7) q H',af H H'->H' q=some (.lst (f.map V.int))->(f=[] ↔ kl D ws)->Q (.ref q) H')
def Kg(t:Adr):Sp:=λvs H Q _=>∃(a:Hp) (x dx o b mt y:Addr) (D:Kt) (ws:e7),vs=[.ref x]/\br t .pl a H x dx o b mt y D ws false/\aW ws/\GW D ws H Q
def xM (T:Txt w K mg t):bB P w K mg base t.cm "ending" 8 t.Bj t.zb ["self"] (Kg t):=by
 refine⟨T.dY,T.oa,T.U0,T.VT.okQ Ll (λvs H Q E h=>by obtain⟨Hb,x,dx,o,b,mt,y,D,ws,rfl,_⟩:=h;rfl) λ_ _ _ _ H vs Q E N h=>?_⟩;obtain⟨Hb,x,dx,o,b,mt,y,D,ws,rfl,R,a3,l,k⟩:=h;have hu:=N.units;obtain⟨g,r,c,L,hx,hb,ft,eL,st⟩:=R.st;dsimp only [iR,i0]at hx eL st;have tn:=R.tn.mono R.sb;refine⟨_,(ai (aI (gK (K:=K) Z (aJ (K:=K) Z (aa 0))) (aj (am bY)) aK)
  (aj (am (iO (gK (K:=K) rfl (aJ (K:=K) rfl (aa 0))) (cM (cE (Fy (K:=K) T) N (aJ (K:=K) rfl (aa 0)) (ad (aJ (K:=K) rfl (aa 0)) (ad (aJ (K:=K) rfl (aa 0)) ae))) (cM (cE (Fv (K:=K) T) N (aJ (K:=K) rfl (aa 0)) (ad (aJ (K:=K) rfl (aa 0)) (ad (aJ (K:=K) rfl (aa 0)) ae))) (cM (cE (Fo (K:=K) T) N (aJ (K:=K) rfl (aa 0)) (ad (aJ (K:=K) rfl (aa 0)) (ad (aJ (K:=K) rfl (aa 0)) ae))) (cE (Fi (K:=K) T) N (aJ (K:=K) rfl (aa 0)) (ad (aJ (K:=K) rfl (aa 0)) (ad (aJ (K:=K) rfl (aa 0)) ae)))))) (aT ae))))),?_⟩
 refine bu x _ dx _ _ Z hx T.dY T.kH Z ?_;refine ao (λz=>?_) (λz=>?_)
 ·exact l (λm=>ZR (m.1.symm.trans z) (by decide)) H (af.refl _)
 have U:bQ .pl (rn D ws).2.2=false:=by
  cases e:bQ .pl (rn D ws).2.2 with
  | false=>rfl
  | true=>exact ZR e z
 obtain⟨pg,S,lr,le⟩:=m4 R.tn.koS a3;have F:=EW D ws 0 [] 0 (.inl rfl);obtain⟨eg,er,rfl⟩:=st U
 change qv D (rn D ws).1 (rn D ws).2.1 at F
 unfold mJ at l k;unfold kl at k;rw[<- eg,<- er]at S F l k;rw[<- eg]at pg;refine⟨x,_,dx,_,_,Z,hx,T.dY,T.iV,Z,_,.inl (.of hb),?_⟩;by_cases ne:r=[]
 ·rw[show r.map V.int=[] by rw[ne];rfl];exact⟨sz Z,λq a v=>k ⟨U,.inl ne⟩ [] q a v.sm v.at_ ⟨λ_=>⟨U,ne⟩,λ_=>rfl⟩⟩
 have l6:=(S.byts pg).2
 replace l:¬BD D g r->∀B,af H B->Q .non B:=λn=>l (λm=>m.2.elim ne n)
 replace k:BD D g r->∀(f:e7) q B,af H B->B q=some (.lst (f.map V.int))->f≠[]->Q (.ref q) B:=λm f q B s h n=>k ⟨U,.inr m⟩ f q B s h ⟨λz=>ZR z n,λz=>ZR z.2 ne⟩
 have mo:=F.resolve_left ne;refine ao (λ_=>?_) (λz=>ZR (by cases e:r with|nil=>exact ZR e ne|cons _ _=>rfl) z);cases D with
 | ld =>
  obtain rfl:g=0:=pg;obtain⟨C,ho⟩:=id tn;refine .inl ⟨x,_,dx,_,_,Z,hx,T.dY,T.jj,Z,o,C,_,Z,ho,Z,x,_,dx,_,_,Z,hx,T.dY,T.iV,Z,x,_,dx,_,_,Z,hx,T.dY,T.jk,Z,?_⟩;refine⟨o,b,r,rfl,.of hb,by lia,λM p a v=>?_,λnb a s1=>l nb a s1⟩;refine k M _ p a v.sm v.at_ λz=>?_;have j:=mo.resolve_left λz=>z (YG _);dsimp only [bP]at j;have wh:=Ix M;rw[z,WM]at wh;rw[ZQ wh]at j;cases j
 | pr h =>
  obtain rfl:g=0:=pg;have po:Po t H o h:=tn;obtain⟨C,ho⟩:=id po;refine .inr (.inl ⟨x,_,dx,_,_,Z,hx,T.dY,T.jj,Z,o,C,_,Z,ho,Z,x,_,dx,_,_,Z,hx,T.dY,T.iV,Z,x,_,dx,_,_,Z,hx,T.dY,T.jk,Z,?_⟩);refine⟨o,b,h,r,rfl,po,.of hb,S.1,by lia,λf W p a v=>?_,λW a s1=>l (λm=>m W) a s1⟩;refine k (λz=>by rw[W]at z;cases z) f p a v.sm v.at_ λz=>?_;have I:=YE W;rw[z,WM]at I;obtain⟨n',O⟩:=YJ.mp I;rcases mo with m|m
  ·unfold gx at O
   split at O
   ·rename_i q;exact m (by show r.length%2=0;lia)
   ·cases O
  ·dsimp only [bP]at m;rw[O]at m;cases m
 | sh f ns ms =>
  have tg:Tg t H o f ns ms:=tn;refine .inr (.inr (.inl ⟨x,_,dx,_,_,Z,hx,T.dY,T.jj,Z,o,f.dx,_,Z,tg.o,Z,x,_,dx,_,_,Z,hx,T.dY,T.iV,Z,x,_,dx,_,_,Z,hx,T.dY,T.jk,Z,?_⟩));have J:r=[254+(1-g)]:=S.resolve_left ne;have b0:(0:Int)<=254+(1-g):=by rcases (show cT g from pg) with rfl|rfl<;>decide
  refine⟨o,f,ns,ms,b,_,g,rfl,pg,tg,hb,.inl ⟨_,J,b0⟩,λz a s1=>l (λm=>ZR (z.symm.trans m) (by decide)) a s1,λG p r2 a s1 I d=>?_⟩;refine k G r2 p a s1 I λz=>?_;have j:=mo.resolve_left λz=>z (YG _);dsimp only [bP]at j;cases hw:d8 (ak g ns ms) (ak g ms ns) g r with
  | some z=>rw[hw]at j;cases j
  | none =>
   have d:=d hw;rw[z,J]at d;unfold gN at G;rw[hw]at G;unfold db at d G;cases ea:ii (ak g ms ns) (ak g ns ms) with
   | nil=>rw[ea]at G;cases G
   | cons i bv=>rw[ea]at d;cases d
 | tb f' es =>
  obtain rfl:g=0:=pg;obtain⟨tt,ah⟩:=id tn;refine .inr (.inr (.inr ⟨x,_,dx,_,_,Z,hx,T.dY,T.jj,Z,o,f'.dx,_,Z,tt.o,Z,x,_,dx,_,_,Z,hx,T.dY,T.iV,Z,x,_,dx,_,_,Z,hx,T.dY,T.jk,Z,?_⟩));refine⟨o,f',es,b,_,0,Z,tt,hb,λrt p r2 a s1 I he=>?_,λa0 a s1=>l a0 a s1⟩;refine k rt r2 p a s1 I λz=>?_;obtain⟨e',Y,ee⟩:=he;rw[z,WM]at ee;have j:=mo.resolve_left λz=>z (YG _);dsimp only [bP]at j;cases e:es.find? λe=>decide (e.2=r) with
  | none=>exact ZR (XW.mp e e' Y) (by rw[ZT ee];decide)
  | some u=>rw[e]at j;cases j
def fW{H:Hp}{x dx C:Addr}(hx:H x=none)(a:H dx=none):af H (upd (upd H dx (.own x)) x (.ins C dx [])):=λb c q=>by rw[ap (aB q hx),ap (aB q a)];exact q
def Kh(C:Addr)(names:List Str):Sp:=λvs H Q _=>∃e us,vs=.ref e::us/\us.length=names.length/\H e=some (XN e C none)/\∀d0 H',H' e=some (XN e C (some d0))->H' d0=some (.xd (names.zip us))->(∀b o,b≠e->H b=some o->H' b=some o)->Q .non H'
def PH (T:Txt w K mg t):G3 P w K mg base "Faulty" t.dX 1 t.ua t.zr ["self", "place", "length", "kind"] (Kh t.dX ["place", "length", "kind"]):=by
 refine⟨T.mh,⟨T.kY,T.pW,T.pV,T.pO⟩,T.Vk,T.We.okQ LA (λvs H Q E h=>by obtain⟨e,us,rfl,g,_⟩:=h;rw[W0,g];rfl) λ_ _ _ _ H vs Q E j h=>?_⟩;obtain⟨e,us,rfl,g,hx,k⟩:=h;obtain⟨f,c,d,rfl⟩:∃f c d,us=[f,c,d]:=match us,g with|[f,c,d],_=>⟨f,c,d,rfl⟩
 have S:By K t.dX:=⟨T.kY,T.jE,T.pN⟩;refine⟨_,(ai (bE (Mv (K:=K) Z ⟨T.eb_0,T.eb_1,T.eb_2⟩ T.ph (ad (aa 0) (ad cj ae))))
  (ai (wZ (K:=K) rfl (aa 0) (aa 1))
  (ai (wZ (K:=K) rfl (aa 0) (aa 2))
  (aj (wZ (K:=K) rfl (aa 0) (aa 3)))))),?_⟩
 refine⟨WX Z,_,_,hx,T.kY,?_⟩;refine⟨e,_,_,rfl,hx,S,T.en_Faulty_place,λ_ d0 hd a=>?_,(λd0 z=>by cases z)⟩;refine⟨e,_,_,rfl,aF,S,T.en_Faulty_length,(λz=>by cases z),λd1 z=>?_⟩;cases z;refine c7 (by rw[ap a];exact aF) (WE (WW _) (WX Z)) ?_;refine⟨e,_,_,rfl,(by rw[ap (Ne.symm a)];exact aF),S,T.en_Faulty_kind,(λz=>by cases z),λd1 z=>?_⟩;cases z;refine c7 aF (WE (WW _) (WX Z)) ?_;refine k d0 _ ?_ ?_ (λb o i q=>?_)
 ·simp only [ap (Ne.symm a),aF]
 ·first|exact aF|(simp only [ap a,aF];rfl)
 ·have nd:b≠d0:=aB q hd;simp only [ap i,ap nd];exact q
def Da{H:Hp}{x dx C:Addr}{o:HO}(hx:H x=none)(a:H dx=none):af H (upd (upd (upd H dx (.own x)) x (.ins C dx [])) x o):=λb c q=>by rw[ap (aB q hx)];exact fW hx a b c q
def iz{H:Hp}{p a:Addr}{u:HO}(n:H p=none)(h:H a=some u):p≠a:=(aB h n).symm
def Kp.same{x:Addr}{b H c:Hp}(s:af b H)(k:Kp x H c)(n:b x=none):af b c:=λa u e=>k a u (aB e n) (s a u e)
theorem xX:∀es:List Ev,aU (iD es)=(aU es).take 1
 | []=>rfl
 | .sg n::es=>xX es
 | .ft p l k bs::es=>rfl
def lR{W:Wy}{a c:Hp}{x dx o b mt y:Addr}{D:Kt}(tn:TN t a o D)(wy:i6 t a y W)(s1:af a c)(fx:a x=none)(fb:a b=none)(fm:a mt=none)(nbm:b≠mt)(hx:c x=some (fu t W dx o b mt y 0 0 false))(hb:c b=some (.lst []))(d:c mt=some (.lst [])):br t W a c x dx o b mt y D [] false:=by
 have e:bQ W []=false/\bi W []=[]:=by cases W<;>exact⟨rfl,rfl⟩
 refine⟨tn,wy,s1,fx,fb,fm,nbm,0,[],0,[],?_,hb,⟨d,λ_ h=>nomatch h⟩,?_,λ_=>⟨rfl,rfl,rfl⟩⟩
 ·show c x=some (fu t W dx o b mt y 0 0 (bQ W []));rw[e.1];exact hx
 ·show _=aU (bi W []);rw[e.2];rfl
def JR(K:PySem.W.Frag)(t:Adr):Sp:=λvs H Q E=>∃(o a:Addr) (D:Kt) (row:e7),vs=[.ref o,.ref a]/\TN t H o D/\aE K H a (row.map V.int)/\aW row/\row.length<=1000 /\
 (aU (aG D row)=[]->∀q H',af H H'->H' q=some (.lst ((out D .pl row).map vO))->Q (.ref q) H') /\
 (∀p l k fs,aU (aG D row)=(p,l,k)::fs->∀e d0 H',af H H'->H' e=some (XO e t.dX (some d0))->H' d0=some (.xd [("place",.int (p:Int)),("length",.int (l:Int)),("kind",.str k)])->E (.ref t.dX) (some e) H')
def Pr (T:Txt w K mg t):GZ P w K mg base "read" 15 t.AI t.yy ["tongue", "row"] [] (JR K t):=by
 have kS:=λ(T:Txt w K mg t)=>mf (P:=P) (base:=base) T .pl;have xN:=λ(T:Txt w K mg t)=>rP (P:=P) (base:=base) T .pl;have rR:=λ(T:Txt w K mg t)=>o7 (P:=P) (base:=base) T .pl;refine⟨T.Ry,T.Hw.kp,⟨_,T.Ug,.nil⟩,T.Hw.okX qT (λvs H Q E h=>by obtain⟨o,a,D,row,rfl,_⟩:=h;rfl) λ_ _ _ _ H vs Q E m h=>?_⟩;obtain⟨o,a,D,row,rfl,tn,ha,hb,lr,kq,ke⟩:=h;have hu:=m.units;refine⟨_,(ai (aL (i:=2) qT.nd Z (.inl Z) (hJ (rO (K:=K) T) m (ad (aa 0) ae)))
  (ai (aL (i:=3) qT.nd rfl (.inl rfl) (cN (kS T) m (aa 2) (ad (aa 1) ae)))
  (ai (bE (cF (xN T) m (aa 2)))
  (ai (aI (gK (K:=K) rfl (cF (rR T) m (aa 2))) (ai (aL (i:=4) qT.nd rfl (.inl rfl) (au (Wv K) (cF (rR T) m (aa 2)) ah (λ_ _=>rfl)))
  (aj (Md (Es:=λ_=>E) (PH T) m rfl OV (ad (au (Wv K) (aa 4) ah (λ_ _=>rfl)) (ad (au (Wv K) (aa 4) ah (λ_ _=>rfl)) (ad (au (Wv K) (aa 4) ah (λ_ _=>rfl)) ae)))))) aK)
  (aj (am (aa 3))))))),?_⟩
 refine λx dx hx W a9=>?_;have sm:=fW (C:=t.cm) hx W;refine⟨x,dx,o,rfl,aF,λb mt H1 v nm nbm k1 k Y s=>⟨rfl,?_⟩⟩;have s1:af H H1:=Kp.same sm k1 hx;have R1:br t .pl H H1 x dx o b mt x D [] false:=lR tn trivial s1 hx (sm.free v) (sm.free nm) nbm k Y s;refine bI x dx _ rfl k rfl ⟨H,x,dx,o,b,mt,x,a,D,[],row,rfl,R1,ha,(λ_ h=>nomatch h),hb,by rw[Ya];lia,λq L ts V nq G R2 I hq al=>?_⟩;have R:q≠x:=iz nq k;have a0:q≠mt:=iz nq s;have M:=lI (H:=V) R G a0 hq;obtain⟨g2,r2,c2,L2,N,_⟩:=id R2.st;dsimp only [cO];refine fV (λσ' H'=>∃n,br t .pl (wo V [x,L,mt]) H' x dx o n mt x D row true/\σ'=[some (.ref o),some (.ref a),some (.ref x),some (.ref q),none]) (λnx hn=>?_) ?_
 ·exact⟨x,dx,_,Z,N,Z,wo V [x,L,mt],x,dx,o,L,mt,x,D,row,Z,R2.side,hb,lr,λq3 n ax H3 a8 _ r _ _ _=>hn _ _ ⟨n,r,Z⟩⟩
 rintro σ' H3 ⟨n,r,rfl⟩;have O:=r.sb _ _ M;have u:af H H3:=(af.wo R2.sb R2.none3).trans r.sb;obtain⟨g3,r3,c3,y,d,_,g,eL3,_⟩:=r.st;have eL3:y.map (λx=>x.2)=aU (iD (aG D row)):=eL3;rw[xX]at eL3;refine bI x dx _ Z d Z (jJ λzq U=>⟨x,dx,o,n,mt,x,_,_,_,y,Z,d,g,λp4 H4 f=>U _ _ ?_⟩);refine ba (.inl f.lst) ?_;cases ef:aU (aG D row) with
 | nil =>
  rw[ef]at eL3;obtain rfl:y=[]:=List.map_eq_nil_iff.mp eL3;refine kq ef q H4 (u.trans f.sm) ?_;have I:out D .pl row=ts:=I;rw[I];exact f.sm _ _ O
 | cons z fs =>
  obtain⟨pp,l,S⟩:=z;rw[ef]at eL3;cases y with
  | nil=>cases eL3
  | cons z0 L4 =>
  have ez:z0.2=(pp,l,S):=(List.cons.inj eL3).1;have p:=g.2 z0 (W3 ..);rw[ez]at p;refine bI x dx _ Z (f.sm _ _ d) Z (jJ λzq U=>⟨x,dx,o,n,mt,x,_,_,_,_,Z,f.sm _ _ d,g.mono f.sm,λp5 H5 F=>U _ _ ?_⟩);refine aR _ (.ref z0.1) (.inl F.lst) (aD (j:=0) Z) ?_;have c:=F.sm _ _ (f.sm _ _ p);refine aR _ (.int (pp:Int)) (.inr (.of c)) (aD (j:=0) Z) ?_;refine aR _ (.int (l:Int)) (.inr (.of c)) (aD (j:=1) Z) ?_;refine aR _ (.str S) (.inr (.of c)) (aD (j:=2) Z) ?_;have B:=u.trans (f.sm.trans F.sm);refine⟨WX rfl,λe he=>⟨e,_,rfl,rfl,aF,λd0 H' x1 J z1=>⟨rfl,e,some d0,rfl,x1,?_⟩⟩⟩;have ne:d0≠e:=λz=>by rw[z,x1]at J;cases J
  refine ke pp l S fs ef e d0 _ (λb o q=>?_) aF ?_
  ·have q2:=B _ _ q;have v:=aB q2 he;rw[ap v];exact z1 b o v (by rw[ap v];exact q2)
  ·rw[ap ne];exact J
def JP(K:PySem.W.Frag)(t:Adr):Sp:=λvs H Q _=>∃(o a:Addr) (D:Kt) (row:e7),vs=[.ref o,.ref a]/\TN t H o D/\aE K H a (row.map V.int)/\aW row/\row.length<=1000/\GW D row H Q
def P9 (T:Txt w K mg t):bj P w K mg base "rest_of" 15 t.AH t.yw ["tongue", "row"] (JP K t):=by
 have kS:=λ(T:Txt w K mg t)=>mf (P:=P) (base:=base) T .pl;refine⟨T.Rw,T.Hv.kp,T.Uf,T.Hv.okQ CV (λvs H Q E h=>by obtain⟨o,a,D,row,rfl,_⟩:=h;rfl) λ_ _ _ _ H vs Q E d h=>?_⟩;obtain⟨o,a,D,row,rfl,tn,F,hb,lr,s,B⟩:=h;have L:=d.units;refine⟨_,(ai (aL (i:=2) CV.nd Z (.inl Z) (hJ (rO (K:=K) T) d (ad (aa 0) ae)))
  (ai (bE (cN (kS T) d (aa 2) (ad (aa 1) ae)))
  (aj (am (cF (xM T) d (aa 2)))))),?_⟩
 refine λx dx hx k v=>?_;have sm:=fW (C:=t.cm) hx k;refine⟨x,dx,o,rfl,aF,λb mt r I nm nbm k1 c l j=>⟨rfl,?_⟩⟩;have s1:af H r:=Kp.same sm k1 hx;have G:br t .pl H r x dx o b mt x D [] false:=lR tn trivial s1 hx (sm.free I) (sm.free nm) nbm c l j;refine bI x dx _ rfl c rfl ⟨H,x,dx,o,b,mt,x,a,D,[],row,rfl,G,F,(λ_ h=>nomatch h),hb,by rw[Ya];lia,λq y U S nq u R2 J hq z=>?_⟩;obtain⟨M,N,R,O,e,_⟩:=id R2.st;exact⟨x,dx,_,Z,e,Z,H,x,dx,o,y,mt,x,D,row,Z,R2,hb,λn p g=>s n p (R2.sb.trans g),λm f q p g=>B m f q p (R2.sb.trans g)⟩
structure Rx where
 x:Addr
 dx:Addr
 o:Addr
 b:Addr
 mt:Addr
 y:Addr
 W:Wy
 D:Kt
 ws:e7
 e:Bool
abbrev mG(t:Adr)(Hb H:Hp)(r:Rx):Prop:=br t r.W Hb H r.x r.dx r.o r.b r.mt r.y r.D r.ws r.e
def b7(r:Rx):List Addr:=[r.x,r.b,r.mt]
abbrev fG(r:Rx)(b:Addr)(ws:e7)(e:Bool):Rx:={ r with b:=b,ws:=ws,e:=e }
def d9(X:Nat->Rx)(i:Nat)(r:Rx):Nat->Rx:=λj=>if j=i then r else X j
def gW{X:Nat->Rx}{i:Nat}{r:Rx}:d9 X i r i=r:=ZQ rfl
def fQ{X:Nat->Rx}{i j:Nat}{r:Rx}(h:j≠i):d9 X i r j=X j:=ZP h
structure bd (t:Adr) (Hc H:Hp) (n:Nat) (X:Nat->Rx):Prop where
 sm:af Hc H
 u:∀j<n,mG t Hc H (X j)
 dis:∀i<n,∀j<n,i≠j->∀c∈b7 (X i),c∉b7 (X j)
def bJ(n:Nat)(X:Nat->Rx)(c:Addr):Prop:=∀j<n,c∉b7 (X j)
section
variable {Hc Hd H H':Hp}{n m:Nat}{X Y:Nat->Rx}{i:Nat}{c q b':Addr}{ws:e7}{e:Bool}
def bd.call(h:bd t Hc H n X)(b:i<n)(k:mG t (wo H (b7 (X i))) H' (fG (X i) b' ws e)) :
 bd t Hc H' n (d9 X i (fG (X i) b' ws e))/\∀c v,H c=some v->bJ n X c->H' c=some v/\bJ n (d9 X i (fG (X i) b' ws e)) c:=by
 have d:=h.u i b;have kept:∀c v,H c=some v->c∉b7 (X i)->H' c=some v/\c∉b7 (fG (X i) b' ws e):=λc v e n=>by
  have w:=jF n e;refine⟨k.sb _ _ w,λz=>?_⟩;rw[k.none3 c z]at w;cases w
 refine⟨⟨(af.wo h.sm d.none3).trans k.sb,λj hj=>?_,λj hj l m ne c a z=>?_⟩,λc v e f=>⟨(kept c v e (f i b)).1,λj hj=>?_⟩⟩
 ·by_cases e:j=i
  ·subst e;rw[gW];exact k.back (af.wo h.sm d.none3) d.tn d.wy
  ·rw[fQ e];exact (h.u j hj).other k.sb (λc a z=>h.dis j hj i b e c a z) d.none3 (λc a u z=>by obtain⟨v,g,o⟩:=d.some3 c a;rw[g]at z;exact o u (WZ z))
 ·by_cases ej:j=i
  ·have el:l≠i:=λz=>ne (ej.trans z.symm);rw[ej,gW]at a;rw[fQ el]at z;obtain⟨v,g,_⟩:=(h.u l m).some3 c z;exact (kept c v g (h.dis l m i b el c z)).2 a
  ·rw[fQ ej]at a;by_cases el:l=i
   ·rw[el,gW]at z;obtain⟨v,g,_⟩:=(h.u j hj).some3 c a;exact (kept c v g (h.dis j hj i b ej c a)).2 z
   ·rw[fQ el]at z;exact h.dis j hj l m ne c a z
 ·by_cases ej:j=i
  ·rw[ej,gW];exact (kept c v e (f i b)).2
  ·rw[fQ ej];exact f j hj
def bd.grow(h:bd t Hc H n X)(s:af H H'):bd t Hc H' n X:=⟨h.sm.trans s,λj hj=>(h.u j hj).grow s,h.dis⟩
def bd.kp(h:bd t Hc H n X)(s:∀d u,d≠c->H d=some u->H' d=some u)(f:bJ n X c)(fc:Hc c=none)(b:∀u,H c≠some (.tup u)):bd t Hc H' n X:=⟨λa u e=>s a u (aB e fc) (h.sm _ _ e),λj hj=>(h.u j hj).other (X:=[c]) (λd v q=>s d v (λz=>by rw[z,im (by simp)]at q;cases q) (iI d v q)) (λd hd z=>f j hj (by rw[<- WK.mp z];exact hd)) (λd hd=>by rw[WK.mp hd];exact fc) (λd hd v q=>by rw[WK.mp hd]at q;exact b v q),h.dis⟩
def bd.new(h:bd t Hc H n X)(nq:H q=none):bJ n X q:=λj hj z=>by
 obtain⟨v,a,_⟩:=(h.u j hj).some3 q z;rw[nq]at a;cases a
def bd.out(h:bd t Hc H n X){v:HO}(e:Hc c=some v):bJ n X c:=λj hj z=>by
 rw[(h.u j hj).none3 c z]at e;cases e
def bd.at_(h:bd t Hc H n X)(a:i<n){W:Wy}(hW:(X i).W=W)(hw:(X i).ws=ws)(c:(X i).e=e):br t W (wo H (b7 (X i))) H (X i).x (X i).dx (X i).o (X i).b (X i).mt (X i).y (X i).D ws e:=by
 subst hW hw c;exact (h.u i a).side
def bd.to{r:Rx}{W:Wy}(hW:r.W=W)(h:br t W Hc H r.x r.dx r.o b' r.mt r.y r.D ws e):mG t Hc H (fG r b' ws e):=by
 subst hW;exact h
def cells(X:Nat->Rx):Nat->List Addr
 | 0=>[]
 | n+1=>b7 (X n)++cells X n
theorem kK:∀ {n:Nat},c∈cells X n ↔ ∃j,j<n/\c∈b7 (X j)
 | 0=>⟨(λh=>nomatch h),λ⟨_,h,_⟩=>ZR h (Xw _)⟩
 | n+1=>by
  show c∈b7 (X n)++cells X n ↔ _;rw[WQ,kK (n:=n)]
  constructor
  ·rintro (h|⟨j,hj,h⟩)
   ·exact⟨n,WW _,h⟩
   ·exact⟨j,YY hj,h⟩
  ·rintro⟨j,hj,h⟩;by_cases e:j=n
   ·rw[e]at h;exact .inl h
   ·exact .inr ⟨j,by lia,h⟩
def bd.rebase(h:bd t Hc H n X)(a:List Addr)(hz:∀c∈a,Hc c=none):bd t (wo H (cells X n++a)) H n X/\af Hc (wo H (cells X n++a))/\∀c v,H c=some v->bJ n X c->c∉a->wo H (cells X n++a) c=some v:=by
 have g:af Hc (wo H (cells X n++a)):=af.wo h.sm λc b=>by
  rcases WQ.mp b with q|q
  ·obtain⟨j,hj,b⟩:=kK.mp q;exact (h.u j hj).none3 c b
  ·exact hz c q
 have d:∀j<n,∀c∈b7 (X j),wo H (cells X n++a) c=none:=λj hj c b=>im (Xc _ (kK.mpr ⟨j,hj,b⟩));refine⟨⟨iI,λj hj=>?_,h.dis⟩,g,λc v e f i=>jF (λz=>?_) e⟩
 ·have u:=h.u j hj;exact⟨u.tn.mono g,u.wy.mono g,iI,d j hj _ (by simp[b7]),d j hj _ (by simp[b7]),d j hj _ (by simp[b7]),u.nbm,u.st⟩
 ·rcases WQ.mp z with q|q
  ·obtain⟨j,hj,b⟩:=kK.mp q;exact f j hj b
  ·exact i q
def mC(n:Nat)(X Y:Nat->Rx):Nat->Rx:=λj=>if j<n then X j else Y (j-n)
def j6{j:Nat}(h:j<n):mC n X Y j=X j:=ZQ h
def mz{j:Nat}:mC n X Y (n+j)=Y j:=by
 unfold mC;rw[ZP (by lia),XT]
def bd.join(h:bd t Hc H n X)(k:bd t Hd H' m Y)(s:af H Hd)(tn:∀j<m,TN t Hc (Y j).o (Y j).D)(wy:∀j<m,(Y j).W=.pl\/H (Y j).y=none) :
 ∃Hb,af Hc Hb/\bd t Hb H' (n+m) (mC n X Y)/\∀c v,Hd c=some v->bJ n X c->Hb c=some v:=by
 have q:af Hc (wo Hd (cells X n)):=af.wo (h.sm.trans s) λc b=>by
  obtain⟨j,hj,b⟩:=kK.mp b;exact (h.u j hj).none3 c b
 have kept:∀c v,Hd c=some v->bJ n X c->wo Hd (cells X n) c=some v:=λc v e f=>jF (λz=>by obtain⟨j,hj,b⟩:=kK.mp z;exact f j hj b) e;have sb:af (wo Hd (cells X n)) H':=λa u e=>k.sm _ _ (iI _ _ e);have x:∀j<m,∀c∈b7 (Y j),wo Hd (cells X n) c=none:=λj hj c b=>by
  cases e:wo Hd (cells X n) c with
  | none=>rfl
  | some v=>have:=iI _ _ e;rw[(k.u j hj).none3 c b]at this;cases this
 have r:∀j<n,∀c∈b7 (X j),wo Hd (cells X n) c=none:=λj hj c b=>im (kK.mpr ⟨j,hj,b⟩);have B:∀i<n,∀j<m,∀c∈b7 (X i),c∉b7 (Y j):=λi g j hj c b z=>by
  obtain⟨v,F,_⟩:=(h.u i g).some3 c b;have:=s _ _ F;rw[(k.u j hj).none3 c z]at this;cases this
 refine⟨wo Hd (cells X n),q,⟨sb,λj hj=>?_,λi g j hj ne c b z=>?_⟩,kept⟩
 ·by_cases l:j<n
  ·rw[j6 l];have u:=(h.u j l).grow (s.trans k.sm);exact⟨u.tn.mono q,u.wy.mono q,sb,r j l _ (by simp[b7]),r j l _ (by simp[b7]),r j l _ (by simp[b7]),u.nbm,u.st⟩
  ·obtain⟨i,rfl⟩:∃i,j=n+i:=⟨j-n,by lia⟩;have g:i<m:=by lia
   rw[mz];have u:=k.u i g;have wyB:i6 t (wo Hd (cells X n)) (Y i).y (Y i).W:=by
    have p:=u.wy;rcases wy i g with z|z
    ·rw[z];exact trivial
    ·have C:bJ n X (Y i).y:=h.new z;cases e:(Y i).W with
     | pl=>exact trivial
     | se=>rw[e]at p;obtain⟨d,p⟩:=p;exact⟨d,kept _ _ p C⟩
     | pn=>rw[e]at p;obtain⟨d,p⟩:=p;exact⟨d,kept _ _ p C⟩
   exact⟨(tn i g).mono q,wyB,sb,x i g _ (by simp[b7]),x i g _ (by simp[b7]),x i g _ (by simp[b7]),u.nbm,u.st⟩
 ·by_cases li:i<n
  ·rw[j6 li]at b;by_cases lj:j<n
   ·rw[j6 lj]at z;exact h.dis i li j lj ne c b z
   ·obtain⟨l,rfl⟩:∃l,j=n+l:=⟨j-n,by lia⟩;rw[mz]at z;exact B i li l (by lia) c b z
  ·obtain⟨l,rfl⟩:∃l,i=n+l:=⟨i-n,by lia⟩;rw[mz]at b;by_cases lj:j<n
   ·rw[j6 lj]at z;exact B j lj l (by lia) c z b
   ·obtain⟨G,rfl⟩:∃l,j=n+l:=⟨j-n,by lia⟩;rw[mz]at z;exact k.dis l (by lia) G (by lia) (λe=>ne (by rw[e])) c b z
end
def bd.sub{a b H:Hp}{n:Nat}{X:Nat->Rx}(h:bd t b H n X)(s:af a b)(tn:∀j<n,TN t a (X j).o (X j).D)(wy:∀j<n,i6 t a (X j).y (X j).W):bd t a H n X:=⟨s.trans h.sm,λj hj=>(h.u j hj).back s (tn j hj) (wy j hj),h.dis⟩
def bd.one{a H:Hp}{r:Rx}(h:mG t a H r):bd t a H 1 (λ_=>r):=⟨h.sb,λ_ _=>h,λi b j hj ne=>ZR (show i=j by lia) ne⟩
def bd.nil{a H:Hp}(s:af a H)(X:Nat->Rx):bd t a H 0 X:=⟨s,λ_ h=>ZR h (Xw _),λ_ h=>ZR h (Xw _)⟩
def gk(p:Nat->Bool):Nat->e7
 | 0=>[]
 | n+1=>gk p n++(if p n=true then [(n:Int)] else [])
theorem EN(p:Nat->Bool):∀n,(gk p n).length<=n
 | 0=>WB _
 | n+1=>by
  show (gk p n++(if p n=true then [(n:Int)] else [])).length<=_;have:=EN p n;rw[WC]
  split
  ·exact XR this
  ·exact Ze this
theorem EO{p a:Nat->Bool}:∀ {n:Nat},(∀j<n,p j=a j)->gk p n=gk a n
 | 0,_=>rfl
 | n+1,h=>by
  show gk p n++_=gk a n++_;rw[EO λj hj=>h j (YY hj),h n (WW n)]
def tm{a:Addr}{xs:List V}{cs:St}{d:TT}{h:TE}{H:Hp}{Q:VK}(p:Nat->Bool)(l:∀b,af H b->aE K b a xs)(hz:xs.length<=100)
 (hs:∀i x b (N:Bool->Hp->Prop),xs[i]? = some x->af H b->(∀c,af H c->N (p i) c)->d (some (.int (i:Int))::some x::cs) b N) (j:∀i x b (N:VK),N (.int (i:Int)) b->h (some (.int (i:Int))::some x::cs) b N)
 (hd:∀q b,af H b->b q=some (.lst ((gk p xs.length).map V.int))->Q (.ref q) b) :
 iG (iF K a) H (List.replicate 2 none++cs) (ml K 2 (jX (cO 0) (jX (cO 1) pv))) d h Q:=by
 refine S1 (xs:=xs) (λi ys b=>af H b/\ys=(gk p i).map V.int) ⟨af.refl _,rfl⟩ (λi ys b _ z=>⟨l _ z.1,by rw[z.2,WA];exact EN p i⟩) (bM (by lia)) (λi x ys k c N hx z s hN=>?_) λys k q c z g=>hd q c (z.1.trans g.sm) (by rw[g.at_,z.2]);obtain⟨s1,rfl⟩:=z;refine hs i x c _ hx (s1.trans s) λm f=>?_;have e:gk p (i+1)=gk p i++(if p i=true then [(i:Int)] else []):=rfl;cases hp:p i with
 | true =>
  rw[ZQ rfl];refine j i x m _ (hN _ _ ⟨f,?_⟩);rw[e,hp,ZQ rfl,WI]
  rfl
 | false =>
  rw[ZP (by decide)];refine hN _ _ ⟨f,?_⟩;rw[e,hp,ZP (by decide),WM]
def iM{α:Type}{n i:Nat}{f:Nat->α}(h:i<n):((List.range n).map f)[i]? = some (f i):=by
 rw[WJ,Y5 h];rfl
def bZ{α:Type}{n:Nat}{f:Nat->α}:((List.range n).map f).length=n:=by simp
def iL{α:Type}{n i:Nat}{f:Nat->α}{v:α}(h:((List.range n).map f)[i]? = some v):i<n/\v=f i:=by
 have l:=(WF.mp h).1;rw[bZ]at l;rw[iM l]at h;exact⟨l,(WZ h).symm⟩
def i9(W:Wy)(o:Nat->Addr)(a:Nat->Kt)(ws:e7)(e:Bool)(n:Nat)(X:Nat->Rx):Prop:=∀j<n,(X j).W=W/\(X j).o=o j/\(X j).D=a j/\(X j).ws=ws/\(X j).e=e
def NY{W:Wy}{c a:Hp}{x dx o b mt y:Addr}{D:Kt}(R:br t W c a x dx o b mt y D [] false):bd t c a 1 (λ_=>⟨x,dx,o,b,mt,y,W,D,[],false⟩):=bd.one (r:=⟨x,dx,o,b,mt,y,W,D,[],false⟩) R
def bd.more{f k H m:Hp}{n:Nat}{X:Nat->Rx}{W:Wy}{x dx o b mt y:Addr}{D:Kt}(h:bd t f H n X)(s:af H k)(R:br t W k m x dx o b mt y D [] false)(tn:TN t f o D)(wy:W=.pl\/H y=none):∃a,af f a/\bd t a m (n+1) (d9 X n ⟨x,dx,o,b,mt,y,W,D,[],false⟩):=by
 obtain⟨a,s1,d,_⟩:=h.join (NY R) s (λ_ _=>tn) (λ_ _=>wy);have e:∀j<n+1,mC n X (λ_=>(⟨x,dx,o,b,mt,y,W,D,[],false⟩:Rx)) j=d9 X n ⟨x,dx,o,b,mt,y,W,D,[],false⟩ j:=λj hj=>by
  by_cases ej:j=n
  ·rw[ej,gW];exact ZP (by lia)
  ·rw[fQ ej];exact ZQ (by lia)
 exact⟨a,s1,d.sm,λj hj=>by rw[<- e j hj];exact d.u j hj,λi g j hj ne c l=>by rw[<- e i g]at l;rw[<- e j hj];exact d.dis i g j hj ne c l⟩
def Dl{α β:Type}{g:α->β}{X:Nat->α}{n:Nat}{r:α}{Y:Nat->α}(b:Y n=r)(a:∀j<n,Y j=X j):(List.range n).map (λj=>g (X j))++[g r]=(List.range (n+1)).map λj=>g (Y j):=by
 rw[Xt,WI,List.map_singleton,b]
 congr 1
 exact Xx λj hj=>by rw[a j (WV.mp hj)]
def FU{H a:Hp}{n:Nat}{X:Nat->Rx}{r:Rx}(s:af H a)(f:∀c v,H c=some v->bJ n X c)(b:∀c∈b7 r,a c=none):∀c v,H c=some v->bJ (n+1) (d9 X n r) c:=λc v e j hj=>by
 by_cases ej:j=n
 ·rw[ej,gW];exact λz=>by have:=s _ _ e;rw[b c z]at this;cases this
 ·rw[fQ ej];exact f c v e j (by lia)
def uO{W:Wy}{o:Nat->Addr}{a:Nat->Kt}{n:Nat}{X:Nat->Rx}{x dx b mt y:Addr}(h:i9 W o a [] false n X):i9 W o a [] false (n+1) (d9 X n ⟨x,dx,o n,b,mt,y,W,a n,[],false⟩):=λj hj=>by
 by_cases ej:j=n
 ·rw[ej,gW];exact⟨rfl,rfl,rfl,rfl,rfl⟩
 ·rw[fQ ej];exact h j (by lia)
def wW{n:Nat}{X:Nat->Rx}{r:Rx}:(List.range n).map (λj=>V.ref (X j).x)++[.ref r.x]=(List.range (n+1)).map λj=>V.ref (d9 X n r j).x:=Dl (g:=λr:Rx=>V.ref r.x) (X:=X) (r:=r) gW λj hj=>fQ (by lia)
def bd.pln{c d H:Hp}{n:Nat}{X:Nat->Rx}{o:Nat->Addr}{f:Nat->Kt}{ws:e7}{e:Bool}(h:bd t d H n X)(s:af c d)(sh:i9 .pl o f ws e n X)(tn:∀j<n,TN t c (o j) (f j)):bd t c H n X:=h.sub s (λj hj=>by obtain⟨_,a,b,_⟩:=sh j hj;rw[a,b];exact tn j hj) (λj hj=>by rw[(sh j hj).1];exact trivial)
def J6(t:Adr):Sp:=λvs H Q _=>∃(z c a:Addr) (n:Nat) (o:Nat->Addr) (b:Nat->Kt),vs=[.ref z,.ref a]/\H z=some (.ins t.fo c [])/\wo H [z] a=some (.lst ((List.range n).map λj=>V.ref (o j)))/\(∀j<n,TN t (wo H [z]) (o j) (b j))/\n<=3 /\
 ∀p Y H',bd t (wo H [z]) H' n Y->i9 .pl o b [] false n Y->H' z=some (.ins t.fo c [("readers",.ref p)])->H' p=some (.lst ((List.range n).map λj=>V.ref (Y j).x))->bJ n Y p->bJ n Y z->H p=none->Q .non H'
def Py (T:Txt w K mg t):jD P w K mg base "Guesser" t.fo 3 t.Br t.zm ["self", "tongues"] [] (J6 t):=⟨T.Q3,T.oU,⟨[],T.Vg,.nil⟩,by
 refine T.V9.okQ Lx (λvs H Q E h=>by obtain⟨z,S,a,n,o,q,rfl,_⟩:=h;rfl) λ_ _ _ _ H vs Q E hr h=>?_;obtain⟨z,S,a,n,o,q,rfl,hz,ha,tn,n3,k⟩:=h;refine⟨_,(aj (c8 (K:=K) rfl (aa 0) (hG rfl (cq.of (fns:=(al rg).names) (N:=["self", "tongues"]) (Nc:=["tongue"]) (nv:=1) (caps:=[]) rfl rfl (by decide +kernel)) (cC (K:=K) rfl (aa 1)) (λ_ _ _ _=>(aX (i:=0) (show List.Nodup (["tongue"]:List Str) by decide +kernel) rfl (Or.inl rfl) (Or.inr rfl))) (λ_ _ _ _=>fX) (λ_ _ _ _=>(hJ (rO (K:=K) T) hr (ad (aa 0) ae)))))),?_⟩;refine cB a rfl ⟨_,.of (iI _ _ ha)⟩ (j5 (K:=K) (a:=a) (xs:=(List.range n).map λj=>V.ref (o j)) (λi ys D=>af H D/\∃Y:Nat->Rx,bd t (wo H [z]) D i Y/\i9 .pl o q [] false i Y/\(∀c v,H c=some v->bJ i Y c)/\ys=(List.range i).map (λj=>V.ref (Y j).x)) ⟨af.refl _,(λ_=>⟨0,0,0,0,0,0,.pl,.ld,[],false⟩),bd.nil iI _,(λj hj=>ZR hj (Xw _)),(λc v _ j hj=>ZR hj (Xw _)),rfl⟩ (λi ys D _ y=>⟨.of (y.1 _ _ (iI _ _ ha)),?_⟩) (bM (by rw[bZ];lia)) (λi v ys G N hv y hN=>?_) λys G p M y f=>?_)
 ·obtain⟨_,Y,_,_,_,rfl⟩:=y;rw[bZ];exact WB _
 ·obtain⟨s1,Y,l,sh,B,rfl⟩:=y;obtain⟨W,rfl⟩:=iL hv;refine λx dx hx O a1=>?_;have sm:=fW (C:=t.cm) hx O;refine⟨x,dx,o i,rfl,aF,λb mt M nb nm nbm k2 I F L=>⟨rfl,?_⟩⟩;have s:af G M:=Kp.same sm k2 hx;have R:br t .pl G M x dx (o i) b mt x (q i) [] false:=lR ((tn i W).mono l.sm) trivial s hx (sm.free nb) (sm.free nm) nbm I F L;obtain⟨He,se,J⟩:=l.more (af.refl _) R (tn i W) (.inl rfl);have m:=uO (x:=x) (dx:=dx) (b:=b) (mt:=mt) (y:=x) sh;exact hN _ _ ⟨s1.trans s,_,J.pln se m (λj hj=>tn j (by lia)),m,FU s1 B R.none3,wW (r:=⟨x,dx,o i,b,mt,x,.pl,q i,[],false⟩)⟩
 ·obtain⟨s1,Y,l,sh,B,rfl⟩:=y;rw[bZ]at l sh B f;have s:=s1.trans f.sm;have g:=s _ _ hz;refine cL z _ S _ rfl g T.lh T.jT (WE YB (by decide)) ?_;have U:=B z _ hz;have J:=l.grow f.sm;refine k p Y _ (J.kp (c:=z) (λd u n e=>by rw[ap n];exact e) U (im (by simp)) (λu e=>by rw[g]at e;cases e)) sh (by rw[aF];rfl) (by rw[ap (bA f.at_ g (by intro z;cases z))];exact f.at_) (l.new f.nw) U (s1.free f.nw)⟩
def BE(N s n:Nat)(c:e7)(X a:Nat->Rx):Prop:=∀j<N,a j=fG (X j) (a j).b (if s<=j/\j<s+n then c else (X j).ws) (X j).e
def jb(H a:Hp)(N:Nat)(X b:Nat->Rx):Prop:=∀c v,H c=some v->bJ N X c->a c=some v/\bJ N b c
def jb.trans{H a d:Hp}{N:Nat}{X g b:Nat->Rx}(h:jb H a N X g)(k:jb a d N g b):jb H d N X b:=λc v e f=>k c v (h c v e f).1 (h c v e f).2
def jb.same{H a:Hp}{N:Nat}{X:Nat->Rx}(s:af H a):jb H a N X X:=λc v e f=>⟨s _ _ e,f⟩
def Ka(t:Adr):Sp:=λvs H Q _=>∃(c:Hp) (N:Nat) (X:Nat->Rx) (z d p a:Addr) (s n:Nat) (b ws:e7),vs=[.ref z,.ref a]/\bd t c H N X/\c z=some (.ins t.fo d [("readers",.ref p)])/\c p=some (.lst ((List.range n).map λj=>V.ref (X (s+j)).x))/\H a=some (.lst (ws.map V.int))/\bJ N X a/\s+n<=N/\(∀j<n,(X (s+j)).W=.pl/\(X (s+j)).ws=b/\(X (s+j)).e=false)/\aW b/\aW ws/\b.length+ws.length<=1000 /\
 ∀X' H',bd t c H' N X'->BE N s n (b++ws) X X'->jb H H' N X X'->Q .non H'
def QK (T:Txt w K mg t):bB P w K mg base t.fo "feed" 14 t.Bs t.zn ["self", "row"] (Ka t):=by
 have kS:=λ(T:Txt w K mg t)=>mf (P:=P) (base:=base) T .pl;refine⟨T.lh,T.oH,T.Vh,T.Wa.okQ C8 (λvs H Q E h=>by obtain⟨U,N,X,z,I,p,a,s,n,m,ws,rfl,_⟩:=h;rfl) λa4 A outer sh H vs Q E hr h=>?_⟩;obtain⟨U,N,X,z,I,p,a,s,n,m,ws,rfl,B,hz,J,ha,fa,sn,hX,b0,bw,lw,k⟩:=h;refine⟨_,(aj (cw PassesOwn.never Z (cC (K:=K) Z (aJ (K:=K) Z (aa 0))) (aX (i:=2) C8.nd Z (.inl Z)) (aj (bE (cN (kS T) hr (aa 2) (ad (aa 1) ae)))))),?_⟩;refine bu z _ I _ _ Z (B.sm _ _ hz) T.lh T.jT Z ?_;refine⟨p,Z,⟨_,.of (B.sm _ _ J)⟩,kT (K:=K) (a:=p) (xs:=(List.range n).map λj=>V.ref (X (s+j)).x) (λi σ C=>∃(d:Nat->Rx) (F:Option V),bd t U C N d/\BE N s i (m++ws) X d/\jb H C N X d/\σ=[some (.ref z),some (.ref a),F])
  ⟨X,_,B,(λj hj=>by rw[ZP (by lia)]),jb.same (af.refl _),rfl⟩ (λi σ C _ y=>by obtain⟨d,_,f,_⟩:=y;exact .of (f.sm _ _ J)) ?_ ?_⟩
 ·rintro i v σ M NN eN hv ⟨d,F,f,l,kp,rfl⟩;obtain⟨li,rfl⟩:=iL hv;have lN:s+i<N:=by lia
  obtain⟨eW,ew,S⟩:=hX i li;have eX:=l (s+i) lN;rw[ZP (by lia)]at eX;have O:(d (s+i)).x=(X (s+i)).x:=by rw[eX]
  have xW:(d (s+i)).W=.pl:=by rw[eX];exact eW
  have R:=f.at_ lN xW (ws:=m) (e:=false) (by rw[eX];exact ew) (by rw[eX];exact S);obtain⟨g,r,c,L,hx,_⟩:=id R.st;obtain⟨G,u⟩:=kp a _ ha fa;refine⟨(d (s+i)).x,(d (s+i)).dx,_,by rw[O],hx,rfl,?_⟩;refine⟨_,(d (s+i)).x,(d (s+i)).dx,(d (s+i)).o,(d (s+i)).b,(d (s+i)).mt,(d (s+i)).y,a,(d (s+i)).D,m,ws,by rw[O];rfl,R,.of (jF (u _ lN) G),b0,bw,lw,λq b' ts H2 nq Y R2 _ _ _=>?_⟩;obtain⟨f2,k2⟩:=f.call lN (bd.to xW R2);subst eN;refine⟨_,_,f2,λj hj=>?_,kp.trans k2,Z⟩;by_cases ej:j=s+i
  ·rw[ej,gW,ZQ (by lia),eX,S]
  ·rw[fQ ej,l j hj];by_cases c:s<=j/\j<s+i
   ·rw[ZQ c,ZQ (by lia)]
   ·rw[ZP c,ZP (by lia)]
 ·rintro σ M ⟨d,F,f,l,kp,rfl⟩;rw[bZ]at l;exact k d M f l kp
open Classical in
noncomputable def oX(D:Kt)(ws:e7):Bool:=decide (mJ D ws)
open Classical in
noncomputable def lz(D:Kt)(ws:e7):Bool:=decide (kl D ws)
def EH{q:Addr}{b:Bool}{H:Hp}{Q:VK}(h:Q (.bl b) H):mn b (.ref q) .non H Q:=by
 have e:(if b=true then !decide (V.ref q=V.non) else decide (V.ref q=V.non))=b:=by cases b<;>simp
 show Q (.bl _) H;rw[e];exact h
def EI{b:Bool}{H:Hp}{Q:VK}(h:Q (.bl (!b)) H):mn b .non .non H Q:=by
 have e:(if b=true then !decide (V.non=V.non) else decide (V.non=V.non)) = !b:=by cases b<;>simp
 show Q (.bl _) H;rw[e];exact h
def Ed{D:Kt}{ws:e7}(h:mJ D ws):oX D ws=true:=@decide_eq_true _ (Classical.propDecidable _) h
def Ee{D:Kt}{ws:e7}(h:¬mJ D ws):oX D ws=false:=@decide_eq_false _ (Classical.propDecidable _) h
def GP{D:Kt}{ws:e7}(h:kl D ws):lz D ws=true:=@decide_eq_true _ (Classical.propDecidable _) h
def Ai{D:Kt}{ws:e7}(h:¬kl D ws):lz D ws=false:=@decide_eq_false _ (Classical.propDecidable _) h
def CB(t:Adr)(pB:Kt->e7->Bool):Sp:=λvs H Q _=>∃(a:Hp) (N:Nat) (X:Nat->Rx) (z c p:Addr) (s n:Nat) (b:Nat->Kt) (ws:e7),vs=[.ref z]/\bd t a H N X/\a z=some (.ins t.fo c [("readers",.ref p)])/\a p=some (.lst ((List.range n).map λj=>V.ref (X (s+j)).x))/\s+n<=N/\n<=3/\(∀j<n,(X (s+j)).W=.pl/\(X (s+j)).ws=ws/\(X (s+j)).e=false/\(X (s+j)).D=b j)/\aW ws /\
 ∀q H',af H H'->H' q=some (.lst ((gk (λj=>pB (b j) ws) n).map V.int))->Q (.ref q) H'
def QJ (T:Txt w K mg t):bB P w K mg base t.fo "may" 9 t.Bq t.zl ["self"] (CB t oX):=by
 refine⟨T.lh,T.oG,T.Vf,T.V8.okQ Lw (λvs H Q E h=>by obtain⟨W,N,X,z,B,p,s,n,u,ws,rfl,_⟩:=h;rfl) λO A outer sh H vs Q E U h=>?_⟩;obtain⟨W,N,X,z,B,p,s,n,u,ws,rfl,a,hz,C,Y,n3,hX,hb,k⟩:=h;refine⟨_,(aj (am (hG rfl (cq.of (fns:=(al rf).names) (N:=["self"]) (Nc:=["number", "reader"]) (nv:=2) (caps:=[]) rfl rfl (by decide +kernel)) (gZ (K:=K) rfl rfl T.n_enumerate (ad (aJ (K:=K) rfl (aa 0)) ae)) (λ_ _ _ _=>(gH (K:=K) rfl (n:=2) rfl (cD (aX (i:=0) (show List.Nodup (["number", "reader"]:List Str) by decide +kernel) rfl (Or.inl rfl) (Or.inr rfl)) (cD (aX (i:=1) (show List.Nodup (["number", "reader"]:List Str) by decide +kernel) rfl (Or.inl rfl) (Or.inr rfl)) gF)))) (λ_ _ _ _=>(lT (aA pq (cF (xM T) U (aa 1)) bY (aH _)))) (λ_ _ _ _=>(aa 0))))),?_⟩;refine bu z _ B _ _ Z (a.sm _ _ hz) T.lh T.jT Z ?_;refine aR p _ rfl (.of (a.sm _ _ C)) (tm (xs:=(List.range n).map λj=>V.ref (X (s+j)).x) (λj=>oX (u j) ws) (λH' S=>.of (S _ _ (a.sm _ _ C))) (by rw[bZ];lia) (λi v e M G s1 hM=>?_) (λi v e M hM=>hM) λq e s1 hq=>k q e s1 (by rw[bZ]at hq;exact hq));obtain⟨I,rfl⟩:=iL G;obtain⟨eW,J,F,eD⟩:=hX i I;have R:=(a.grow s1).at_ (show s+i<N by lia) eW J F;obtain⟨g,r,c,L,hx,_⟩:=id R.st;rw[<- eD]at hM;refine⟨(X (s+i)).x,(X (s+i)).dx,_,Z,hx,Z,?_⟩;refine⟨_,(X (s+i)).x,(X (s+i)).dx,(X (s+i)).o,(X (s+i)).b,(X (s+i)).mt,(X (s+i)).y,(X (s+i)).D,ws,Z,R,hb,λm l d=>?_,λm f q l d _ _=>?_⟩
 ·dsimp only [tC];refine EI ?_;have:=hM l (s1.trans d);rw[Ee m]at this;exact this
 ·dsimp only [tC];refine EH ?_;have:=hM l (s1.trans d);rw[Ed m]at this;exact this
def Sv{f:e7}{D:Kt}{ws:e7}(h:f=[] ↔ kl D ws):decide (f=[])=lz D ws:=by
 by_cases c:kl D ws
 ·rw[GP c];exact ZT (h.mpr c)
 ·rw[Ai c];exact ZU λz=>c (h.mp z)
def QL (T:Txt w K mg t):bB P w K mg base t.fo "are" 9 t.Bt t.zo ["self"] (CB t lz):=by
 refine⟨T.lh,T.oI,T.Vi,T.Wb.okQ Ly (λvs H Q E h=>by obtain⟨Hc,N,X,z,C,p,s,n,B,ws,rfl,_⟩:=h;rfl) λW A outer sh H vs Q E G h=>?_⟩;obtain⟨Hc,N,X,z,C,p,s,n,B,ws,rfl,d,hz,F,sn,n3,hX,hb,k⟩:=h;have I:=G.units;refine⟨_,(aj (am (hG rfl (cq.of (fns:=(al rh).names) (N:=["self"]) (Nc:=["number", "reader"]) (nv:=2) (caps:=[]) rfl rfl (by decide +kernel)) (gZ (K:=K) rfl rfl T.n_enumerate (ad (aJ (K:=K) rfl (aa 0)) ae)) (λ_ _ _ _=>(gH (K:=K) rfl (n:=2) rfl (cD (aX (i:=0) (show List.Nodup (["number", "reader"]:List Str) by decide +kernel) rfl (Or.inl rfl) (Or.inr rfl)) (cD (aX (i:=1) (show List.Nodup (["number", "reader"]:List Str) by decide +kernel) rfl (Or.inl rfl) (Or.inr rfl)) gF)))) (λ_ _ _ _=>(lT (aA (bG (K:=K) rfl I) (cF (xM T) G (aa 1)) (aT ae) (aH _)))) (λ_ _ _ _=>(aa 0))))),?_⟩;refine bu z _ C _ _ Z (d.sm _ _ hz) T.lh T.jT Z ?_;refine aR p _ rfl (.of (d.sm _ _ F)) (tm (xs:=(List.range n).map λj=>V.ref (X (s+j)).x) (λj=>lz (B j) ws) (λH' s'=>.of (s' _ _ (d.sm _ _ F))) (by rw[bZ];lia) (λi v e M O s1 hM=>?_) (λi v e M hM=>hM) λq e s1 hq=>k q e s1 (by rw[bZ]at hq;exact hq));obtain⟨S,rfl⟩:=iL O;obtain⟨eW,U,ee,eD⟩:=hX i S;have R:=(d.grow s1).at_ (show s+i<N by lia) eW U ee;obtain⟨g,r,c,L,hx,_⟩:=id R.st;rw[<- eD]at hM;refine⟨(X (s+i)).x,(X (s+i)).dx,_,Z,hx,Z,?_⟩;refine⟨_,(X (s+i)).x,(X (s+i)).dx,(X (s+i)).o,(X (s+i)).b,(X (s+i)).mt,(X (s+i)).y,(X (s+i)).D,ws,Z,R,hb,λm H2 l=>?_,λm f q H2 l hq J=>?_⟩
 ·refine⟨sz Z,λY u a=>?_⟩;refine⟨_,_,bf.non,bf.lst a.lst (cf.ints []),Z,Xh [],?_⟩;have:=hM u (s1.trans (l.trans a.sm));rw[Ai (λz=>m ⟨z.1,.inl z.2⟩)]at this;exact this
 ·refine⟨sz Z,λY u a=>?_⟩;refine⟨_,_,bf.lst (.of (a.sm _ _ hq)) (cf.ints f),bf.lst a.lst (cf.ints []),Xh f,Xh [],?_⟩;have:=hM u (s1.trans (l.trans a.sm));rw[<- Sv J]at this;rw[sW];exact this
def hZ(n:Int):Int:=if n<128 then 1 else if n<2048 then 2 else if n<65536 then 3 else 4
def OY{n:Int}(h:Sg n)(f:128<=n):∃(L:Nat) (v d:Int) (bv:e7),hZ n=(L:Int)/\L≠1/\L<=4/\fB 6 L n=d::bv/\[0,0,192,224,240][L]? = some v/\row n=(v+d)::bv.map (λx=>128+x)/\n<2 ^ (6*L):=by
 obtain⟨g,e,_,_⟩:=h;have a:¬n<128:=by lia
 by_cases c2:n<2048
 ·have c:row n=[192+n/64,128+n%64]:=by unfold row;rw[ZP a,ZQ c2]
  have b:hZ n=2:=by unfold hZ;rw[ZP a,ZQ c2]
  rw[c,b];refine⟨2,192,n/64%64,[n%64],rfl,by decide,by decide,by simp[fB,Xt],rfl,?_,by simp;lia⟩;have:n/64%64=n/64:=by lia
  rw[this];rfl
 by_cases c3:n<65536
 ·have c:row n=[224+n/4096,128+n/64%64,128+n%64]:=by unfold row;rw[ZP a,ZP c2,ZQ c3]
  have b:hZ n=3:=by unfold hZ;rw[ZP a,ZP c2,ZQ c3]
  rw[c,b];refine⟨3,224,n/4096%64,[n/64%64,n%64],rfl,by decide,by decide,by simp[fB,Xt],rfl,?_,by simp;lia⟩;have:n/4096%64=n/4096:=by lia
  rw[this];rfl
 have c:row n=[240+n/262144,128+n/4096%64,128+n/64%64,128+n%64]:=by unfold row;rw[ZP a,ZP c2,ZP c3]
 have b:hZ n=4:=by unfold hZ;rw[ZP a,ZP c2,ZP c3]
 rw[c,b];refine⟨4,240,n/262144%64,[n/4096%64,n/64%64,n%64],rfl,by decide,by decide,by simp[fB,Xt],rfl,?_,by simp;lia⟩;have:n/262144%64=n/262144:=by lia
 rw[this];rfl
def JZ:Sp:=λvs H Q _=>∃(n:Int) (b m:Nat),vs=[.int n,.int (b:Int),.int (m:Int)]/\0<=n/\n<2 ^ (b*m)/\b<=1000/\m<=1000/\∀p H',bc H p (.lst ((fB b m n).map V.int)) H'->Q (.ref p) H'
def xJ (T:Txt w K mg t):bj P w K mg base "parted" 2 t.AL t.yC ["number", "bits", "many"] JZ:=by
 refine⟨T.RB,T.Hz.kp,T.Uj,T.Hz.okQ mY (λvs H Q E h=>by obtain⟨n,b,m,rfl,_⟩:=h;rfl) λ_ _ _ _ H vs Q E C h=>?_⟩;obtain⟨n,b,m,rfl,f,s,hb,v,k⟩:=h;refine⟨_,(ai (bE (aS (Fe (K:=K) T) C (ad (aa 0) (ad (az FI (aa 1) (aa 2)) ae))))
  (ai (aL (i:=3) mY.nd rfl (.inl rfl) (aT ae))
  (ai (cw PassesOwn.never rfl (m5 rfl T.n_range (ad (aa 2) ae)) (aX (i:=4) mY.nd rfl (.inl rfl)) (ai (aL (i:=5) mY.nd rfl (.inl rfl) (az Rv (aa 0) (aa 1)))
  (ai (bE (ck (K:=K) rfl WS Xk Xl hV (aa 3) (ad (az cX (aa 0) (az FG (aa 5) (aa 1))) ae)))
  (aj (aL (i:=0) mY.nd rfl (.inl rfl) (aa 5))))))
  (aj (am (Mp (K:=K) rfl rfl T.n_list T.n_reversed (ad (aa 3) ae))))))),?_⟩
 have l:(2:Int) ^ 64=18446744073709551616:=by decide
 refine⟨Or.inl ⟨by lia,by lia⟩,?_⟩;refine⟨n,b*m,by rw[Int.natCast_mul];rfl,f,s,?_⟩;refine⟨sz Z,λo D c=>?_⟩;refine qB (m:Int) rfl (by lia) (by lia) ?_;refine mr (lo:=0) (n:=((m:Nat):Int).toNat) (λi σ q=>af H q/\q o=some (.lst (((List.range i).map λi=>n/2 ^ (b*i)%2 ^ b).map V.int))/\∃g p,σ=[some (.int (n/2 ^ (b*i))),some (.int b),some (.int m),some (.ref o),g,p])
  ⟨c.sm,c.at_,_,_,by simp;rfl⟩ ?_ ?_
 ·rintro i σ B y ⟨j,a,g,p,rfl⟩;have u:i<m:=by simpa using y
  refine⟨by lia,?_⟩;refine⟨.inl ⟨rfl,_,.of a⟩,?_⟩;have hq:0<=n/2 ^ (b*i)/2 ^ b/\n/2 ^ (b*i)/2 ^ b<=n:=by
   have z1:0<=n/2 ^ (b*i):=Int.ediv_nonneg f (Yg (qG _));exact⟨Int.ediv_nonneg z1 (Yg (qG _)),Int.le_trans (Int.ediv_le_self _ z1) (Int.ediv_le_self _ f)⟩
  have d:Builtin.Int.intBits (n/2 ^ (b*i)/2 ^ b)<=b*m:=intBits_le_iff.mpr (by
   have:((n/2 ^ (b*i)/2 ^ b).natAbs:Int)<((2 ^ (b*m):Nat):Int):=by rw[Y6 hq.1,Y7];exact Int.lt_of_le_of_lt hq.2 s
   exact Y8.mp this)
  have x:b*m<=1000000:=Nat.mul_le_mul hb v;refine⟨⟨by lia,show ((Builtin.Int.intBits (n/2 ^ (b*i)/2 ^ b):Nat):Int)+(b:Int)<=2 ^ 27 by lia⟩,?_⟩;refine c7 a (dS (by simp;lia)) ?_;refine⟨j.put c.nw,?_,?_⟩
  ·rw[aF,Xt,WI,WI];have:=Ot (n/2 ^ (b*i)) b;exact congrArg (λz=>some (HO.lst (_++[V.int z]))) this
  ·rw[<- SH n b i];exact⟨_,_,Z⟩
 ·rintro σ B ⟨j,a,g,p,rfl⟩;refine aR o _ Z (.of a) (λF G r=>?_);have e:((List.map V.int ((List.range ((m:Nat):Int).toNat).map λi=>n/2 ^ (b*i)%2 ^ b))).reverse=(fB b m n).map V.int:=by
   rw[<- List.map_reverse,XC,MU]
  rw[e]at r;exact k _ _ (r.after j)
def Jz:Sp:=λvs H Q _=>∃n,vs=[.int n]/\Sg n/\∀p H',bc H p (.lst ((du n).map V.int)) H'->Q (.ref p) H'
def P6 (T:Txt w K mg t):bj P w K mg base "units_of" 3 t.AE t.yr ["sign"] Jz:=by
 refine⟨T.Rq,T.Hs.kp,T.Uc,T.Hs.okQ CU (λvs H Q E h=>by obtain⟨n,rfl,_⟩:=h;rfl) λ_ _ _ _ H vs Q E f h=>?_⟩;obtain⟨n,rfl,hs,k⟩:=h;have v:=f.units;refine⟨_,(ai (aI (aA fi (aa 0) (bU T.Ad) (aH _)) (aj (am (aT (ad (aa 0) ae)))) aK)
  (ai (aL (i:=1) CU.nd rfl (.inl rfl) (aS (xJ (K:=K) T) f (ad (az cX (aa 0) (bU T.Ad)) (ad (bU T.GC) (ad ah ae)))))
  (aj (am (aT (ad (az (Wt K) (bU T.Af) (au (Wv K) (aa 1) ah (λ_ _=>rfl))) (ad (az (Wt K) (bU T.tq) (au (Wv K) (aa 1) ah (λ_ _=>rfl))) ae))))))),?_⟩
 obtain⟨x,s,_,_⟩:=hs;refine ao (λe=>?_) (λe=>?_)
 ·have d:du n=[n]:=by unfold du;rw[ZQ (ZS e)]
  rw[d]at k;exact⟨sz Z,λp m g=>k p m g⟩
 have c:¬n<65536:=λz=>e (ZT z);have d:du n=[55296+(n-65536)/1024,56320+(n-65536)%1024]:=by unfold du;rw[ZP c]
 have b:(2:Int) ^ (10*2)=1048576:=by decide
 refine⟨n-65536,10,2,rfl,by lia,by lia,by decide,by decide,λr q a=>?_⟩;have l:fB 10 2 (n-65536)=[(n-65536)/1024,(n-65536)%1024]:=by
  have:(n-65536)/1024%1024=(n-65536)/1024:=by lia
  simp[fB,Xt,this]
 rw[l]at a;refine aR _ (.int ((n-65536)/1024)) (.inl a.lst) (aD (j:=0) Z) ?_;refine aR _ (.int ((n-65536)%1024)) (.inl a.lst) (aD (j:=1) Z) ?_;rw[d]at k;exact⟨sz Z,λy u o=>k _ _ (o.after a.sm)⟩
def JM(K:PySem.W.Frag)(t:Adr):Sp:=λvs H Q _=>∃(o a:Addr) (h:Bool) (us:e7),vs=[.ref o,.ref a]/\Po t H o h/\aE K H a (us.map V.int)/\us.length<=10/\(∀u∈us,0<=u/\u<65536)/\∀p H',bc H p (.lst ((us.flatMap (ub h)).map V.int)) H'->Q (.ref p) H'
def QC (T:Txt w K mg t):bB P w K mg base t.cP "row_of" 3 t.Bp t.zk ["self", "units"] (JM K t):=by
 refine⟨T.iE,T.ow,T.U9,T.V2.okQ uZ (λvs H Q E h=>by obtain⟨o,a,h,us,rfl,_⟩:=h;rfl) λ_ _ _ _ H vs Q E p h=>?_⟩;obtain⟨o,a,h,us,rfl,po,y,N,hb,k⟩:=h;have I:=p.units;refine⟨_,(ai (aL (i:=2) uZ.nd Z (.inl Z) (aT ae))
  (ai (cw PassesOwn.never rfl (cC (K:=K) rfl (aa 1)) (aX (i:=3) uZ.nd rfl (.inl rfl)) (aj (bE (ck (K:=K) rfl WS Xn Xo (Wz K) (aa 2) (ad (cN (Fs (K:=K) T) p (aa 0) (ad (aS (xJ (K:=K) T) p (ad (aa 3) (ad (bU T.GE) (ad ah ae)))) ae)) ae)))))
  (aj (am (aa 2))))),?_⟩
 refine⟨sz Z,λs J c=>?_⟩;refine cB a Z ⟨_,c.sm.seq y⟩ (mv (K:=K) (a:=a) (xs:=us.map V.int) (λi σ j=>af H j/\j s=some (.lst (((us.take i).flatMap (ub h)).map V.int))/\∃n,σ=[some (.ref o),some (.ref a),some (.ref s),n]) ⟨c.sm,c.at_,_,Z⟩ (λi σ j _ z=>z.1.seq y) ?_ ?_)
 ·rintro i x σ F hx ⟨f,g,n,rfl⟩;obtain⟨u,b,rfl⟩:=fK hx;have q:=hb u (W8 b);have L:i<us.length:=(WF.mp b).1;obtain⟨dx,v⟩:=po;have l:(2:Int) ^ (8*2)=65536:=by decide
  refine⟨.inl ⟨rfl,_,.of g⟩,?_⟩;refine bI o dx _ Z (f _ _ v) Z ?_;refine⟨u,8,2,rfl,q.1,by lia,by decide,by decide,λC R d=>?_⟩;have B:fB 8 2 u=[u/256,u%256]:=by
   have:u/256%256=u/256:=by lia
   simp[fB,Xt,this]
  rw[B]at d;refine⟨o,C,h,u/256,u%256,Z,⟨dx,d.sm _ _ (f _ _ v)⟩,d.at_,λM O r D=>?_⟩;have m:=r _ _ (d.sm _ _ g);have el:((us.take i).flatMap (ub h)).length=2*(us.take i).length:=sf h _;have G:(us.take i).length<=10:=by rw[WO];lia
  refine d7 m D (bM (by rw[WA,WA,el];cases h<;>simp<;>lia)) ?_;refine⟨(f.trans (d.sm.trans r)).put c.nw,?_,_,Z⟩;rw[aF];have e:us.take (i+1)=us.take i++[u]:=by rw[Yx,b];rfl
  rw[e,YF,WI];simp[ub]
 ·rintro σ F ⟨f,g,n,rfl⟩;rw[WA,WY]at g;exact k _ _ ⟨c.nw,f,g⟩
def Cp(t:Adr):Sp:=λvs H Q _=>∃(o:Addr) (h:Bool) (n:Int),vs=[.ref o,.int n,.int 0]/\Po t H o h/\Sg n/\∀p q H',H q=none->af H H'->H' q=some (.lst ((fF h n).map V.int))->H' p=some (.tup [.ref q,.int 0])->Q (.ref p) H'
def N5 (T:Txt w K mg t):bo P w K mg base bK 4 t.tU t.sM ["self", "sign", "page"] (Cp t):=by
 refine T.V1.okQ Lr (λvs H Q E h=>by obtain⟨o,h,n,rfl,_⟩:=h;rfl) λ_ _ _ _ H vs Q E b h=>?_;obtain⟨o,h,n,rfl,po,hs,k⟩:=h;have f:=b.units;refine⟨_,(ai (aI (fZ (eB (aS (kR (K:=K) T) b (ad (aa 1) ae)))) (aj iw) aK)
  (aj (am (bF (ad (cN (QC (K:=K) T) b (aa 0) (ad (aS (P6 (K:=K) T) b (ad (aa 1) ae)) ae)) (ad (aa 2) ae)))))),?_⟩
 refine cB (.int n) Z (.int n) ?_;refine ao (λe=>ZR ((jL n).mpr hs) (by simpa using e)) (λ_=>?_);obtain⟨dx,j⟩:=id po;refine bI o dx _ Z j Z ?_;refine cB n Z hs (λi p a=>?_);refine⟨o,i,h,du n,rfl,po.mono a.sm,a.lst,by have:=BM n;lia,λu f=>BN hs f,λm q d=>?_⟩;exact⟨sz Z,λg l c=>k g m l (d.after a.sm).nw (a.sm.trans (d.sm.trans c.sm)) (c.sm _ _ d.at_) c.at_⟩
def Fu (T:Txt w K mg t):eV P w K mg base t.cP "spell" 4 t.tU t.sM ["self", "sign", "page"] [] (Cp t) :=
 ⟨T.iE,T.oq,⟨_,T.U8,.nil⟩,N5 T⟩
def Qe (T:Txt w K mg t):bj P w K mg base "length_of" 1 t.AN t.yE ["sign"] (λvs H Q _=>∃n,vs=[.int n]/\Q (.int (hZ n)) H):=by
 refine⟨T.RH,T.HI.kp,T.Ul,T.HI.okQ KL (λvs H Q E h=>by obtain⟨n,rfl,_⟩:=h;rfl) λ_ _ _ _ H vs Q E a h=>?_⟩;obtain⟨n,rfl,k⟩:=h;refine⟨_,(ai (aI (aA fi (aa 0) ah (aH _)) (aj (am ah)) aK)
  (ai (aI (aA fi (aa 0) ah (aH _)) (aj (am ah)) aK)
  (ai (aI (aA fi (aa 0) ah (aH _)) (aj (am ah)) aK)
  (aj (am ah))))),?_⟩
 unfold hZ at k;refine ao (λe=>?_) (λe=>?_)
 ·rw[ZQ (ZS e)]at k;exact k
 rw[ZP (λz=>e (ZT z))]at k;refine ao (λe=>?_) (λe=>?_)
 ·rw[ZQ (ZS e)]at k;exact k
 rw[ZP (λz=>e (ZT z))]at k;refine ao (λe=>?_) (λe=>?_)
 ·rw[ZQ (ZS e)]at k;exact k
 rw[ZP (λz=>e (ZT z))]at k;exact k
def JN:Sp:=λvs H Q _=>∃n,vs=[.int n]/\Sg n/\∀p H',bc H p (.lst ((row n).map V.int)) H'->Q (.ref p) H'
def Qg (T:Txt w K mg t):bj P w K mg base "lead_row" 3 t.AQ t.yG ["sign"] JN:=by
 refine⟨T.RJ,T.HL.kp,T.Uo,T.HL.okQ uT (λvs H Q E h=>by obtain⟨n,rfl,_⟩:=h;rfl) λ_ _ _ _ H vs Q E r h=>?_⟩;obtain⟨n,rfl,hs,k⟩:=h;have F:=r.units;refine⟨_,(ai (aL (i:=1) uT.nd Z (.inl Z) (aS (Qe (K:=K) T) r (ad (aa 0) ae)))
  (ai (aI (aA (bG (K:=K) rfl F) (aa 1) ah (aH _)) (aj (am (aT (ad (aa 0) ae)))) aK)
  (ai (aL (i:=2) uT.nd rfl (.inl rfl) (aS (xJ (K:=K) T) r (ad (aa 0) (ad (bU T.GF) (ad (aa 1) ae)))))
  (aj (am (az (Wt K) (aT (ad (az (Wt K) (au (Wv K) (iP (v:=.ref t.t0) rfl T.GA rfl) (aa 1) (λ_ _=>rfl)) (au (Wv K) (aa 2) ah (λ_ _=>rfl))) ae)) (hG rfl (cq.of (fns:=(al qY).names) (N:=["sign", "length", "parts"]) (Nc:=["part"]) (nv:=1) (caps:=[]) rfl rfl (by decide +kernel)) (cC (K:=K) rfl (dw (Ww K) (aa 2) (ci ah) gf)) (λ_ _ _ _=>(aX (i:=0) (show List.Nodup (["part"]:List Str) by decide +kernel) rfl (Or.inl rfl) (Or.inr rfl))) (λ_ _ _ _=>fX) (λ_ _ _ _=>(az (Wt K) (bU T.tu) (aa 0)))))))))),?_⟩
 refine jd n Z ?_;by_cases c:n<128
 ·have G:hZ n=1:=by unfold hZ;rw[ZQ c]
  have I:row n=[n]:=by unfold row;rw[ZQ c]
  refine ao (λ_=>?_) (λe=>ZR (ZT G) e);rw[I]at k;exact⟨sz Z,λp D g=>k p D g⟩
 obtain⟨L,v,M,bv,eL,O,l4,s,f,C,x⟩:=OY hs (by lia);refine ao (λe=>ZR (ZS e) (by rw[eL];lia)) (λ_=>?_);refine⟨n,6,L,by rw[eL];rfl,hs.1,x,by decide,by lia,λp1 S d=>?_⟩;rw[s]at d;have o:cR (([0,0,192,224,240]:e7).map V.int) (hZ n)=some (.int v):=by
  rw[eL];exact aD (by rw[WJ,f];rfl)
 refine aR _ (.int v) (.inr (T.DB _)) o ?_;refine aR _ (.int M) (.inl d.lst) (aD (j:=0) Z) ?_;refine⟨sz Z,λW H2 l=>?_⟩;refine⟨_,Z,_,l.sm.seq d.lst,λY H3 a=>?_⟩;rw[Gp]at a;have z:bv.length<=1000:=by
  have:=MV 6 L n;rw[s]at this;simp at this;lia
 refine c7 Z ⟨_,a.lst⟩ ?_;refine qc ((bv.map λb=>128+b).map V.int) (by simp) a.lst (bM (by simp;lia)) (λi y v J N u f R hN=>?_) λp4 J m=>?_
 ·rw[WJ]at u;obtain⟨y,q,rfl⟩:=Xq.mp u;rw[WJ,WJ,q]at f;cases f;exact hN _ (af.refl _)
 refine d7 ((a.sm.trans m.sm).seq l.lst) m.lst (bM (by simp;lia)) (λU H5 B=>?_);rw[C]at k;exact k _ _ (B.after (((d.sm.trans l.sm).trans a.sm).trans m.sm))
def Cq:Sp:=λvs H Q _=>∃(o:Addr) (n:Int),vs=[.ref o,.int n,.int 0]/\Sg n/\∀p q H',H q=none->af H H'->H' q=some (.lst ((row n).map V.int))->H' p=some (.tup [.ref q,.int 0])->Q (.ref p) H'
def N6 (T:Txt w K mg t):bo P w K mg base bK 4 t.tY t.sQ ["self", "sign", "page"] Cq:=by
 refine T.V6.okQ Lv (λvs H Q E h=>by obtain⟨o,n,rfl,_⟩:=h;rfl) λ_ _ _ _ H vs Q E c h=>?_;obtain⟨o,n,rfl,hs,k⟩:=h;have j:=c.units;refine⟨_,(ai (aI (fZ (eB (aS (kR (K:=K) T) c (ad (aa 1) ae)))) (aj iw) aK)
  (aj (am (bF (ad (aS (Qg (K:=K) T) c (ad (aa 1) ae)) (ad (aa 2) ae)))))),?_⟩
 refine cB (.int n) Z (.int n) ?_;refine ao (λe=>ZR ((jL n).mpr hs) (by simpa using e)) (λ_=>?_);refine cB n Z hs (λf i a=>?_);exact⟨sz Z,λg d b=>k g f d a.nw (a.sm.trans b.sm) (b.sm _ _ a.at_) b.at_⟩
def Fx (T:Txt w K mg t):eV P w K mg base t.fP "spell" 4 t.tY t.sQ ["self", "sign", "page"] [] Cq :=
 ⟨T.qd,T.oE,⟨_,T.Vd,.nil⟩,N6 T⟩
def Cr(t:Adr):Sp:=λvs H Q _=>∃(a:Addr) (f:Fp) (ns b:e7) (x:V) (g:Int) (r:e7) (g':Int),vs=[.ref a,x,.int g]/\cT g/\Tg t H a f ns b/\em (ak g ns b) (ak g b ns) g x=some (r,g') /\
 ∀p q H',af H H'->H q=none->H' q=some (.lst (r.map V.int))->H' p=some (.tup [.ref q,.int g'])->Q (.ref p) H'
def N7 (T:Txt w K mg t):bo P w K mg base bK 4 t.tJ t.sG ["self", "sign", "page"] (Cr t):=by
 refine T.VE.okQ K6 (λvs H Q E h=>by obtain⟨o,f,ns,y,x,g,r,g',rfl,_⟩:=h;rfl) λ_ _ _ _ H vs Q E N h=>?_;obtain⟨a,f,ns,y,x,g,r,g',rfl,two,c,b,k⟩:=h;have B:=N.units;refine⟨_,(ai (aI (eB (aS (kR (K:=K) T) N (ad (aa 1) ae))) (ai (aI (aA (rV B) (aa 1) (au (Wv K) (aJ (K:=K) rfl (aa 0)) (aa 2) (λ_ _=>rfl)) (by with_unfolding_all rfl)) (aj (am (bF (ad (aT (ad (w6 B (au (Wv K) (aJ (K:=K) rfl (aa 0)) (aa 2) (λ_ _=>rfl)) (aa 1)) ae)) (ad (aa 2) ae))))) aK)
  (aj (aI (aA (rV B) (aa 1) (au (Wv K) (aJ (K:=K) rfl (aa 0)) (az cX ah (aa 2)) (λ_ _=>rfl)) (by with_unfolding_all rfl)) (aj (am (bF (ad (aT (ad (au (Wv K) (iP (v:=.ref t.qi) rfl T.Ac rfl) (az cX ah (aa 2)) (λ_ _=>rfl)) (ad (w6 B (au (Wv K) (aJ (K:=K) rfl (aa 0)) (az cX ah (aa 2)) (λ_ _=>rfl)) (aa 1)) ae))) (ad (az cX ah (aa 2)) ae))))) aK))) aK)
  (aj iw)),?_⟩
 have okP:eS (ak g ns y):=qQ c.k0 c.k1;have okO:eS (ak g y ns):=qQ c.k1 c.k0;have m:dB x=true:=by
  cases e:dB x with
  | true=>rfl
  | false=>rw[Js okP okO e]at b;cases b
 obtain⟨n,rfl,_⟩:=Ky m;refine c7 Z (.int n) ?_;refine ao (λ_=>?_) (λz=>ZR m z);have F:∀g,cT g->cR [V.ref f.d0,V.ref f.d1] g=some (.ref (ak g f.d0 f.d1)):=λg two=>by rw[mE two];exact congrArg some (lO V.ref _ _ _)
 obtain⟨D,u,q⟩:=c.dk two;obtain⟨M,s,l⟩:=c.dk two.flip;rw[CQ two]at l;refine bu a _ f.dx _ _ Z c.o T.dq T.iA Z ?_;refine aN (.inl (.of c.p)) (F g two) ?_;refine aN Z (c6.k (k:=.inl n) u) ?_;unfold em at b;dsimp only at b;cases e1:b9 (ak g ns y) n with
 | some i =>
  rw[e1]at b;cases b;have C:bn D (.inl n)=some (.int (i:Int)):=by rw[q,e1];rfl
  refine ao (λ_=>?_) (λz=>ZR (show (bn D (.inl n)).isSome=true by rw[C];rfl) z);refine bu a _ f.dx _ _ Z c.o T.dq T.iA Z ?_;refine aN (.inl (.of c.p)) (F g two) ?_;refine aN rfl (by have:=c6.k (k:=.inl n) u;rw[C]at this;exact this) ?_;refine⟨sz Z,λI O d=>?_⟩;refine⟨sz Z,λG J j=>?_⟩;exact k G I J (d.sm.trans j.sm) d.nw (j.sm _ _ d.at_) j.at_
 | none =>
  rw[e1]at b;dsimp only at b;have C:bn D (.inl n)=none:=by rw[q,e1];rfl
  refine ao (λz=>ZR (show (bn D (.inl n)).isSome=true from z) (by rw[C];decide)) (λ_=>?_);refine bu a _ f.dx _ _ Z c.o T.dq T.iA Z ?_;refine aN (.inl (.of c.p)) (F (1-g) two.flip) ?_;refine aN Z (c6.k (k:=.inl n) s) ?_;cases e2:b9 (ak g y ns) n with
  | none=>rw[e2]at b;cases b
  | some i =>
   rw[e2]at b;cases b;have L:bn M (.inl n)=some (.int (i:Int)):=by rw[l,e2];rfl
   refine ao (λ_=>?_) (λz=>ZR (show (bn M (.inl n)).isSome=true by rw[L];rfl) z);have sh:cR (([254,255]:e7).map V.int) (1-g)=some (.int (254+(1-g))):=by
    rcases two with rfl|rfl<;>rfl
   refine aN (.inr (T.w9 _)) sh ?_;refine bu a _ f.dx _ _ Z c.o T.dq T.iA Z ?_;refine aN (.inl (.of c.p)) (F (1-g) two.flip) ?_;refine aN rfl (by have:=c6.k (k:=.inl n) s;rw[L]at this;exact this) ?_;refine⟨sz Z,λI O d=>?_⟩;refine⟨sz Z,λG J j=>?_⟩;exact k G I J (d.sm.trans j.sm) d.nw (j.sm _ _ d.at_) j.at_
def Fl (T:Txt w K mg t):eV P w K mg base t.bX "spell" 4 t.tJ t.sG ["self", "sign", "page"] [] (Cr t) :=
 ⟨T.dq,T.nN,⟨_,T.UL,.nil⟩,N7 T⟩
def Cs(t:Adr):Sp:=λvs H Q _=>∃(a:Addr) (f:Ft) (es:List (Int × e7)) (e:Int × e7) (g:Int),vs=[.ref a,.int e.1,.int g]/\Tt t H a f es 1000/\Es es/\e∈es /\
 ∀p q H',af H H'->H q=none->H' q=some (.lst (e.2.map V.int))->H' p=some (.tup [.ref q,.int g])->Q (.ref p) H'
def N4 (T:Txt w K mg t):bo P w K mg base bK 4 t.tD t.so ["self", "sign", "page"] (Cs t):=by
 refine T.Vz.okQ K5 (λvs H Q E h=>by obtain⟨o,f,es,e,g,rfl,_⟩:=h;rfl) λ_ _ _ _ H vs Q E n h=>?_;obtain⟨a,f,es,e,g,rfl,p,ok,i,k⟩:=h;have j:=n.units;refine⟨_,(ai (aI (dU (gY (fZ (eB (aS (kR (K:=K) T) n (ad (aa 1) ae)))) (gX (aA (FH j) (aa 1) (aJ (K:=K) rfl (aa 0)) (by with_unfolding_all rfl))))) (aj iw) aK)
  (aj (am (bF (ad (dI (Wx K) T.n_list Xa (ad (w6 j (aJ (K:=K) rfl (aa 0)) (aa 1)) ae)) (ad (aa 2) ae)))))),?_⟩
 obtain⟨o,⟨k1,k2,k3,m,y,B,_,_,_,u⟩,ne⟩:=id p;obtain⟨q,l,hq⟩:=u.a e i;have b:dB (.int e.1)=true:=(jL _).mpr (ok.sg e i).1;refine c7 Z (.int _) ?_;refine ao (λz=>ZR (show (!dB (.int e.1))=true from z) (by rw[b];decide)) (λ_=>?_);refine bu a _ f.dx _ _ Z o T.fj T.jQ Z ?_;refine aR f.d1 _ Z (c6.k (k:=.inl e.1) m) ?_;refine ao (λz=>ZR (show (!(bn k1 (.inl e.1)).isSome)=true from z) (by rw[l];simp)) (λ_=>?_);refine bu a _ f.dx _ _ Z o T.fj T.jQ Z ?_;refine aR f.d1 _ rfl (by have:=c6.k (k:=.inl e.1) m;rw[l]at this;exact this) ?_;refine ba (.inr (.of hq)) (λr x c=>?_);refine⟨sz Z,λv s d=>?_⟩;exact k v r s (c.sm.trans d.sm) c.nw (d.sm _ _ c.at_) d.at_
def Fh (T:Txt w K mg t):eV P w K mg base t.ce "spell" 4 t.tD t.so ["self", "sign", "page"] [] (Cs t) :=
 ⟨T.fj,T.nJ,⟨_,T.UG,.nil⟩,N4 T⟩
def Pe{σ:St}{i:Nat}{n:Int}{H:Hp}{tb a:TS}{D:dZ}(h:σ[i]? = some (some (.int n)))(q:a D σ H):iq (mB (dR (mn false) (mV i) (tC V.non))) tb a D σ H:=by
 unfold iq mB dR;exact fJ h q
def Pd{σ:St}{i:Nat}{H:Hp}{tb a:TS}{D:dZ}(h:σ[i]? = some (some .non))(q:tb D σ H):iq (mB (dR (mn false) (mV i) (tC V.non))) tb a D σ H:=by
 unfold iq mB dR;exact fJ h q
def zu:Ev->Option Int
 | .sg n=>some n
 | .ft _ _ _ _=>none
def gh(D:Kt)(g:Int):Ev->(Str × e7 × V) × Int
 | .sg n=>(("sign",(cv D g n).1,.int n),(cv D g n).2)
 | .ft _ _ k bs=>(("passed",bs,.str k),g)
def jP(D:Kt):Int->List Ev->List (Str × e7 × V)
 | _,[]=>[]
 | g,e::es=>(gh D g e).1::jP D (gh D g e).2 es
def fg(D:Kt):Int->List Ev->Int
 | g,[]=>g
 | g,e::es=>fg D (gh D g e).2 es
theorem xg(D:Kt)(e:Ev):∀(es:List Ev) (g:Int),jP D g (es++[e])=jP D g es++[(gh D (fg D g es) e).1]
 | [],g=>rfl
 | x::es,g=>congrArg ((gh D g x).1 :: ·) (xg D e es _)
theorem xf(D:Kt)(e:Ev):∀(es:List Ev) (g:Int),fg D g (es++[e])=(gh D (fg D g es) e).2
 | [],g=>rfl
 | x::es,g=>xf D e es _
def At(D:Kt)(g:Int)(p:Nat)(bs:e7):Ev->Prop
 | .sg n=>eU D n/\bO D g
 | .ft p' l _ xs=>l=xs.length/\p<=p'/\(bs.drop (p'-p)).take l=xs/\bO D g/\p'-p+l<=bs.length
abbrev PL:=List (Addr × Addr × Str × e7 × V)
def lC(H:Hp)(a:Addr)(L:PL):Prop:=H a=some (.lst (L.map λx=>V.ref x.1))/\∀x∈L,H x.1=some (.tup [.str x.2.2.1,.ref x.2.1,x.2.2.2.2])/\H x.2.1=some (.lst (x.2.2.2.1.map V.int))/\x.2.1≠a
def lC.more{H d:Hp}{e p q:Addr}{w:Str}{bs:e7}{v:V}{L:PL}(h:lC H e L)(s:af H d)(g:d p=some (.tup [.str w,.ref q,v]))(hq:d q=some (.lst (bs.map V.int)))(nq:q≠e):lC (upd d e (.lst ((L.map λx=>V.ref x.1)++[.ref p]))) e (L++[(p,q,w,bs,v)]):=by
 have f:=s _ _ h.1;refine⟨by rw[aF,WI];rfl,λx hx=>?_⟩;rcases WQ.mp hx with z|z
 ·obtain⟨a,b,c⟩:=h.2 x z;have i:=s _ _ a;exact⟨by rw[ap (bA i f (by intro z;cases z))];exact i,by rw[ap c];exact s _ _ b,c⟩
 ·rw[WK.mp z];exact⟨by rw[ap (bA g f (by intro z;cases z))];exact g,by rw[ap nq];exact hq,nq⟩
theorem uF:∀es:List Ev,bS .pn es=es.map zu
 | []=>rfl
 | .sg n::es=>congrArg (some n :: ·) (uF es)
 | .ft p l k bs::es=>congrArg (none :: ·) (uF es)
def S5{D:Kt}{g:Int}{p:Nat}{bs:e7}{es:List Ev}(h:eZ D g p bs es):∀i e,es[i]? = some e->At D (fg D g (es.take i)) p bs e:=by
 induction h with
 | nil g p=>exact λi e h=>by cases h
 | @sg g p n bs es hn pg k ih =>
  intro i e j;cases i with
  | zero=>cases j;exact⟨hn,pg⟩
  | succ i =>
   have:=ih i e j;cases e with
   | sg m=>exact this
   | ft p' l kd xs =>
    obtain⟨a,b,c,d,f⟩:=this;refine⟨a,by lia,?_,d,by rw[WC];lia⟩;rw[<- c,show p'-p=(cv D g n).1.length+(p'-(p+(cv D g n).1.length)) by lia,List.drop_append,Yw (by lia),XS,XT]
 | @ft g p kd xs bs es b pg k ih =>
  intro i e j;cases i with
  | zero =>
   cases j;exact⟨rfl,WB _,by rw[Nat.sub_self,YS,List.take_left],pg,by rw[WC];lia⟩
  | succ i =>
   have:=ih i e j;cases e with
   | sg m=>exact this
   | ft p' l' kd' xs' =>
    obtain⟨a,b,c,d,f⟩:=this;refine⟨a,by lia,?_,d,by rw[WC];lia⟩;rw[<- c,show p'-p=xs.length+(p'-(p+xs.length)) by lia,List.drop_append,Yw (by lia),XS,XT]
def JU(K:PySem.W.Frag)(t:Adr):Sp:=λvs H Q _=>∃(o a:Addr) (D:Kt) (row:e7),vs=[.ref o,.ref a]/\TN t H o D/\aE K H a (row.map V.int)/\aW row/\row.length<=400 /\
 ∀pa (L:PL) H',af H H'->lC H' pa L->H pa=none->(∀x∈L,H x.1=none/\H x.2.1=none)->L.map (λx=>x.2.2)=jP D 0 (aG D row)->Q (.ref pa) H'
def Qa (T:Txt w K mg t):bj P w K mg base "parts_of" 15 t.AK t.yB ["tongue", "row"] (JU K t):=by
 have g:=λ(T:Txt w K mg t)=>mf (P:=P) (base:=base) T .pn;have s:=λ(T:Txt w K mg t)=>rP (P:=P) (base:=base) T .pn;have d:=λ(T:Txt w K mg t)=>o7 (P:=P) (base:=base) T .pn;refine⟨T.RA,T.Hy.kp,T.Ui,T.Hy.okQ iK (λvs H Q E h=>by obtain⟨o,a,D,row,rfl,_⟩:=h;rfl) λ_ _ _ _ H vs Q E hr h=>?_⟩;obtain⟨o,a,D,row,rfl,tn,ha,ab,lr,k⟩:=h;have hu:=hr.units;have ok:=tn.koS;refine⟨_,(ai (aL (i:=2) iK.nd Z (.inl Z) (hJ (EV (K:=K) T) hr (ad (aa 0) (ad (hJ (Pw (K:=K) T) hr (ad bY ae)) ae))))
  (ai (aL (i:=3) iK.nd rfl (.inl rfl) (az (Wt K) (cN (g T) hr (aa 2) (ad (aa 1) ae)) (cF (s T) hr (aa 2))))
  (ai (aL (i:=4) iK.nd rfl (.inl rfl) (cF (d T) hr (aa 2)))
  (ai (aL (i:=5) iK.nd rfl (.inl rfl) (aT ae))
  (ai (aL (i:=6) iK.nd rfl (.inl rfl) ah)
  (ai (cw PassesOwn.never rfl (cC (K:=K) rfl (aa 3)) (aX (i:=7) iK.nd rfl (.inl rfl)) (aj (aI (aA jW (aa 7) bY (aH _)) (ai (aL (i:=8) iK.nd rfl (.inl rfl) (ck (K:=K) rfl WS PySem.F.slot_list_pop PySem.F.type_list_pop On (aa 4) (ad ah ae)))
  (aj (bE (ck (K:=K) rfl WS Xk Xl hV (aa 5) (ad (bF (ad cj (ad (dw (Ww K) (aa 1) (ci (au (Wv K) (aa 8) ah (λ_ _=>rfl))) (ci (az (Wt K) (au (Wv K) (aa 8) ah (λ_ _=>rfl)) (au (Wv K) (aa 8) ah (λ_ _=>rfl))))) (ad (au (Wv K) (aa 8) ah (λ_ _=>rfl)) ae)))) ae))))) (ai (aL (i:=9) iK.nd rfl (.inl rfl) (cM (cE (Fx (K:=K) T) hr (aa 0) (ad (aa 7) (ad (aa 6) ae))) (cM (cE (Fu (K:=K) T) hr (aa 0) (ad (aa 7) (ad (aa 6) ae))) (cM (cE (Fl (K:=K) T) hr (aa 0) (ad (aa 7) (ad (aa 6) ae))) (cE (Fh (K:=K) T) hr (aa 0) (ad (aa 7) (ad (aa 6) ae)))))))
  (ai (bE (ck (K:=K) rfl WS Xk Xl hV (aa 5) (ad (bF (ad cj (ad (au (Wv K) (aa 9) ah (λ_ _=>rfl)) (ad (aa 7) ae)))) ae)))
  (aj (aL (i:=6) iK.nd rfl (.inl rfl) (au (Wv K) (aa 9) ah (λ_ _=>rfl)))))))))
  (aj (am (aa 5))))))))),?_⟩
 refine bN λT' eT=>?_;refine λy dy hy bk cd=>?_;refine uv y dy Z aF Z ?_;have sy:=Da (C:=t.eP) (o:=.ins t.eP dy [("sign",.non)]) hy bk;have hY:upd (upd (upd H dy (.own y)) y (.ins t.eP dy [])) y (.ins t.eP dy [("sign",.non)]) y=some (.ins t.eP dy [("sign",.non)]):=aF;generalize upd (upd (upd H dy (.own y)) y (.ins t.eP dy [])) y (.ins t.eP dy [("sign",.non)])=H1 at sy hY ⊢;refine λx dx hx bQ M=>?_;have sm:=fW (C:=t.cQ) hx bQ;refine⟨x,dx,o,y,rfl,aF,λb mt H2 nb nm nbm k2 hX hB hM=>⟨rfl,?_⟩⟩;have s2:af H1 H2:=Kp.same sm k2 hx;have aQ:=tn.mono sy;have R2:br t .pn H1 H2 x dx o b mt y D [] false:=lR aQ ⟨dy,hY⟩ s2 hx (sm.free nb) (sm.free nm) nbm hX hB hM;refine b8 ?_;subst eT
 try dsimp only
 refine bN λT' eT=>?_;refine bI x dx _ rfl hX rfl ⟨H1,x,dx,o,b,mt,y,a,D,[],row,rfl,R2,sy.seq ha,(λ_ h=>nomatch h),ab,by rw[Ya];lia,λq4 b4 bc H4 bb aY R4 bw bK c0=>?_⟩;obtain⟨g4,r4,c4,L4,bG,_⟩:=id R4.st;refine bI x dx _ rfl bG rfl (jJ λzq zh=>⟨wo H4 [x,b4,mt],x,dx,o,b4,mt,y,D,row,rfl,R4.side,ab,by lia,λq5 b5 b3 H5 cg _ R5 bn bv co=>zh _ _ ?_⟩);have bh:q4≠x:=iz bb hX;have bx:q4≠mt:=iz bb hM;have b9:=R5.sb _ _ (lI bh aY bx bK);have eE:bc.map vO++b3.map vO=((aG D row).map zu).map vO:=by
  have e4:out D .pn row=bc:=bw;rw[<- uF,<- WI];have e5:bS .pn (aG D row)=out D .pn row++b3:=bn;rw[e5,e4]
 have bT:(aG D row).length<=900:=by
  have c2:=(m4 ok ab).2.2.2;rw[jw];unfold dC;rw[WC]
  split
  ·show _+0<=_;lia
  ·show _+1<=_;lia
 refine d7 (.of b9) (.of bv) (bM (by rw[<- WC,eE,WA,WA];lia)) (λth H6 g6=>?_);rw[eE]at g6;obtain⟨g5,r5,c5,O,bH,_,bO,aC,_⟩:=R5.st;have aZ:=g6.sm _ _ bH;have ba:=bO.mono g6.sm;have aC:O.map (λx=>x.2)=aU (aG D row):=aC;refine b8 ?_;subst eT
 try dsimp only
 refine bN λT' eT=>?_;refine bI x dx _ Z aZ Z ⟨x,dx,o,b5,mt,y,_,_,true,O,Z,aZ,ba,λS H7 g7=>?_⟩;refine b8 ?_;subst eT
 try dsimp only
 refine bN λT' eT=>?_;refine⟨sz Z,λpa H8 g8=>?_⟩;have a7:af H1 H6:=(af.wo R4.sb R4.none3).trans (R5.sb.trans g6.sm);have b1:=g7.sm.trans g8.sm;have bi:eZ D 0 0 row (aG D row):=zQ ok row 0 [] 0 (iQ D) (df.nil _ _) (WB _) ab;have fH:∀ {c},H6 c=none->H c=none:=λe=>sy.free (a7.free e);have bC:=aQ.mono a7;refine b8 ?_;subst eT
 try dsimp only
 refine⟨th,Z,⟨_,.of (b1 _ _ g6.at_)⟩,kT (K:=K) (a:=th) (xs:=((aG D row).map zu).map vO) (λi σ H'=>af H6 H'/\H' S=some (.lst ((O.drop (aU ((aG D row).take i)).length).map λx=>V.ref x.1))/\∃(L:PL) (v7 v8 v9:Option V),lC H' pa L/\(∀x∈L,H6 x.1=none/\H6 x.2.1=none/\x.2.1≠S)/\L.map (λx=>x.2.2)=jP D 0 ((aG D row).take i)/\L.length<=i/\σ=[some (.ref o),some (.ref a),some (.ref x),some (.ref th),some (.ref S),some (.ref pa),some (.int (fg D 0 ((aG D row).take i))),v7,v8,v9])
  ⟨b1,g8.sm _ _ g7.at_,[],_,_,_,⟨g8.at_,(λ_ h=>nomatch h)⟩,(λ_ h=>nomatch h),rfl,WB _,rfl⟩ (λi σ H' _ z=>.of (z.1 _ _ g6.at_)) ?_ ?_⟩
 ·rintro i v σ H9 NN eN hv ⟨s9,N,L,v7,v8,v9,pt,fr,eL,lL,rfl⟩;rw[WJ,WJ]at hv;cases he:(aG D row)[i]? with
  | none=>rw[he]at hv;cases hv
  | some e =>
  rw[he]at hv;have hi:i<(aG D row).length:=(WF.mp he).1;have at_:=S5 bi i e he;have tk:=dO he;cases e with
  | sg n =>
   cases hv;refine Pe (n:=n) (by rfl) ?_;obtain⟨hn,W⟩:=at_;have G:=bC.mono s9;have Y:aU ((aG D row).take (i+1))=aU ((aG D row).take i):=by rw[tk,gl];exact WM _
   dsimp only [cO];refine fV (λσ' H'=>∃U q,af H9 H'/\H9 q=none/\H' q=some (.lst ((cv D (fg D 0 ((aG D row).take i)) n).1.map V.int))/\H' U=some (.tup [.ref q,.int (cv D (fg D 0 ((aG D row).take i)) n).2])/\σ'=[some (.ref o),some (.ref a),some (.ref x),some (.ref th),some (.ref S),some (.ref pa),some (.int (fg D 0 ((aG D row).take i))),some (.int n),v8,some (.ref U)]) (λnx M=>?_) ?_
   ·obtain⟨r,g',eO,ef,_,sl⟩:=qN G.ok W hn;rw[ef]at M;cases D with
    | ld =>
     obtain⟨aq,ho⟩:=id G;have eg:fg .ld 0 ((aG .ld row).take i)=0:=W;rw[eg]at eO ⊢;rw[eg]at M;cases eO;exact .inl ⟨o,aq,_,Z,ho,Z,o,n,Z,hn,λU q H4 nq s4 hq hf=>M _ _ ⟨U,q,s4,nq,hq,hf,Z⟩⟩
    | pr b =>
     obtain⟨aq,ho⟩:=id G;have eg:fg (.pr b) 0 ((aG (.pr b) row).take i)=0:=W;rw[eg]at eO ⊢;rw[eg]at M;cases eO;exact .inr (.inl ⟨o,aq,_,Z,ho,Z,o,b,n,Z,G,hn,λU q H4 nq s4 hq hf=>M _ _ ⟨U,q,s4,nq,hq,hf,Z⟩⟩)
    | sh f us ms=>exact .inr (.inr (.inl ⟨o,f.dx,_,rfl,Tg.o G,rfl,o,f,us,ms,.int n,_,r,g',rfl,W,G,eO,λU q H4 s4 nq hq hf=>M _ _ ⟨U,q,s4,nq,hq,hf,rfl⟩⟩))
    | tb f es =>
     obtain⟨e1,bB,en,bt⟩:=kU hn;have eO:((es.find? λe=>decide (e.1=n)).map λe=>(e.2,fg (.tb f es) 0 ((aG (.tb f es) row).take i)))=some (r,g'):=eO;rw[bt]at eO;cases eO;exact .inr (.inr (.inr ⟨o,f.dx,_,rfl,G.1.o,rfl,o,f,es,e1,_,by rw[en];rfl,G.1,G.2,bB,λU q H4 s4 nq hq hf=>M _ _ ⟨U,q,s4,nq,hq,hf,rfl⟩⟩))
   ·rintro σ' bl ⟨U,q,I,nq,hq,aw,rfl⟩;have B:=I _ _ pt.1;have aS:q≠pa:=iz nq pt.1;refine⟨.inl ⟨rfl,_,.of B⟩,?_⟩;refine aR _ (.ref q) (.inr (.of aw)) (aD (j:=0) Z) ?_;refine⟨sz Z,λtp bz m=>?_⟩;refine c7 (m.sm _ _ B) (dS (by rw[WA];lia)) ?_;have bg:U≠pa:=bA aw B (by intro z;cases z);refine aR _ (.int _) (.inr (.of (by rw[ap bg];exact m.sm _ _ aw))) (aD (j:=1) Z) ?_;have av:=I.trans m.sm;have a8:S≠pa:=aB g7.at_ g8.nw;subst eN;refine⟨(s9.trans av).put (g7.sm.free g8.nw),?_,L++[(tp,q,(Str.ofString "sign"),(cv D (fg D 0 ((aG D row).take i)) n).1,V.int n)],some (.int n),v8,some (.ref U),pt.more av m.at_ (m.sm _ _ hq) aS,λz hz=>?_,?_,by rw[WC];exact XR lL,?_⟩
    ·rw[ap a8,Y];exact av _ _ N
    ·rcases WQ.mp hz with y|y
     ·exact fr z y
     ·rw[WK.mp y];exact⟨s9.free (I.free m.nw),s9.free nq,iz nq N⟩
    ·rw[WI,eL,tk,xg];rfl
    ·rw[tk,xf];rfl
  | ft p l kd bs =>
   cases hv;refine Pd (by rfl) ?_;obtain⟨el,_,aV,W,bJ⟩:=at_;rw[Nat.sub_zero]at aV bJ;have Y:aU ((aG D row).take (i+1))=aU ((aG D row).take i)++[(p,l,kd)]:=by rw[tk,gl];rfl
   obtain⟨z,hz,ez⟩:∃z,O[(aU ((aG D row).take i)).length]? = some z/\z.2=(p,l,kd):=by
    have e1:(O.map λx=>x.2)[(aU ((aG D row).take i)).length]? = some (p,l,kd):=by
     have e0:aU (aG D row)=aU ((aG D row).take i)++aU ((aG D row).drop i):=by rw[<- gl,Xm]
     rw[aC,e0,XA (WB _),Nat.sub_self];rw[Zg hi,(WF.mp he).2]
     rfl
    rw[WJ]at e1;cases e2:O[(aU ((aG D row).take i)).length]? with
    | none=>rw[e2]at e1;cases e1
    | some z=>rw[e2]at e1;exact⟨z,Z,WZ e1⟩
   have bp:(aU ((aG D row).take i)).length<O.length:=(WF.mp hz).1;have ed:(O.drop (aU ((aG D row).take i)).length).map (λx=>V.ref x.1)=.ref z.1::(O.drop ((aU ((aG D row).take i)).length+1)).map λx=>V.ref x.1:=by
    rw[Zg bp,(WF.mp hz).2]
    rfl
   rw[ed]at N;refine⟨.inl ⟨rfl,_,.of N⟩,?_⟩;refine⟨S,_,0,0,.ref z.1,rfl,rfl,N,by decide,by decide,by simp[seqIndex?],rfl,?_⟩;have a8:S≠pa:=aB g7.at_ g8.nw;have aW:=ba.2 z (W8 hz);rw[ez]at aW;have b2:=s9 _ _ aW;have I:af H6 (upd H9 S (.lst ((V.ref z.1::(O.drop ((aU ((aG D row).take i)).length+1)).map λx=>V.ref x.1).eraseIdx 0))):=s9.put g7.nw;have J:upd H9 S (.lst ((V.ref z.1::(O.drop ((aU ((aG D row).take i)).length+1)).map λx=>V.ref x.1).eraseIdx 0)) z.1=some (.tup (mq (p,l,kd))):=by rw[ap (bA b2 N (by intro z;cases z))];exact b2
   have B:lC (upd H9 S (.lst ((V.ref z.1::(O.drop ((aU ((aG D row).take i)).length+1)).map λx=>V.ref x.1).eraseIdx 0))) pa L:=by
    refine⟨by rw[ap a8.symm];exact pt.1,λy hy=>?_⟩;obtain⟨a1,a2,a3⟩:=pt.2 y hy;exact⟨by rw[ap (bA a1 N (by intro z;cases z))];exact a1,by rw[ap (fr y hy).2.2];exact a2,a3⟩
   have R:upd H9 S (.lst ((V.ref z.1::(O.drop ((aU ((aG D row).take i)).length+1)).map λx=>V.ref x.1).eraseIdx 0)) S=some (.lst ((O.drop ((aU ((aG D row).take i)).length+1)).map λx=>V.ref x.1)):=aF;generalize upd H9 S (.lst ((V.ref z.1::(O.drop ((aU ((aG D row).take i)).length+1)).map λx=>V.ref x.1).eraseIdx 0))=bl at I J B R ⊢;refine⟨.inl ⟨rfl,_,.of B.1⟩,?_⟩;refine⟨_,.int (p:Int),.inr (.of J),aD (j:=0) Z,_,Z,?_⟩;refine⟨_,.int (p:Int),.inr (.of J),aD (j:=0) Z,_,.int (l:Int),.inr (.of J),aD (j:=1) Z,?_⟩;refine⟨_,Z,_,(sy.trans (a7.trans I)).seq ha,λq bz m=>?_⟩;have bm:cY (row.map V.int) (some (p:Int)) (some ((p:Int)+(l:Int)))=bs.map V.int:=by
    rw[ib];exact congrArg _ ((zB row p l).trans aV)
   rw[bm]at m;refine aR _ (.str kd) (.inr (.of (m.sm _ _ J))) (aD (j:=2) Z) ?_;refine⟨sz Z,λtp cm ag=>?_⟩;have a5:=m.sm.trans ag.sm;refine c7 (a5 _ _ B.1) (dS (by rw[WA];lia)) ?_;subst eN;refine⟨(I.trans a5).put (g7.sm.free g8.nw),?_,L++[(tp,q,(Str.ofString "passed"),bs,V.str kd)],_,_,_,B.more a5 ag.at_ (ag.sm _ _ m.at_) (iz m.nw B.1),λy hy=>?_,?_,by rw[WC];exact XR lL,by rw[tk,xf];rfl⟩
   ·rw[ap a8,Y,WC];exact a5 _ _ R
   ·rcases WQ.mp hy with u|u
    ·exact fr y u
    ·rw[WK.mp u];exact⟨I.free (m.sm.free ag.nw),I.free m.nw,iz m.nw R⟩
   ·rw[WI,eL,tk,xg];rfl
 ·rintro σ H9 ⟨s9,N,L,v7,v8,v9,pt,fr,eL,lL,rfl⟩;rw[WA,WA,WY]at eL;exact k pa L H9 (sy.trans (a7.trans s9)) pt (fH (g7.sm.free g8.nw)) (λx hx=>⟨fH (fr x hx).1,fH (fr x hx).2.1⟩) eL
def Ss(t:Adr)(H:Hp)(s o:Addr):Prop:=∃dx,H s=some (.ins t.ie dx [("tongue",.ref o)])
def Ss.mono{H a:Hp}{s o:Addr}(p:Ss t H s o)(e:af H a):Ss t a s o:=let ⟨dx,z⟩:=p;⟨dx,e _ _ z⟩
def J7(t:Adr):Sp:=λvs H Q _=>∃(x dx o:Addr),vs=[.ref x,.ref o]/\H x=some (.ins t.ie dx [])/\Q .non (upd H x (.ins t.ie dx [("tongue",.ref o)]))
def Pu (T:Txt w K mg t):jD P w K mg base "SeenSpeller" t.ie 1 t.Bh t.y4 ["self", "tongue"] [] (J7 t):=⟨T.QV,T.oN,⟨[],T.UR,.nil⟩,by
 refine T.VL.okQ Ld (λvs H Q E h=>by obtain⟨x,dx,o,rfl,_⟩:=h;rfl) λ_ _ _ _ H vs Q E a h=>?_;obtain⟨x,dx,o,rfl,hx,k⟩:=h;exact⟨_,(aj (c8 (K:=K) rfl (aa 0) (aa 1))),x,_,dx,_,rfl,hx,T.my,T.ji,by decide,k⟩⟩
def JE(t:Adr):Sp:=λvs H Q _=>∃(s o:Addr) (D:Kt) (g x:Int),vs=[.ref s,.int x,.int g]/\Ss t H s o/\TN t H o D/\bO D g/\jA D x/\∀p q H',af H H'->H' q=some (.lst ((cV D g x).1.map V.int))->H' p=some (.tup [.ref q,.int (cV D g x).2])->Q (.ref p) H'
def Qt (T:Txt w K mg t):bB P w K mg base t.ie "spell" 5 t.Bg t.y0 ["self", "sign", "page"] (JE t):=by
 refine⟨T.my,T.nS,T.UQ,T.VJ.okQ Lc (λvs H Q E h=>by obtain⟨s,o,D,g,x,rfl,_⟩:=h;rfl) λ_ _ _ _ H vs Q E m h=>?_⟩;obtain⟨s,o,D,g,n,rfl,⟨dx,hs⟩,tn,pg,J,k⟩:=h;have N:=m.units;refine⟨_,(ai (aI (eB (aS (Fc (K:=K) T) m (ad (aa 1) ae))) (aj (am (bF (ad (aT (ad (az cX (aa 1) (bU T.Ae)) ae)) (ad (aa 2) ae))))) aK)
  (aj (am (cM (cE (Fx (K:=K) T) m (aJ (K:=K) rfl (aa 0)) (ad (aa 1) (ad (aa 2) ae))) (cM (cE (Fu (K:=K) T) m (aJ (K:=K) rfl (aa 0)) (ad (aa 1) (ad (aa 2) ae))) (cM (cE (Fl (K:=K) T) m (aJ (K:=K) rfl (aa 0)) (ad (aa 1) (ad (aa 2) ae))) (cE (Fh (K:=K) T) m (aJ (K:=K) rfl (aa 0)) (ad (aa 1) (ad (aa 2) ae))))))))),?_⟩
 refine cB (.int n) Z (.int n) ?_;unfold cV at k;refine ao (λz=>?_) (λz=>?_)
 ·have z:(decide (61184<=n) && decide (n<=61439))=true:=z;simp at z;rw[ZQ z]at k;refine⟨sz Z,λq O F=>?_⟩;exact⟨sz Z,λp L v=>k p q L (F.sm.trans v.sm) (v.sm _ _ F.at_) v.at_⟩
 ·have z:¬(decide (61184<=n) && decide (n<=61439))=true:=z;have z:¬(61184<=n/\n<=61439):=λy=>z (by simp;exact y);rw[ZP z]at k;have a:=J.resolve_left z;obtain⟨r,g',eO,M,_,R⟩:=qN tn.ok pg a;rw[M]at k;cases D with
  | ld =>
   obtain⟨j,C⟩:=id tn;obtain rfl:g=0:=pg;cases eO;exact .inl ⟨s,_,dx,_,_,Z,hs,T.my,T.ji,Z,o,j,_,Z,C,Z,o,n,Z,a,λc q l _ i hq d=>k c q l i hq d⟩
  | pr b =>
   obtain⟨j,C⟩:=id tn;obtain rfl:g=0:=pg;cases eO;exact .inr (.inl ⟨s,_,dx,_,_,Z,hs,T.my,T.ji,Z,o,j,_,Z,C,Z,o,b,n,Z,tn,a,λc q l _ i hq d=>k c q l i hq d⟩)
  | sh f us ms=>exact .inr (.inr (.inl ⟨s,_,dx,_,_,rfl,hs,T.my,T.ji,rfl,o,f.dx,_,rfl,Tg.o tn,rfl,o,f,us,ms,.int n,g,r,g',rfl,pg,tn,eO,λc q l i _ hq d=>k c q l i hq d⟩))
  | tb f es =>
   obtain⟨I,u,G,B⟩:=kU a;have eO:((es.find? λe=>decide (e.1=n)).map λe=>(e.2,g))=some (r,g'):=eO;rw[B]at eO;cases eO;exact .inr (.inr (.inr ⟨s,_,dx,_,_,rfl,hs,T.my,T.ji,rfl,o,f.dx,_,rfl,tn.1.o,rfl,o,f,es,I,_,by rw[G];rfl,tn.1,tn.2,u,λc q l i _ hq d=>k c q l i hq d⟩))
def BH(D:Kt)(g:Int)(xs:e7)(n:Int):aY D g (xs++[n])=((aY D g xs).1++(cV D (aY D g xs).2 n).1,(cV D (aY D g xs).2 n).2):=by rw[km,qC]
theorem BI{D:Kt}(ok:dM D):∀(m:Nat) (xs:e7) (g:Int),bO D g->(∀x∈xs,jA D x)->bO D (aY D g (xs.take m)).2/\(aY D g (xs.take m)).1.length<=6*m
 | 0,xs,g,pg,_=>⟨pg,WB _⟩
 | m+1,xs,g,pg,h=>by
  obtain⟨a,b⟩:=BI ok m xs g pg h;cases e:xs[m]? with
  | none =>
   rw[Xv (by have:=ZC.mp e;lia)];rw[Xv (ZC.mp e)]at a b;exact⟨a,by lia⟩
  | some n =>
   rw[dO e,BH];obtain⟨p,_,l⟩:=uL ok a (h n (W8 e));exact⟨p,by rw[WC];lia⟩
def Jx(K:PySem.W.Frag)(t:Adr):Sp:=λvs H Q _=>∃(s o a:Addr) (D:Kt) (xs:e7) (g:Int),vs=[.ref s,.ref a,.int g]/\Ss t H s o/\TN t H o D/\bO D g/\aE K H a (xs.map V.int)/\xs.length<=2000/\(∀x∈xs,jA D x)/\∀p q H',H q=none->af H H'->H' q=some (.lst ((aY D g xs).1.map V.int))->H' p=some (.tup [.ref q,.int (aY D g xs).2])->Q (.ref p) H'
def P4 (T:Txt w K mg t):bj P w K mg base "write_from" 6 t.AC t.yp ["tongue", "text", "page"] (Jx K t):=by
 refine⟨T.Ro,T.Hq.kp,T.Ua,T.Hq.okQ lQ (λvs H Q E h=>by obtain⟨s,o,a,D,xs,g,rfl,_⟩:=h;rfl) λ_ _ _ _ H vs Q E hr h=>?_⟩;obtain⟨s,o,a,D,xs,b,rfl,ss,tn,I,Y,hl,hs,k⟩:=h;have hu:=hr.units;have ok:=tn.koS;refine⟨_,(ai (aL (i:=3) lQ.nd Z (.inl Z) (aT ae))
  (ai (cw PassesOwn.never rfl (gZ (K:=K) rfl rfl T.n_enumerate (ad (aa 1) ae)) (gH (K:=K) rfl rfl (cD (aX (i:=4) lQ.nd rfl (.inl rfl)) (cD (aX (i:=5) lQ.nd rfl (.inl rfl)) gF))) (ai (Mb (λpn=>(aj (aL (i:=6) lQ.nd rfl (.inl rfl) (cN (Qt (K:=K) T) hr (aa 0) (ad (aa 5) (ad (aa 2) ae)))))))
  (ai (bE (ck (K:=K) rfl WS Xn Xo (Wz K) (aa 3) (ad (au (Wv K) (aa 6) ah (λ_ _=>rfl)) ae)))
  (aj (aL (i:=2) lQ.nd rfl (.inl rfl) (au (Wv K) (aa 6) ah (λ_ _=>rfl)))))))
  (aj (am (bF (ad (aa 3) (ad (aa 2) ae))))))),?_⟩
 refine⟨sz Z,λv H1 m=>?_⟩;refine aR a _ Z (m.sm.seq Y) (jY (K:=K) (a:=a) (xs:=xs.map V.int) (λi σ G=>af H G/\G v=some (.lst ((aY D b (xs.take i)).1.map V.int))/\∃J S M,σ=[some (.ref s),some (.ref a),some (.int (aY D b (xs.take i)).2),some (.ref v),J,S,M]) ⟨m.sm,m.at_,_,_,_,Z⟩ (λi σ G _ z=>z.1.seq Y) ?_ ?_)
 ·rintro i x p σ H2 U hx ⟨O,F,J,S,M,rfl⟩ c;obtain⟨n,l,rfl⟩:=fK hx;have u:=hs n (W8 l);have hi:i<xs.length:=(WF.mp l).1;refine⟨p,_,Z,c.tup,Z,_,_,Z,_,_,Z,Z,?_⟩;have N:=O.trans c.sm;obtain⟨dx,r⟩:=ss.mono N;obtain⟨B,li⟩:=BI ok i xs b I hs;obtain⟨_,_,sl⟩:=uL ok B u;have e:aY D b (xs.take (i+1))=((aY D b (xs.take i)).1++(cV D (aY D b (xs.take i)).2 n).1,(cV D (aY D b (xs.take i)).2 n).2):=by rw[dO l,BH]
  dsimp only [cO];refine fV (λW y=>∃d q,af U y/\y q=some (.lst ((cV D (aY D b (xs.take i)).2 n).1.map V.int))/\y d=some (.tup [.ref q,.int (cV D (aY D b (xs.take i)).2 n).2])/\W=[some (.ref s),some (.ref a),some (.int (aY D b (xs.take i)).2),some (.ref v),some (.int (i:Int)),some (.int n),some (.ref d)]) (λnx l=>?_) ?_
  ·exact⟨s,dx,_,Z,r,Z,s,o,D,_,n,Z,⟨dx,r⟩,tn.mono N,B,u,λd q y C hq f=>l _ _ ⟨d,q,C,hq,f,Z⟩⟩
  ·rintro W y ⟨d,q,C,hq,f,rfl⟩;have R:=C _ _ (c.sm _ _ F);refine⟨.inl ⟨rfl,_,.of R⟩,?_⟩;refine aR _ (.ref q) (.inr (.of f)) (aD (j:=0) Z) ?_;refine d7 R hq (bM (by rw[WA,WA];lia)) ?_;have L:d≠v:=λz=>by rw[z,R]at f;cases f
   refine aR _ (.int _) (.inr (.of (by rw[ap L];exact f))) (aD (j:=1) Z) ?_;refine⟨(N.trans C).put m.nw,?_,_,_,_,by rw[e];rfl⟩;rw[aF,e,WI]
 ·rintro σ H2 ⟨O,F,J,S,M,rfl⟩;rw[WA,WY]at F;rw[WA,WY];exact⟨sz Z,λp3 U c=>k p3 v U m.nw (O.trans c.sm) (c.sm _ _ F) c.at_⟩
def Jw(K:PySem.W.Frag)(t:Adr):Sp:=λvs H Q _=>∃(s o a:Addr) (D:Kt) (xs:e7),vs=[.ref s,.ref a]/\Ss t H s o/\TN t H o D/\aE K H a (xs.map V.int)/\xs.length<=2000/\(∀x∈xs,jA D x)/\∀p H',af H H'->H' p=some (.lst ((aY D 0 xs).1.map V.int))->Q (.ref p) H'
def P5 (T:Txt w K mg t):bj P w K mg base "write" 7 t.AD t.yq ["tongue", "text"] (Jw K t):=by
 refine⟨T.Rp,T.Hr.kp,T.Ub,T.Hr.okQ KJ (λvs H Q E h=>by obtain⟨s,o,a,D,xs,rfl,_⟩:=h;rfl) λ_ _ _ _ H vs Q E f h=>?_⟩;obtain⟨s,o,a,D,xs,rfl,ss,tn,b,d,hs,k⟩:=h;refine⟨_,(aj (am (au (Wv K) (aS (P4 (K:=K) T) f (ad (aa 0) (ad (aa 1) (ad ah ae)))) ah (λ_ _=>rfl)))),?_⟩;refine⟨s,o,a,D,xs,0,Z,ss,tn,iQ D,b,d,hs,λp q c nq s1 hq e=>?_⟩;exact⟨_,.ref q,.inr (.of e),aD (j:=0) Z,k q c s1 hq⟩
def Jv(K:PySem.W.Frag)(t:Adr):Sp:=λvs H Q _=>∃(o a:Addr) (D:Kt) (xs:e7),vs=[.ref o,.ref a]/\TN t H o D/\aE K H a (xs.map V.int)/\xs.length<=2000/\(∀x∈xs,jA D x)/\∀p H',af H H'->H' p=some (.lst ((aY D 0 xs).1.map V.int))->Q (.ref p) H'
def P3 (T:Txt w K mg t):bj P w K mg base "write_seen" 8 t.AB t.yo ["tongue", "text"] (Jv K t):=by
 refine⟨T.Rn,T.Ho.kp,T.T9,T.Ho.okQ KI (λvs H Q E h=>by obtain⟨o,a,D,xs,rfl,_⟩:=h;rfl) λ_ _ _ _ H vs Q E c h=>?_⟩;obtain⟨o,a,D,xs,rfl,tn,d,e,hs,k⟩:=h;refine⟨_,(aj (am (aS (P5 (K:=K) T) c (ad (hJ (Pu (K:=K) T) c (ad (aa 0) ae)) (ad (aa 1) ae))))),?_⟩;refine λx dx hx b i=>?_;have s1:=Da (C:=t.ie) (o:=.ins t.ie dx [("tongue",.ref o)]) hx b;refine bI x dx o Z aF Z ?_;exact⟨x,o,a,D,xs,Z,⟨dx,aF⟩,tn.mono s1,s1.seq d,e,hs,λp f j g=>k p f (s1.trans j) g⟩
def JX(K:PySem.W.Frag):Sp:=λvs H Q _=>∃(a:Addr) (ns:e7) (k:Nat),vs=[.ref a,.int (k:Int)]/\aE K H a (ns.map V.int)/\∀H',af H H'->Q (.int (ns.getD k 0)) H'
def kQ (T:Txt w K mg t):bj P w K mg base "_law_pick" 1 t.Au t.yg ["_law_script", "_law_k"] (JX K):=by
 refine⟨T.Rg,T.Hh.kp,T.TZ,T.Hh.okQ KF (λvs H Q E h=>by obtain⟨a,ns,i,rfl,_⟩:=h;rfl) λ_ _ _ _ H vs Q E l h=>?_⟩;obtain⟨a,ns,i,rfl,d,k⟩:=h;refine⟨_,(aj (am (bz (Tf (K:=K) Z Z) T.n_sum PyProof.Rows.boot_sum (ad (dw (Ww K) (aa 0) (ci (aa 1)) (ci (az (Wt K) (aa 1) ah))) ae)))),?_⟩;refine⟨_,Z,_,Z,_,d,λj g b=>?_⟩;have e:cY (ns.map V.int) (some (i:Int)) (some ((i:Int)+1))=((ns.drop i).take 1).map V.int:=by rw[ib];exact congrArg _ (zB ns i 1)
 rw[e]at b;refine ba b.lst ?_;have c:((ns.drop i).take 1).sum=ns.getD i 0:=by
  have f:ns[i]? = (ns.drop i)[0]?:=by rw[List.getElem?_drop];rfl
  rw[Xj,f];cases ns.drop i with
  | nil=>rfl
  | cons x r=>simp
 rw[c];exact k _ b.sm
def rN(n:Int)(ns:e7):gj (.int n) (ns.map V.int)=decide (n∈ns):=by
 induction ns with
 | nil=>rfl
 | cons m ns ih =>
  unfold gj at *;rw[W7,XJ,ih];simp only [eI,WU];by_cases e:m=n
  ·simp[e]
  ·have:¬n=m:=λz=>e z.symm;simp[e,this]
def si(ns:e7):(ns.map V.int).all gM=true:=by
 rw[Ye];intro x hx;obtain⟨n,_,rfl⟩:=Xs.mp hx
 rfl
def lv:e7:=[0,127,128,2047,2048,55295,57344,61183,61440,65279,65535,65536,1114111,10,65,97]
def Kz:∀n∈lv,Sg n:=by unfold Sg;decide
def TH:∀i<16,∀j<16,lv.getD i 0=lv.getD j 0->i=j:=by decide
def gp(s:Int):Int:=if 55295<s then s+2048 else s
def gq(s:Int):Int:=if 61183<s then s+256 else s
def eu(c:Int):Int:=if c%2=0 then lv.getD (c/2%16).toNat 0 else gq (gp (c/2%1111808))
def KA(c:Int):Sg (eu c):=by
 unfold eu
 split
 ·have h:(c/2%16).toNat<lv.length:=by show _<16;omega
  rw[Xj,W9 h];exact Kz _ (Yi h)
 ·unfold Sg gq gp
  (repeat' split)<;>omega
def CO{n:Int}{i j:Nat}(a:i<16)(hj:j<16)(h:eu (n+34*(i:Int))=eu (n+34*(j:Int))):i=j:=by
 unfold eu at h;by_cases e:n%2=0
 ·rw[ZQ (by omega),ZQ (by omega)]at h;have:=TH _ (by omega) _ (by omega) h;omega
 ·rw[ZP (by omega),ZP (by omega)]at h;unfold gq gp at h
  (repeat' split at h)<;>omega
def JI:Sp:=λvs H Q _=>∃c,vs=[.int c]/\∀H',af H H'->Q (.int (eu c)) H'
def EZ (T:Txt w K mg t):bj P w K mg base "_law_sign" 1 t.Am t.x9 ["_law_number"] JI:=by
 refine⟨T.Q7,T.G6.kp,T.TQ,T.G6.okQ mS (λvs H Q E h=>by obtain⟨c,rfl,_⟩:=h;rfl) λ_ _ _ _ H vs Q E l h=>?_⟩;obtain⟨c,rfl,k⟩:=h;have j:=l.units;refine⟨_,(ai (aL (i:=1) mS.nd Z (.inl Z) (aT (rj Z)))
  (ai (aI (aA (bG (K:=K) rfl j) (cG (aa 0)) ah (aH _)) (aj (am (au (Wv K) (aa 1) (cG (dA (aa 0))) (λ_ _=>rfl)))) aK)
  (ai (aL (i:=2) mS.nd rfl (.inl rfl) (cG (dA (aa 0))))
  (ai (aI (aA ju (aa 2) ah (aH _)) (aj (aL (i:=2) mS.nd rfl (.inl rfl) (az (Wt K) (aa 2) ah))) aK)
  (ai (aI (aA ju (aa 2) ah (aH _)) (aj (aL (i:=2) mS.nd rfl (.inl rfl) (az (Wt K) (aa 2) ah))) aK)
  (aj (am (aa 2)))))))),?_⟩
 refine⟨sz Z,λn m f=>?_⟩;have a:=k _ f.sm;refine ao (λe=>?_) (λe=>?_)
 ·have h:(c/2%16).toNat<lv.length:=by show _<16;omega
  have d:cR (lv.map V.int) (c/2%16)=some (.int (eu c)):=by
   have g:c/2%16=(((c/2%16).toNat:Nat):Int):=by omega
   rw[g];refine aD ?_;unfold eu;rw[ZQ (ZS e),WJ,Xj,W9 h]
   rfl
  exact⟨_,_,.inl f.lst,d,a⟩
 ·unfold eu gq gp at a;rw[ZP (λz=>e (ZT z))]at a;refine ao (λd=>?_) (λd=>?_)
  ·rw[ZQ (ZS d)]at a;refine ao (λb=>?_) (λb=>?_)
   ·rw[ZQ (ZS b)]at a;exact a
   ·rw[ZP (λz=>b (ZT z))]at a;exact a
  ·rw[ZP (λz=>d (ZT z))]at a;refine ao (λb=>?_) (λb=>?_)
   ·rw[ZQ (ZS b)]at a;exact a
   ·rw[ZP (λz=>b (ZT z))]at a;exact a
def Pg(ns:e7):Prop:=(∀n∈ns,Sg n)/\ns.Nodup/\ns.length<=8
def Pg.okp{ns:e7}(h:Pg ns):eS ns:=⟨h.1,h.2.1,WP h.2.2 (by decide)⟩
def Pg.sub{ns a:e7}(h:Pg ns)(s:a.Sublist ns):Pg a:=⟨λn b=>h.1 n (s.subset b),List.Pairwise.sublist s h.2.1,WP s.length_le h.2.2⟩
def Pg.perm{ns a:e7}(h:Pg ns)(s:a.Perm ns):Pg a:=⟨λn b=>h.1 n (s.subset b),s.nodup_iff.mpr h.2.1,by rw[s.length_eq];exact h.2.2⟩
def JT(K:PySem.W.Frag):Sp:=λvs H Q _=>∃(a:Addr) (cs:e7),vs=[.ref a]/\aE K H a (cs.map V.int)/\∀(q:Addr) (ns:e7) H',af H H'->H' q=some (.lst (ns.map V.int))->Pg ns->ns≠[]->Q (.ref q) H'
def PR (T:Txt w K mg t):bj P w K mg base "_law_pool" 2 t.Aq t.yd ["_law_script"] (JT K):=by
 refine⟨T.Rc,T.Ha.kp,T.TW,T.Ha.okQ mU (λvs H Q E h=>by obtain⟨a,cs,rfl,_⟩:=h;rfl) λ_ _ _ _ H vs Q E r h=>?_⟩;obtain⟨a,cs,rfl,R,k⟩:=h;have hu:=r.units;refine⟨_,(ai (aL (i:=1) mU.nd Z (.inl Z) (aT ae))
  (ai (cw PassesOwn.never rfl (m5 rfl T.n_range (ad (az (Wt K) ah (cG (aS (kQ (K:=K) T) r (ad (aa 0) (ad ah ae))))) ae)) (aX (i:=2) mU.nd rfl (.inl rfl)) (ai (aL (i:=3) mU.nd rfl (.inl rfl) (aS (kQ (K:=K) T) r (ad (aa 0) (ad (az (Wt K) ah (aa 2)) ae))))
  (ai (Me PassesOwn.never (aA (FK (K:=K) rfl) (aS (EZ (K:=K) T) r (ad (aa 3) ae)) (aa 1) (by with_unfolding_all rfl)) (aj (aL (i:=3) mU.nd rfl (.inl rfl) (az (Wt K) (aa 3) ah))))
  (aj (bE (ck (K:=K) rfl WS Xk Xl hV (aa 1) (ad (aS (EZ (K:=K) T) r (ad (aa 3) ae)) ae)))))))
  (aj (am (aa 1))))),?_⟩
 refine⟨sz Z,λl H1 s=>?_⟩;refine⟨a,cs,0,Z,s.sm.seq R,λH2 O=>?_⟩;obtain⟨z,hz⟩:∃z:Nat,1+cs.getD 0 0%8=(z:Int):=⟨(1+cs.getD 0 0%8).toNat,by omega⟩;have z8:z<=8:=by omega
 have z1:1<=z:=by omega
 refine qB z (by rw[hz]) (by omega) (by omega) ?_;refine mr (lo:=0) (n:=z) (λi σ f=>af H f/\∃(ns:e7) (v J:Option V),f l=some (.lst (ns.map V.int))/\(∀n∈ns,Sg n)/\ns.Nodup/\ns.length=i/\σ=[some (.ref a),some (.ref l),v,J])
  ⟨s.sm.trans O,[],_,_,O _ _ s.at_,(λ_ h=>nomatch h),.nil,rfl,rfl⟩ ?_ ?_
 ·rintro i σ S hi ⟨u,ns,v,J,L,hs,nd,D,rfl⟩;refine⟨a,cs,1+i,by rw[Ym,Yl];rfl,u.seq R,λY N=>?_⟩;obtain⟨b,o⟩:∃b,b=cs.getD (1+i) 0:=⟨_,rfl⟩;rw[<- o];clear o;refine b8 ?_;dsimp only;refine⟨λm p f=>∃j,m=9-j/\(∀x<j,eu (b+34*(x:Int))∈ns)/\af Y f/\p=[some (.ref a),some (.ref l),some (.int (i:Int)),some (.int (b+34*(j:Int)))],⟨9,0,rfl,(λx hx=>ZR hx (Xw _)),af.refl _,by simp⟩,?_⟩;rintro m p H5 ⟨j,rfl,hj,G,rfl⟩;refine ba Z (λW I=>?_);have B:=I _ _ (G _ _ (N _ _ L));refine qA (.inl (.of B)) Z (si ns) ?_;have C:=(u.trans N).trans (G.trans I);refine ao (λe=>?_) (λe=>?_)
  ·have e:gj (.int (eu (b+34*(j:Int)))) (ns.map V.int)=true:=e;rw[rN]at e;have g:∀x<j+1,eu (b+34*(x:Int))∈ns:=λx hx=>by
    by_cases ex:x=j
    ·rw[ex];exact ZS e
    ·exact hj x (by omega)
   have hl:j+1<=ns.length:=by
    rw[<- YA (n:=j+1),<- WA (λx:Nat=>eu (b+34*(x:Int)))];have small:∀d,d<=j->d<16:=λd hd=>by
     refine Decidable.byContradiction λhc=>?_;have F:(List.range 16).length<=ns.length:=by
      rw[<- WA (λx:Nat=>eu (b+34*(x:Int)))];refine ZD (Zh.mpr (Zi.imp_of_mem λhx c ne q=>ne (CO (WV.mp hx) (WV.mp c) q))) λy c=>?_;obtain⟨x,hx,rfl⟩:=Xs.mp c;have:=WV.mp hx;exact g x (by omega)
     simp at F;omega
    refine ZD (Zh.mpr (Zi.imp_of_mem λhx c ne q=>ne (CO (small _ (by have:=WV.mp hx;omega)) (small _ (by have:=WV.mp c;omega)) q))) λy c=>?_;obtain⟨x,hx,rfl⟩:=Xs.mp c;exact g x (WV.mp hx)
   refine⟨λp f=>f=W/\p=[some (.ref a),some (.ref l),some (.int (i:Int)),some (.int (b+34*((j+1:Nat):Int)))],?_,?_⟩
   ·rintro p f ⟨rfl,rfl⟩;exact⟨9-(j+1),by omega,j+1,rfl,g,G.trans I,rfl⟩
   ·refine⟨rfl,?_⟩;rw[Ym,Int.mul_add,<- Int.add_assoc]
    rfl
  ·have e:¬gj (.int (eu (b+34*(j:Int)))) (ns.map V.int)=true:=e;rw[rN]at e;have U:eu (b+34*(j:Int))∉ns:=λz=>e (ZT z);refine⟨.inl ⟨rfl,_,.of B⟩,?_⟩;refine ba Z (λH7 M=>?_);refine c7 (M _ _ B) (dS (by rw[WA];omega)) ?_;refine⟨(C.trans M).put s.nw,ns++[eu (b+34*(j:Int))],_,_,?_,?_,?_,by rw[WC];show _+1=_;omega,rfl⟩
   ·rw[aF,WI];rfl
   ·intro x hx;rcases WQ.mp hx with q|q
    ·exact hs x q
    ·rw[WK.mp q];exact KA _
   ·refine List.nodup_append.mpr ⟨nd,by simp,λx hx y c e=>?_⟩;rw[WK.mp c]at e;rw[e]at hx;exact U hx
 ·rintro σ S ⟨u,ns,v,J,L,hs,nd,D,rfl⟩;exact k l ns S u L ⟨hs,nd,by omega⟩ (λe=>by rw[e]at D;simp at D;omega)
def Ki(K:PySem.W.Frag):Sp:=λvs H Q _=>∃(a:Addr) (cs:e7) (at_ m z:Nat),vs=[.ref a,.int (at_:Int),.int (m:Int),.int (z:Int)]/\aE K H a (cs.map V.int)/\0<m/\m<=1000/\z<=1000/\∀p (b:e7) H',af H H'->H' p=some (.lst (b.map V.int))->b.length<=z->(∀d∈b,0<=d/\d<m)->Q (.ref p) H'
def P0 (T:Txt w K mg t):bj P w K mg base "_law_digits" 2 t.Ay t.yk ["_law_script", "_law_at", "_law_many", "_law_most"] (Ki K):=by
 refine⟨T.Rk,T.Hl.kp,T.T6,T.Hl.okQ mX (λvs H Q E h=>by obtain⟨a,cs,at_,m,z,rfl,_⟩:=h;rfl) λ_ _ _ _ H vs Q E v h=>?_⟩;obtain⟨a,cs,at_,m,z,rfl,J,m0,m1,z1,k⟩:=h;have M:=v.units;refine⟨_,(ai (aL (i:=4) mX.nd Z (.inl Z) (az rW (aS (kQ (K:=K) T) v (ad (aa 0) (ad (aa 1) ae))) (az (Wt K) (aa 3) ah)))
  (ai (aL (i:=5) mX.nd rfl (.inl rfl) (aT ae))
  (ai (cw PassesOwn.never rfl (m5 rfl T.n_range (ad (az jt (aS (kQ (K:=K) T) v (ad (aa 0) (ad (aa 1) ae))) (az (Wt K) (aa 3) ah)) ae)) (aX (i:=6) mX.nd rfl (.inl rfl)) (ai (aI (dU (gY (aA (bG (K:=K) rfl M) (aa 4) ah (aH _)) (gX (aA (bG (K:=K) rfl M) (aa 4) (Dt BP ah) (aH _))))) (aj (bE (ck (K:=K) rfl WS Xk Xl hV (aa 5) (ad (az jt (aS (kQ (K:=K) T) v (ad (aa 0) (ad (az (Wt K) (az (Wt K) (aa 1) ah) (aa 6)) ae))) (aa 2)) ae)))) (aj (bE (ck (K:=K) rfl WS Xk Xl hV (aa 5) (ad (az jt (aa 4) (aa 2)) ae)))))
  (aj (aL (i:=4) mX.nd rfl (.inl rfl) (az rW (aa 4) (aa 2))))))
  (aj (am (aa 5)))))),?_⟩
 refine⟨a,cs,at_,Z,J,λH1 s1=>?_⟩;refine⟨⟨by lia,by lia⟩,?_⟩;refine⟨sz Z,λb H2 C=>?_⟩;have S:=s1.trans C.sm;refine⟨a,cs,at_,Z,S.seq J,λH3 O=>?_⟩;refine⟨by show (0:Int)<(z:Int)+1;lia,?_⟩;obtain⟨y,Y⟩:∃y:Nat,cs.getD at_ 0%((z:Int)+1)=(y:Int):=⟨(cs.getD at_ 0%((z:Int)+1)).toNat,by have:=XY (cs.getD at_ 0) (show ((z:Int)+1)≠0 by lia);lia⟩;have yz:y<=z:=by have:=XZ (cs.getD at_ 0) (show 0<((z:Int)+1) by lia);lia
 refine qB y (by show [V.int (cs.getD at_ 0%((z:Int)+1))]=_;rw[Y]) (by lia) (by lia) ?_;have n0:H b=none:=s1.free C.nw;refine mr (lo:=0) (n:=y) (λi σ o=>af H o/\∃(f:e7) (r:Int) (F:Option V),o b=some (.lst (f.map V.int))/\(∀d∈f,0<=d/\d<m)/\f.length=i/\σ=[some (.ref a),some (.int (at_:Int)),some (.int (m:Int)),some (.int (z:Int)),some (.int r),some (.ref b),F])
  ⟨S.trans O,[],_,_,O _ _ C.at_,(λ_ h=>nomatch h),rfl,rfl⟩ ?_ ?_
 ·rintro i σ u hi ⟨s,f,r,F,j,hd,ln,rfl⟩;refine b8 ?_;dsimp only;have p:∀(g:Hp) (x:Int),af u g->0<=x/\x<m->af H (upd g b (.lst (f.map V.int++[.int x])))/\∃es:e7,upd g b (.lst (f.map V.int++[.int x])) b=some (.lst (es.map V.int))/\(∀d∈es,0<=d/\d<m)/\es.length=i+1:=λg x l hx=>by
   refine⟨(s.trans l).put n0,f++[x],by rw[aF,WI];rfl,λd h=>?_,by rw[WC];show _+1=_;lia⟩;rcases WQ.mp h with q|q
   ·exact hd d q
   ·rw[WK.mp q];exact hx
  have N:∀c:Int,0<=c%(m:Int)/\c%(m:Int)<m:=λc=>⟨XY c (by lia),XZ c (by lia)⟩;refine fV (t:=iq _ _ _) (λR o=>af H o/\∃es:e7,o b=some (.lst (es.map V.int))/\(∀d∈es,0<=d/\d<m)/\es.length=i+1/\R=[some (.ref a),some (.int (at_:Int)),some (.int (m:Int)),some (.int (z:Int)),some (.int r),some (.ref b),some (.int (0+(i:Int)))]) (λnx L=>?_) ?_
  ·refine ao (λe=>?_) (λe=>ao (λe2=>?_) (λe2=>?_))
   rotate_left 2
   ·refine⟨.inl ⟨rfl,_,.of j⟩,?_⟩;refine⟨by show (0:Int)<m;lia,?_⟩;refine c7 j (dS (by rw[WA];lia)) ?_;obtain⟨B,es,I,D,G⟩:=p u _ (af.refl _) (N r);exact L _ _ ⟨B,es,I,D,G,Z⟩
   all_goals
    try rw[ZQ rfl]
    refine⟨.inl ⟨rfl,_,.of j⟩,?_⟩;refine⟨a,cs,at_+1+i,by rw[Ym,Ym,Yl];rfl,s.seq J,λg l=>?_⟩;refine⟨by show (0:Int)<m;lia,?_⟩;refine c7 (l _ _ j) (dS (by rw[WA];lia)) ?_;obtain⟨B,es,I,D,G⟩:=p g _ l (N (cs.getD (at_+1+i) 0));exact L _ _ ⟨B,es,I,D,G,Z⟩
  ·rintro R g ⟨l,es,U,W,le,rfl⟩;refine⟨⟨by lia,by lia⟩,?_⟩;exact⟨l,es,_,_,U,W,le,Z⟩
 ·rintro σ u ⟨s,f,r,F,j,hd,ln,rfl⟩;exact k b f u s j (by lia) hd
def J4:Sp:=λvs H Q _=>∃n,vs=[.int n]/\∀p H',bc H p (.lst ((row n).map V.int)) H'->Q (.ref p) H'
def PZ (T:Txt w K mg t):bj P w K mg base "_law_lead" 1 t.Ax t.yj ["_law_sign_here"] J4:=by
 refine⟨T.Rj,T.Hk.kp,T.T5,T.Hk.okQ KH (λvs H Q E h=>by obtain⟨n,rfl,_⟩:=h;rfl) λ_ _ _ _ H vs Q E c h=>?_⟩;obtain⟨n,rfl,k⟩:=h;refine⟨_,(ai (aI (aA fi (aa 0) ah (aH _)) (aj (am (aT (ad (aa 0) ae)))) aK)
  (ai (aI (aA fi (aa 0) ah (aH _)) (aj (am (aT (ad (az (Wt K) ah (dA (aa 0))) (ad (az (Wt K) ah (cG (aa 0))) ae))))) aK)
  (ai (aI (aA fi (aa 0) ah (aH _)) (aj (am (aT (ad (az (Wt K) ah (dA (aa 0))) (ad (az (Wt K) ah (cG (dA (aa 0)))) (ad (az (Wt K) ah (cG (aa 0))) ae)))))) aK)
  (aj (am (aT (ad (az (Wt K) ah (dA (aa 0))) (ad (az (Wt K) ah (cG (dA (aa 0)))) (ad (az (Wt K) ah (cG (dA (aa 0)))) (ad (az (Wt K) ah (cG (aa 0))) ae)))))))))),?_⟩
 unfold row at k;refine ao (λe=>?_) (λe=>?_)
 ·rw[ZQ (ZS e)]at k;exact⟨sz Z,λp b a=>k _ _ a⟩
 rw[ZP (λz=>e (ZT z))]at k;refine ao (λe=>?_) (λe=>?_)
 ·rw[ZQ (ZS e)]at k;exact⟨sz Z,λp b a=>k _ _ a⟩
 rw[ZP (λz=>e (ZT z))]at k;refine ao (λe=>?_) (λe=>?_)
 ·rw[ZQ (ZS e)]at k;exact⟨sz Z,λp b a=>k _ _ a⟩
 rw[ZP (λz=>e (ZT z))]at k;exact⟨sz Z,λp b a=>k _ _ a⟩
def bD{x:Str}(h:PyData.strOk x=true):SeqAt.shaped (.str x)=true:=by simp[SeqAt.shaped,PyData.canLay0,PyData.depth,h]
def kA(b:Bool):PyData.strOk (fh b)=true:=by cases b<;>decide +kernel
def DQ (b:Bool):PyData.eqv (.str (fh b)) (.str "low") = !b:=by cases b<;>decide +kernel
def Jy(K:PySem.W.Frag):Sp:=λvs H Q _=>∃n b,vs=[.int n,.str (fh b)]/\∀p H',af H H'->H' p=some (.lst ((fF b n).map V.int))->Q (.ref p) H'
def PM (T:Txt w K mg t):bj P w K mg base "_law_units" 1 t.Ak t.x6 ["_law_sign_here", "_law_order"] (Jy K):=by
 refine⟨T.Q5,T.G4.kp,T.TL,T.G4.okQ lP (λvs H Q E h=>by obtain⟨n,b,rfl,_⟩:=h;rfl) λ_ _ _ _ H vs Q E hr h=>?_⟩;obtain⟨n,b,rfl,k⟩:=h;have N:=hr.units;refine⟨_,(ai (aL (i:=2) lP.nd Z (.inl Z) (aT (ad (aa 0) ae)))
  (ai (aI (aA ju (aa 0) ah (aH _)) (aj (aL (i:=2) lP.nd rfl (.inl rfl) (aT (ad (az (Wt K) ah (dA (az cX (aa 0) ah))) (ad (az (Wt K) ah (cG (az cX (aa 0) ah))) ae))))) aK)
  (ai (aL (i:=3) lP.nd rfl (.inl rfl) (aT ae))
  (ai (cw PassesOwn.never rfl (cC (K:=K) rfl (aa 2)) (aX (i:=4) lP.nd rfl (.inl rfl)) (ai (aL (i:=5) lP.nd rfl (.inl rfl) (aT (ad (dA (aa 4)) (ad (cG (aa 4)) ae))))
  (ai (aI (aA (bG (K:=K) rfl N) (aa 1) cj (aH _)) (aj (bE (Du (K:=K) rfl WS PySem.F.slot_list_reverse PySem.F.type_list_reverse Om (aa 5)))) aK)
  (aj (bE (ck (K:=K) rfl WS Xn Xo (Wz K) (aa 3) (ad (aa 5) ae)))))))
  (aj (am (aa 3))))))),?_⟩
 refine⟨sz Z,λp0 H1 u=>?_⟩;refine b8 ?_;dsimp only;refine fV (t:=iq _ _ _) (λr c=>∃f,af H c/\c f=some (.lst ((du n).map V.int))/\r=[some (.int n),some (.str (fh b)),some (.ref f),none,none,none]) (λnx d=>?_) ?_
 ·unfold du at d;refine ao (λe=>?_) (λe=>?_)
  ·have e:65535<n:=ZS e;rw[ZP (by lia)]at d;exact⟨sz Z,λR M C=>d _ _ ⟨R,u.sm.trans C.sm,C.at_,Z⟩⟩
  ·have e:¬65535<n:=λz=>e (ZT z);rw[ZQ (by lia)]at d;exact d _ _ ⟨p0,u.sm,u.at_,Z⟩
 ·rintro r M ⟨f,G,g,rfl⟩;refine⟨sz Z,λj H3 o=>?_⟩;have S:f≠j:=aB g o.nw;have nf:H j=none:=G.free o.nw;refine⟨f,Z,⟨_,.of (o.sm _ _ g)⟩,mv (K:=K) (a:=f) (xs:=(du n).map V.int) (λi σ c=>af M c/\∃v B,c j=some (.lst ((((du n).take i).flatMap (ub b)).map V.int))/\σ=[some (.int n),some (.str (fh b)),some (.ref f),some (.ref j),v,B])
   ⟨o.sm,_,_,o.at_,rfl⟩ (λi σ c _ z=>.of (z.1 _ _ g)) ?_ ?_⟩
  ·rintro i x σ J hx ⟨y,v,B,q,rfl⟩;obtain⟨m,D,rfl⟩:=fK hx;refine⟨sz Z,λpp H5 p=>?_⟩;refine b8 ?_;dsimp only;have li:=(WF.mp D).1;have lu:(du n).length<=2:=by unfold du;split<;>simp
   have U:∀l:e7,(l.flatMap (ub b)).length=2*l.length:=λl=>by
    induction l with
    | nil=>rfl
    | cons x l ih=>rw[List.flatMap_cons,WC,ih,W0,show (ub b x).length=2 by cases b<;>rfl];lia
   have W:j≠pp:=aB q p.nw;refine fV (t:=iq _ _ _) (λr c=>af J c/\c pp=some (.lst ((ub b m).map V.int))/\r=[some (.int n),some (.str (fh b)),some (.ref f),some (.ref j),some (.int m),some (.ref pp)]) (λnx d=>?_) ?_
   ·refine xS (bD (kA b)) (bD (by decide +kernel)) ?_;have s:=p.at_;refine ao (λe=>?_) (λe=>?_)
    ·have e:PyData.eqv (.str (fh b)) (.str "low")=true:=e;rw[DQ]at e;refine⟨.inl ⟨rfl,_,.of s⟩,?_⟩;refine uv pp _ Z Z s ?_;refine d _ _ ⟨p.sm.put p.nw,?_,Z⟩;rw[aF];cases b with
     | true=>cases e
     | false=>rfl
    ·have e:¬PyData.eqv (.str (fh b)) (.str "low")=true:=e;rw[DQ]at e;refine d _ _ ⟨p.sm,?_,Z⟩;rw[s];cases b with
     | true=>rfl
     | false=>exact ZR rfl e
   ·rintro r H6 ⟨L,O,rfl⟩;have I:=L _ _ q;refine⟨.inl ⟨rfl,_,.of I⟩,?_⟩;have Y:(ub b m).length=2:=by cases b<;>rfl
    refine d7 I O (bM (by rw[WA,WA,U,WO];lia)) ?_;refine⟨(y.trans L).put o.nw,_,_,?_,Z⟩;rw[aF,<- WI,dO D,YF];simp
  ·rintro σ J ⟨y,v,B,q,rfl⟩;rw[WA,WY]at q;exact k _ _ (G.trans y) q
def EF{ns:e7}{n:Int}{i:Nat}(h:b9 ns n=some i):(∃z,(ns.map V.int)[i]? = some z/\eI z (.int n)=true)/\∀j z,j<i->(ns.map V.int)[j]? = some z->eI z (.int n)=false:=by
 obtain⟨a,b⟩:=me h;refine⟨⟨.int n,by rw[WJ,a];rfl,by simp[eI]⟩,λj z hj e=>?_⟩;obtain⟨m,c,rfl⟩:=fK e;have:m≠n:=λq=>b j hj (by rw[c,q]);simp[eI,this]
def gR(H:Hp)(p:Addr):Kt->Prop
 | .ld=>∃x y:Addr,H p=some (.tup [.str "lead",.ref x,.ref y])
 | .pr b=>∃x y:Addr,H p=some (.tup [.str (fh b),.ref x,.ref y])
 | .sh _ ns ms=>∃x y:Addr,H p=some (.tup [.str "shift",.ref x,.ref y])/\H x=some (.lst (ns.map V.int))/\H y=some (.lst (ms.map V.int))/\eS ns/\eS ms
 | .tb _ es=>∃(x y:Addr) (ps:List Addr),H p=some (.tup [.str "table",.ref x,.ref y])/\H x=some (.lst (ps.map V.ref))/\kj H ps es/\Es es
def gR.mono{H d:Hp}{p:Addr}{D:Kt}(h:gR H p D)(s:af H d):gR d p D:=by
 cases D with
 | ld=>obtain⟨x,y,h⟩:=h;exact⟨x,y,s _ _ h⟩
 | pr b=>obtain⟨x,y,h⟩:=h;exact⟨x,y,s _ _ h⟩
 | sh f ns ms=>obtain⟨x,y,h,c,a,k⟩:=h;exact⟨x,y,s _ _ h,s _ _ c,s _ _ a,k⟩
 | tb f es=>obtain⟨x,y,ps,h,c,a,k⟩:=h;exact⟨x,y,ps,s _ _ h,s _ _ c,a.mono s,k⟩
def JJ:Sp:=λvs H Q _=>∃(p:Addr) (f:Fp) (ns a:e7) (n g:Int),vs=[.ref p,.int n,.int g]/\gR H p (.sh f ns a)/\cT g/\(n∈ns\/n∈a)/\∀pf q H',af H H'->H' q=some (.lst ((cv (.sh f ns a) g n).1.map V.int))->H' pf=some (.tup [.ref q,.int (cv (.sh f ns a) g n).2])->Q (.ref pf) H'
def PP (T:Txt w K mg t):bj P w K mg base "_law_shifted" 1 t.An t.ya ["_law_plan_here", "_law_sign_here", "_law_page"] JJ:=by
 refine⟨T.Q8,T.G7.kp,T.TR,T.G7.okQ CT (λvs H Q E h=>by obtain⟨p,f,ns,a,n,g,rfl,_⟩:=h;rfl) λ_ _ _ _ H vs Q E J h=>?_⟩;obtain⟨p,f,ns,a,n,g,rfl,⟨x,y,C,hx,O,N,L⟩,two,B,k⟩:=h;have M:=J.units;refine⟨_,(ai (aL (i:=3) CT.nd Z (.inl Z) (au (Wv K) (aa 0) (az (Wt K) ah (aa 2)) (λ_ _=>rfl)))
  (ai (aI (aA (FK (K:=K) rfl) (aa 1) (aa 3) (by with_unfolding_all rfl)) (aj (am (bF (ad (aT (ad (ck (K:=K) rfl WS Y4 ZE (D8 (K:=K) rfl) (aa 3) (ad (aa 1) ae)) ae)) (ad (aa 2) ae))))) aK)
  (aj (am (bF (ad (aT (ad (az cX ah (aa 2)) (ad (ck (K:=K) rfl WS Y4 ZE (D8 (K:=K) rfl) (au (Wv K) (aa 0) (az cX ah (aa 2)) (λ_ _=>rfl)) (ad (aa 1) ae)) ae))) (ad (az cX ah (aa 2)) ae))))))),?_⟩
 have I:cR [V.str "shift",.ref x,.ref y] (1+g)=some (.ref (ak g x y)):=by rcases two with rfl|rfl<;>rfl
 have F:cR [V.str "shift",.ref x,.ref y] (2-g)=some (.ref (ak g y x)):=by rcases two with rfl|rfl<;>rfl
 have o:H (ak g x y)=some (.lst ((ak g ns a).map V.int)):=by rcases two with rfl|rfl<;>assumption
 have D:H (ak g y x)=some (.lst ((ak g a ns).map V.int)):=by rcases two with rfl|rfl<;>assumption
 have u:n∈ak g ns a\/n∈ak g a ns:=by
  rcases two with rfl|rfl
  ·exact B
  ·exact B.symm
 refine aN (.inr (.of C)) I ?_;refine qA (.inl (.of o)) Z (si _) ?_;have es:cv (.sh f ns a) g n=(em (ak g ns a) (ak g a ns) g (.int n)).getD ([],g):=rfl;have b:em (ak g ns a) (ak g a ns) g (.int n)=match b9 (ak g ns a) n with
  | some i=>some ([(i:Int)],g)
  | none=>match b9 (ak g a ns) n with
   | some i=>some ([254+(1-g),(i:Int)],1-g)
   | none=>none:=rfl
 refine ao (λe=>?_) (λe=>?_)
 ·have e:gj (.int n) ((ak g ns a).map V.int)=true:=e;rw[rN]at e;obtain⟨i,j,_⟩:=md (ZS e);rw[j]at b;rw[es,b]at k;obtain⟨s,m⟩:=EF j;refine⟨.inl ⟨rfl,_,.of o⟩,?_⟩;refine⟨_,_,_,i,Z,Z,o,Z,si _,s,m,?_⟩;refine⟨sz Z,λq G d=>?_⟩;refine⟨sz Z,λl r c=>?_⟩;exact k l q r (d.sm.trans c.sm) (c.sm _ _ d.at_) c.at_
 ·have e:¬gj (.int n) ((ak g ns a).map V.int)=true:=e;rw[rN]at e;have v:n∉ak g ns a:=λz=>e (ZT z);obtain⟨i,j,_⟩:=md (u.resolve_left v);rw[h9.mpr v]at b;dsimp only at b;rw[j]at b;rw[es,b]at k;obtain⟨s,m⟩:=EF j;refine aN (.inr (.of C)) F ?_;refine⟨.inl ⟨rfl,_,.of D⟩,?_⟩;refine⟨_,_,_,i,Z,Z,D,Z,si _,s,m,?_⟩;refine⟨sz Z,λq G d=>?_⟩;refine⟨sz Z,λl r c=>?_⟩;refine k l q r (d.sm.trans c.sm) ?_ c.at_;have z:=c.sm _ _ d.at_;rw[z];show some (HO.lst [V.int (255-g),.int (i:Int)])=some (HO.lst [V.int (254+(1-g)),.int (i:Int)]);rw[show 255-g=254+(1-g) by lia]
def S0{K:PySem.W.Frag}{a:Addr}{xs:List V}{cs:St}{n:TT}{s:TE}{H:Hp}{Q:VK}(f:Nat->List V->Hp->Prop)(I:f 0 [] H)(C:∀i ys H,i<=xs.length->f i ys H->aE K H a xs/\ys.length<=i)(hz:xs.length<=sizeLine)
 (hs:∀i x ys H,xs[i]? = some x->f i ys H->∃pp v u,x=.ref pp/\be K H pp [v,u]/\∀(N:List V->Hp->Prop),(∀c d,f (i+1) c d->N c d)->n (some v::some u::cs) H λb l=>if b=true then s (some v::some u::cs) l λy G=>N (ys++[y]) G else N ys l)
 (hd:∀ys H p d,f xs.length ys H->bc H p (.lst ys) d->Q (.ref p) d) :
 iG (il K a) H (List.replicate 2 none++cs) (ml K 2 (jX (cO 0) (jX (cO 1) pv))) n s Q:=by
 refine⟨λi m ys σ H=>m=xs.length-i/\i<=xs.length/\f i ys H/\∃j h,σ=j::h::cs,⟨xs.length,by simp,WT _,I,none,none,rfl⟩,?_⟩;rintro i m ys σ o ⟨rfl,B,p,j,h,rfl⟩;obtain⟨q,J⟩:=C i ys o B p;by_cases hlt:i<xs.length
 ·refine .inr ⟨⟨xs,xs[i],q,by simp[hlt]⟩,by lia,λc r d=>f (i+1) c d/\∃j h,r=j::h::cs,λc r d ⟨k,e⟩=>⟨xs.length-(i+1),by lia,rfl,hlt,k,e⟩,λx d y=>?_⟩;obtain⟨rfl,y⟩:=y;obtain⟨pp,v,u,rfl,F,D⟩:=hs i x ys _ (y xs q) p;refine⟨pp,_,Z,F,Z,_,_,Z,_,_,Z,Z,?_⟩;exact D (λc d=>f (i+1) c d/\∃j h,some v::some u::cs=j::h::cs) λ_ _ z=>⟨z,_,_,Z⟩
 ·have e:i=xs.length:=by lia
  subst e;exact .inl ⟨⟨xs,q,WB _⟩,by lia,λk d g=>hd ys o k d p g⟩
def iU:PyData.strOk "lead" = true:=by decide +kernel
def iT:PyData.strOk "shift" = true:=by decide +kernel
def iS:PyData.strOk "table" = true:=by decide +kernel
def JF:Sp:=λvs H Q _=>∃(p:Addr) (D:Kt) (n g:Int),vs=[.ref p,.int n,.int g]/\gR H p D/\bO D g/\eU D n/\∀pf q H',af H H'->H' q=some (.lst ((cv D g n).1.map V.int))->H' pf=some (.tup [.ref q,.int (cv D g n).2])->Q (.ref pf) H'
def PN (T:Txt w K mg t):bj P w K mg base "_law_spelled" 2 t.Al t.x8 ["_law_plan_here", "_law_sign_here", "_law_page"] JF:=by
 refine⟨T.Q6,T.G5.kp,T.TM,T.G5.okQ KE (λvs H Q E h=>by obtain⟨p,D,n,g,rfl,_⟩:=h;rfl) λ_ _ _ _ H vs Q E o h=>?_⟩;obtain⟨p,D,n,g,rfl,c,pg,R,k⟩:=h;have G:=o.units;refine⟨_,(ai (aI (aA (bG (K:=K) Z G) (au (Wv K) (aa 0) ah (λ_ _=>rfl)) cj (aH _)) (aj (am (bF (ad (aS (PZ (K:=K) T) o (ad (aa 1) ae)) (ad ah ae))))) aK)
  (ai (aI (aA (bG (K:=K) rfl G) (au (Wv K) (aa 0) ah (λ_ _=>rfl)) cj (aH _)) (aj (am (aS (PP (K:=K) T) o (ad (aa 0) (ad (aa 1) (ad (aa 2) ae)))))) aK)
  (ai (aI (aA (bG (K:=K) rfl G) (au (Wv K) (aa 0) ah (λ_ _=>rfl)) cj (aH _)) (aj (am (bF (ad (au (Wv K) (hG rfl (cq.of (fns:=(al qV).names) (N:=["_law_plan_here", "_law_sign_here", "_law_page"]) (Nc:=["_law_other", "_law_row", "_law_sign_here"]) (nv:=2) (caps:=[1]) rfl rfl (by decide +kernel)) (cC (K:=K) rfl (au (Wv K) (aa 0) ah (λ_ _=>rfl))) (λ_ _ _ _=>(gH (K:=K) rfl (n:=2) rfl (cD (aX (i:=0) (show List.Nodup (["_law_other", "_law_row", "_law_sign_here"]:List Str) by decide +kernel) rfl (Or.inl rfl) (Or.inr rfl)) (cD (aX (i:=1) (show List.Nodup (["_law_other", "_law_row", "_law_sign_here"]:List Str) by decide +kernel) rfl (Or.inl rfl) (Or.inr rfl)) gF)))) (λ_ _ _ _=>(lT (aA (bG (K:=K) rfl G) (aa 0) (aa 2) (aH _)))) (λ_ _ _ _=>(dI (Wx K) T.n_list Xa (ad (aa 1) ae)))) ah (λ_ _=>rfl)) (ad ah ae))))) aK)
  (aj (am (bF (ad (aS (PM (K:=K) T) o (ad (aa 1) (ad (au (Wv K) (aa 0) ah (λ_ _=>rfl)) ae))) (ad ah ae)))))))),?_⟩
 cases D with
 | ld =>
  obtain⟨x,y,c⟩:=c;obtain rfl:g=0:=pg;refine aN (.inr (.of c)) Z ?_;refine xS (bD iU) (bD iU) ?_;refine ao (λ_=>?_) (λe=>ZR (by decide +kernel) e);refine jd n Z (λq Y U=>?_);refine⟨sz Z,λs m d=>?_⟩;exact k s q m (U.sm.trans d.sm) (d.sm _ _ U.at_) d.at_
 | pr b =>
  obtain⟨x,y,c⟩:=c;obtain rfl:g=0:=pg;refine aN (.inr (.of c)) Z ?_;refine xS (bD (kA b)) (bD iU) ?_;refine ao (λe=>ZR e (by cases b<;>decide +kernel)) (λ_=>?_);refine aN (.inr (.of c)) Z ?_;refine xS (bD (kA b)) (bD iT) ?_;refine ao (λe=>ZR e (by cases b<;>decide +kernel)) (λ_=>?_);refine aN (.inr (.of c)) Z ?_;refine xS (bD (kA b)) (bD iS) ?_;refine ao (λe=>ZR e (by cases b<;>decide +kernel)) (λ_=>?_);refine aN (.inr (.of c)) Z ?_;refine⟨n,b,Z,λq Y s1 M=>?_⟩;refine⟨sz Z,λs m d=>?_⟩;exact k s q m (s1.trans d.sm) (d.sm _ _ M) d.at_
 | sh f ns ms =>
  obtain⟨x,y,c,o⟩:=id c;refine aN (.inr (.of c)) Z ?_;refine xS (bD iT) (bD iU) ?_;refine ao (λe=>ZR e (by decide +kernel)) (λ_=>?_);refine aN (.inr (.of c)) Z ?_;refine xS (bD iT) (bD iT) ?_;refine ao (λ_=>?_) (λe=>ZR (by decide +kernel) e);exact⟨p,f,ns,ms,n,g,Z,⟨x,y,c,o⟩,pg,R,k⟩
 | tb f es =>
  obtain⟨x,y,ps,c,hx,S,ok⟩:=c;obtain rfl:g=0:=pg;refine aN (.inr (.of c)) Z ?_;refine xS (bD iS) (bD iU) ?_;refine ao (λe=>ZR e (by decide +kernel)) (λ_=>?_);refine aN (.inr (.of c)) Z ?_;refine xS (bD iS) (bD iT) ?_;refine ao (λe=>ZR e (by decide +kernel)) (λ_=>?_);refine aN (.inr (.of c)) Z ?_;refine xS (bD iS) (bD iS) ?_;refine ao (λ_=>?_) (λe=>ZR (by decide +kernel) e);refine aN (.inr (.of c)) Z ?_;have le:ps.length=es.length:=S.1;have a5:=ok.l;refine cB x Z ⟨_,.of hx⟩ ?_;refine S0 (K:=K) (a:=x) (xs:=ps.map V.ref) (λi ys v=>af H v/\ys.length<=i/\((es.take i).find? (λe=>decide (e.1=n))=none->ys=[])/\∀e,(es.take i).find? (λe=>decide (e.1=n))=some e->∃q bv,ys=V.ref q::bv/\v q=some (.lst (e.2.map V.int))) ⟨af.refl _,WB _,(λ_=>rfl),(λe h=>by cases h)⟩ (λi ys v hi z=>⟨.of (z.1 _ _ hx),z.2.1⟩) (bM (by rw[WA];lia)) (λi x ys v B z=>?_) λys v pc Y z O=>?_
  ·obtain⟨r,l,I,u⟩:=z;rw[WJ]at B;obtain⟨pp,F,rfl⟩:=Xq.mp B;have li:=(WF.mp F).1;obtain⟨e,W⟩:∃e,es[i]? = some e:=⟨es[i]'(by lia),by simp⟩;obtain⟨⟨q,M,h2⟩,_⟩:=S.2 i pp e F W;refine⟨pp,_,_,Z,.of (r _ _ M),λN hN=>?_⟩;have ft:(es.take (i+1)).find? (λe=>decide (e.1=n))=((es.take i).find? (λe=>decide (e.1=n))).or (if e.1=n then some e else none):=by
    rw[dO W,List.find?_append];by_cases q:e.1=n<;>simp[Xf,q]
   refine ao (λz=>?_) (λz=>?_)
   ·have z:e.1=n:=ZS z;rw[ZQ z]at ft;refine ba (.inl (.of (r _ _ h2))) (λq2 m d=>?_);refine hN _ _ ⟨r.trans d.sm,by rw[WC];show _+1<=_;lia,(λy=>by rw[ft]at y;cases hfi:(es.take i).find? (λe=>decide (e.1=n))<;>rw[hfi]at y<;>cases y),λe' h'=>?_⟩;rw[ft]at h';cases hfi:(es.take i).find? (λe=>decide (e.1=n)) with
    | some e0 =>
     rw[hfi]at h';obtain rfl:e0=e':=WZ h';obtain⟨q0,bv,rfl,J⟩:=u e0 hfi;exact⟨q0,_,Z,d.sm _ _ J⟩
    | none =>
     rw[hfi]at h';cases h';rw[I hfi];exact⟨q2,[],Z,d.at_⟩
   ·have z:¬e.1=n:=λy=>z (ZT y);rw[ZP z,Option.or_none]at ft;exact hN _ _ ⟨r,by lia,by rw[ft];exact I,by rw[ft];exact u⟩
  ·obtain⟨r,l,I,u⟩:=z;obtain⟨e1,a1,a3,C⟩:=kU R;rw[WA,le,WY]at u;obtain⟨q,bv,rfl,hq⟩:=u e1 C;have L:cv (.tb f es) 0 n=(e1.2,0):=by
    show (((es.find? λe=>decide (e.1=n)).map λe=>(e.2,(0:Int))).getD ([],0))=_;rw[C]
    rfl
   rw[L]at k;refine aR _ (.ref q) (.inl O.lst) (aD (j:=0) Z) ?_;refine⟨sz Z,λs m d=>?_⟩;exact k s q m (r.trans (O.sm.trans d.sm)) (d.sm _ _ (O.sm _ _ hq)) d.at_
def kc(H:Hp)(p:Addr)(L:List (Addr × e7)):Prop:=H p=some (.lst (L.map λx=>V.ref x.1))/\∀x∈L,x.1≠p/\H x.1=some (.lst (x.2.map V.int))
def flt(L:List (Addr × e7)):e7:=(L.map λx=>x.2).flatten
def xZ(L:List (Addr × e7))(q:Addr)(xs:e7):flt (L++[(q,xs)])=flt L++xs:=by
 unfold flt;rw[WI,ZF];simp
def kc.more{H b:Hp}{p q:Addr}{xs:e7}{L:List (Addr × e7)}(h:kc H p L)(g:bc H q (.lst (xs.map V.int)) b):kc (upd b p (.lst ((L.map λx=>V.ref x.1)++[.ref q]))) p (L++[(q,xs)]):=by
 have nq:q≠p:=(aB h.1 g.nw).symm;refine⟨by rw[aF,WI];rfl,λx a=>?_⟩;rcases WQ.mp a with z|z
 ·obtain⟨n,e⟩:=h.2 x z;exact⟨n,by rw[ap n];exact g.sm _ _ e⟩
 ·rw[WK.mp z];exact⟨nq,by rw[ap nq];exact g.at_⟩
def FV{H:Hp}{L:List (Addr × e7)}{q:Addr}{xs:e7}(h:∀x∈L,H x.1=none)(n:H q=none):∀x∈L++[(q,xs)],H x.1=none:=λx hx=>by
 rcases WQ.mp hx with z|z
 ·exact h x z
 ·rw[WK.mp z];exact n
def rD{H:Hp}{L:List (Addr × e7)}{p q:Addr}{xs:e7}(h:kc H p L)(nd:(L.map λx=>x.1).Nodup)(n:H q=none):((L++[(q,xs)]).map λx=>x.1).Nodup:=by
 rw[WI];refine List.nodup_append.mpr ⟨nd,by simp,λa c b hb e=>?_⟩;rw[WK.mp hb]at e;obtain⟨x,hx,ex⟩:=Xs.mp c;have:=(h.2 x hx).2;rw[ex,e,n]at this;cases this
def Vt(H:Hp)(a:e7)(Q:VK):Prop:=∀p (L:List (Addr × e7)) H',af H H'->H p=none->kc H' p L->(∀x∈L,H x.1=none)->(L.map λx=>x.1).Nodup->flt L=a->L.length<=301->Q (.ref p) H'
def JY(K:PySem.W.Frag):Sp:=λvs H Q _=>∃(a c:Addr) (b cs:e7),vs=[.ref a,.ref c]/\aE K H a (b.map V.int)/\aE K H c (cs.map V.int)/\cs.length<=300/\Vt H b Q
def zz(a:e7)(k m:Nat):cY (a.map V.int) (some (k:Int)) (some ((k:Int)+(m:Int)))=((a.drop k).take m).map V.int:=by rw[ib];exact congrArg _ (zB a k m)
def SR(a:e7)(k:Nat):cY (a.map V.int) (some (k:Int)) none=(a.drop k).map V.int:=by rw[ib];exact congrArg _ (qa a k)
def PV (T:Txt w K mg t):bj P w K mg base "_law_pieces" 1 t.As t.yf ["_law_row", "_law_cells"] (JY K):=by
 refine⟨T.Rf,T.Hg.kp,T.TY,T.Hg.okQ mW (λvs H Q E h=>by obtain⟨a,c,r,cs,rfl,_⟩:=h;rfl) λ_ _ _ _ H vs Q E R h=>?_⟩;obtain⟨a,c,r,cs,rfl,F,C,lc,k⟩:=h;have S:=R.units;refine⟨_,(ai (aL (i:=2) mW.nd Z (.inl Z) (aT ae))
  (ai (aL (i:=3) mW.nd rfl (.inl rfl) ah)
  (ai (cw PassesOwn.never rfl (cC (K:=K) rfl (aa 1)) (aX (i:=4) mW.nd rfl (.inl rfl)) (ai (bE (ck (K:=K) rfl WS Xk Xl hV (aa 2) (ad (dw (Ww K) (aa 0) (ci (aa 3)) (ci (az (Wt K) (aa 3) (cG (dA (aa 4)))))) ae)))
  (aj (aL (i:=3) mW.nd rfl (.inl rfl) (az (Wt K) (aa 3) (cG (dA (aa 4))))))))
  (aj (am (az (Wt K) (aa 2) (aT (ad (dw (Ww K) (aa 0) (ci (aa 3)) gf) ae)))))))),?_⟩
 refine⟨sz Z,λp U j=>?_⟩;refine⟨c,Z,⟨_,j.sm.seq C⟩,mv (K:=K) (a:=c) (xs:=cs.map V.int) (λi σ s=>af H s/\∃(at_:Nat) (L:List (Addr × e7)) (v:Option V),kc s p L/\(∀x∈L,H x.1=none)/\(L.map λx=>x.1).Nodup/\flt L=r.take at_/\L.length=i/\σ=[some (.ref a),some (.ref c),some (.ref p),some (.int (at_:Int)),v])
  ⟨j.sm,0,[],_,⟨j.at_,(λ_ h=>nomatch h)⟩,(λ_ h=>nomatch h),.nil,rfl,rfl,rfl⟩ (λi σ s _ z=>z.1.seq C) ?_ ?_⟩
 ·rintro i x σ O hx ⟨f,at_,L,v,hP,B,nd,y,l,rfl⟩;obtain⟨m,M,rfl⟩:=fK hx;have W:=(WF.mp M).1;obtain⟨o,D⟩:∃o:Nat,m/8%6=(o:Int):=⟨(m/8%6).toNat,by lia⟩;refine⟨.inl ⟨rfl,_,.of hP.1⟩,?_⟩;refine⟨_,Z,_,Z,_,f.seq F,λq J b=>?_⟩;rw[D,zz]at b;refine c7 (b.sm _ _ hP.1) (dS (by rw[WA];lia)) ?_;refine⟨(f.trans b.sm).put j.nw,at_+o,L++[(q,(r.drop at_).take o)],some (.int m),hP.more b,FV B (f.free b.nw),rD hP nd b.nw,by rw[xZ,y,List.take_add],by rw[WC];show _+1=_;lia,?_⟩;rw[Ym,<- D]
  rfl
 ·rintro σ O ⟨f,at_,L,v,hP,B,nd,y,l,rfl⟩;rw[WA]at l;refine⟨_,Z,_,f.seq F,λq J b=>?_⟩;rw[SR]at b;refine⟨sz Z,λpl N n=>?_⟩;have d:=b.sm.trans n.sm;refine d7 (.of (d _ _ hP.1)) n.lst (bM (by rw[WA];show _+1<=_;lia)) (λpr I g=>?_);have G:=d.trans g.sm;have ne:∀ {c u},N c=some u->c≠pr:=λe=>aB e g.nw;have hP8:kc I pr (L++[(q,r.drop at_)]):=⟨by rw[g.at_,WI];rfl,λx hx=>by
   rcases WQ.mp hx with z|z
   ·exact⟨ne (d _ _ (hP.2 x z).2),G _ _ (hP.2 x z).2⟩
   ·rw[WK.mp z];exact⟨ne (n.sm _ _ b.at_),g.sm _ _ (n.sm _ _ b.at_)⟩⟩
  exact k pr _ _ (f.trans G) ((f.trans d).free g.nw) hP8 (FV B (f.free b.nw)) (rD hP nd b.nw) (by rw[xZ,y,Xm]) (by rw[WC];show _+1<=_;lia)
end
end My
namespace My
open PySem L2
def EM{xs:List V}{i:Int}{y:V}(h:0<=i):∃k,jV xs i y=xs.take k++y::xs.drop k:=⟨min i.toNat xs.length,by unfold jV;rw[ZP (by lia)]⟩
def xc{α:Type}(xs:List α)(k:Nat)(y:α):(xs.take k++y::xs.drop k).Perm (xs++[y]):=by
 have:(xs.take k++y::xs.drop k).Perm (y::(xs.take k++xs.drop k)):=List.perm_middle;rw[Xm]at this;exact this.trans (List.perm_append_comm (l₁:=[y]) (l₂:=xs))
def dH(st:Int)(v k:Nat):e7:=List.replicate (k/v) st++[(st+1+((k%v:Nat):Int))%256]
def Dg{st:Int}{v k:Nat}:(dH st v k)[k/v]? = some ((st+1+((k%v:Nat):Int))%256):=by
 unfold dH;rw[XA (by simp)];simp
def Dh{st:Int}{v i j:Nat}(s0:0<=st)(s1:st<256)(b:0<v)(f:v<=3)(n:i≠j):de (dH st v i) (dH st v j)=false:=by
 unfold de;refine ZU λe=>?_;have c:(dH st v i).length=i/v+1:=by simp[dH]
 have a:=Dg (st:=st) (v:=v) (k:=i);have m:=Nat.mod_lt i b;have g:=Nat.mod_lt j b;rw[<- e,c,List.getElem?_take,ZQ (WW _)]at a;rcases Y9 (i/v) (j/v) with h|h|h
 ·rw[dH,XI (by simpa using h),YK,ZQ h]at a;have:=WZ a;lia
 ·rw[h,Dg]at a;have:=WZ a;have d:=Nat.div_add_mod i v;have l:=Nat.div_add_mod j v;rw[h]at d;lia
 ·rw[dH,XD (by simp;lia)]at a;cases a
def De{st:Int}{v j m:Nat}(hj:j<m)(b:m<=8)(a:2<=v\/m<=6):(dH st v j).length<=6:=by
 have:j/v<=5:=by
  rcases a with q|q
  ·have:j/v<=j/2:=Nat.div_le_div_left q (by decide);lia
  ·have:=YX j v;lia
 simp[dH];lia
def j3(ns:e7)(st:Int)(v i:Nat):List (Int × e7):=(List.range i).map λj=>(ns.getD j 0,dH st v j)
def Sy{ns:e7}{st:Int}{v i:Nat}{n:Int}(h:ns[i]? = some n):j3 ns st v (i+1)=j3 ns st v i++[(n,dH st v i)]:=by
 unfold j3;rw[Xt,WI,List.map_singleton,Xj,h]
 rfl
def S3{ns:e7}{st:Int}{v i j:Nat}(pg:Pg ns)(s0:0<=st)(s1:st<256)(a:0<v)(b:v<=3)(c:i<ns.length)(hj:j<ns.length)(n:i≠j):gP (ns.getD i 0,dH st v i) (ns.getD j 0,dH st v j)=false:=by
 unfold gP;rw[Dh s0 s1 a b n,Dh s0 s1 a b (Ne.symm n)];have:ns.getD i 0≠ns.getD j 0:=λe=>by
  rw[Xj,Xj,W9 c,W9 hj]at e;exact n ((List.getElem_inj pg.2.1).mp e)
 simp only [this,decide_false,Bool.or_self]
def Sz{ns:e7}{st:Int}{v:Nat}{es:List (Int × e7)}(pg:Pg ns)(s0:0<=st)(s1:st<256)(i:0<v)(g:v<=3)(f:2<=v\/ns.length<=6)(h:es.Perm (j3 ns st v ns.length)):Es es/\∀n∈ns,∃e∈es,e.1=n:=by
 refine⟨⟨λe c=>?_,?_,?_⟩,λn d=>?_⟩
 ·obtain⟨j,hj,rfl⟩:=Xs.mp (h.subset c);have hj:=WV.mp hj;have k:=pg.2.2;refine⟨?_,by simp[dH],?_,λb hb=>?_⟩
  ·rw[Xj,W9 hj];exact pg.1 _ (Yi hj)
  ·exact De hj k f
  ·rcases WQ.mp hb with q|q
   ·rw[List.eq_of_mem_replicate q];lia
   ·rw[WK.mp q];lia
 ·rw[h.pairwise_iff (λ{a b} q=>by rw[Gu];exact q)];unfold j3;refine Zh.mpr (Zi.imp_of_mem λhx l ne=>S3 pg s0 s1 i g (WV.mp hx) (WV.mp l) ne)
 ·rw[h.length_eq];have:=pg.2.2;simp[j3];lia
 ·obtain⟨j,hj,e⟩:=YC.mp d;refine jd (ns.getD j 0,dH st v j) (h.symm.subset (Xs.mpr ⟨j,WV.mpr hj,Z⟩)) ?_;rw[Xj,W9 hj];exact e
end My
namespace My
open PySem L2
section
variable {P:Program}{w:World}{K:PySem.W.Frag}{mg:Str->Option Value}{base:Heap}{t:Adr}
def JV:Sp:=λvs H Q _=>∃(c:Int) (a:Addr) (ns:e7),vs=[.int c,.ref a]/\H a=some (.lst (ns.map V.int))/\Pg ns/\∀p D H',af H H'->gR H' p D->(∀n∈ns,eU D n)->Q (.ref p) H'
def PU (T:Txt w K mg t):bj P w K mg base "_law_plan" 1 t.Ar t.ye ["_law_number", "_law_pool_here"] JV:=by
 refine⟨T.Re,T.Hf.kp,T.TX,T.Hf.okQ gz (λvs H Q E h=>by obtain⟨c,a,ns,rfl,_⟩:=h;rfl) λ_ _ _ _ H vs Q E hr h=>?_⟩;obtain⟨c,a,ns,rfl,ha,pg,k⟩:=h;have hu:=hr.units;have l8:=pg.2.2;refine⟨_,(ai (aL (i:=2) gz.nd Z (.inl Z) (cG (aa 0)))
  (ai (aL (i:=3) gz.nd rfl (.inl rfl) (dA (aa 0)))
  (ai (aI (aA fi (aa 2) ah (aH _)) (aj (am (bF (ad (au (Wv K) (aT (rj rfl)) (aa 2) (λ_ _=>rfl)) (ad (aT ae) (ad (aT ae) ae)))))) aK)
  (ai (aI (aA (bG (K:=K) rfl hu) (aa 2) ah (aH _)) (ai (aL (i:=4) gz.nd rfl (.inl rfl) (aT ae))
  (ai (aL (i:=5) gz.nd rfl (.inl rfl) (aT ae))
  (ai (cw PassesOwn.never rfl (gZ (K:=K) rfl rfl T.n_enumerate (ad (aa 1) ae)) (gH (K:=K) rfl rfl (cD (aX (i:=6) gz.nd rfl (.inl rfl)) (cD (aX (i:=7) gz.nd rfl (.inl rfl)) gF))) (ai (aL (i:=8) gz.nd rfl (.inl rfl) (cG (az rW (aa 3) (au (Wv K) (aT (rj rfl)) (aa 6) (λ_ _=>rfl)))))
  (ai (aI (aA (iC (K:=K) rfl hu) (aa 8) ah (aH _)) (aj (bE (ck (K:=K) rfl WS Xk Xl hV (aa 4) (ad (aa 7) ae)))) aK)
  (aj (aI (aA (iC (K:=K) rfl hu) (aa 8) ah (aH _)) (aj (bE (ck (K:=K) rfl WS ZG ZH D9 (aa 5) (ad (az jt (dA (aa 3)) (az (Wt K) (bz (Wu K) T.n_len WN (ad (aa 5) ae)) ah)) (ad (aa 7) ae))))) aK)))))
  (aj (am (bF (ad cj (ad (aa 4) (ad (aa 5) ae))))))))) aK)
  (ai (aL (i:=9) gz.nd rfl (.inl rfl) (aT ae))
  (ai (aL (i:=10) gz.nd rfl (.inl rfl) (au (Wv K) (aT (ad ah (ad ah (ad ah (ad (az (Wt K) ah (dI Tk T.n_int Zy (ad (kx ju (bz (Wu K) T.n_len WN (ad (aa 1) ae)) ah (aH _)) ae))) ae))))) (cG (aa 3)) (λ_ _=>rfl)))
  (ai (cw PassesOwn.never rfl (gZ (K:=K) rfl rfl T.n_enumerate (ad (aa 1) ae)) (gH (K:=K) rfl rfl (cD (aX (i:=6) gz.nd rfl (.inl rfl)) (cD (aX (i:=7) gz.nd rfl (.inl rfl)) gF))) (ai (aL (i:=11) gz.nd rfl (.inl rfl) (cG (dA (aa 3))))
  (aj (bE (ck (K:=K) rfl WS ZG ZH D9 (aa 9) (ad (az jt (dA (aa 3)) (az (Wt K) (aa 6) ah)) (ad (bF (ad (aa 7) (ad (az (Wt K) (az FI (aT (ad (aa 11) ae)) (az rW (aa 6) (aa 10))) (aT (ad (cG (az (Wt K) (az (Wt K) (aa 11) ah) (az jt (aa 6) (aa 10)))) ae))) ae))) ae)))))))
  (aj (am (bF (ad cj (ad (aa 9) (ad (aT ae) ae))))))))))))),?_⟩
 refine ao (λe=>?_) (λe=>?_)
 ·have e:c%5<3:=ZS e;refine⟨sz Z,λp1 H1 B=>?_⟩;obtain⟨x,D,hx,hD,hI⟩:∃(x:Str) (D:Kt),cR [V.str "lead",.str "high",.str "low"] (c%5)=some (.str x)/\(∀(g:Hp) p y z,g p=some (.tup [.str x,.ref y,.ref z])->gR g p D)/\∀n,Sg n->eU D n:=by
   rcases (show c%5=0\/c%5=1\/c%5=2 by lia) with e|e|e<;>rw[e]
   ·exact⟨"lead",.ld,Z,λg p y z h=>⟨y,z,h⟩,λn h=>h⟩
   ·exact⟨"high",.pr true,Z,λg p y z h=>⟨y,z,h⟩,λn h=>h⟩
   ·exact⟨"low",.pr false,Z,λg p y z h=>⟨y,z,h⟩,λn h=>h⟩
  refine aN (.inl B.lst) hx ?_;refine⟨sz Z,λp2 H2 G=>?_⟩;refine⟨sz Z,λp3 H3 g3=>?_⟩;refine⟨sz Z,λp4 H4 s=>?_⟩;exact k p4 D H4 (B.sm.trans (G.sm.trans (g3.sm.trans s.sm))) (hD _ _ _ _ s.at_) λn W=>hI n (pg.1 n W)
 unfold jI;dsimp only;refine bN λT' eT=>?_;refine ao (λe3=>?_) (λe3=>?_)
 ·refine bN λT1 I=>?_;refine⟨sz Z,λpa H1 B=>?_⟩;refine b8 ?_;subst I
  try dsimp only
  refine bN λT1 I=>?_;refine⟨sz Z,λS H2 G=>?_⟩;refine b8 ?_;subst I
  try dsimp only
  refine bN λT1 I=>?_;have al:pa≠S:=aB B.at_ G.nw;have s2:=B.sm.trans G.sm;have fb:H S=none:=B.sm.free G.nw;refine⟨a,_,Z,.of (s2 _ _ ha),jY (K:=K) (a:=a) (xs:=ns.map V.int) (λi σ g=>af H g/\∃(fs f ss:e7) (O N v8:Option V),g pa=some (.lst (fs.map V.int))/\g S=some (.lst (f.map V.int))/\fs.Sublist (ns.take i)/\ss.Sublist (ns.take i)/\f.Perm ss/\(∀n∈ns.take i,n∈fs\/n∈f)/\σ=[some (.int c),some (.ref a),some (.int (c%5)),some (.int (c/5)),some (.ref pa),some (.ref S),O,N,v8,none,none,none])
   ⟨s2,[],[],[],_,_,_,G.sm _ _ B.at_,G.at_,List.Sublist.slnil,List.Sublist.slnil,List.Perm.refl _,(λ_ h=>nomatch h),rfl⟩ (λi σ g _ z=>.of (z.1 _ _ ha)) ?_ ?_⟩
  ·rintro i x p σ H3 H4 hx ⟨s3,fs,f,ss,O,N,v8,fa,M,su,sv,F,hm,rfl⟩ s;obtain⟨n,W,rfl⟩:=fK hx;have li:=(WF.mp W).1;refine⟨p,_,Z,s.tup,Z,_,_,Z,_,_,Z,Z,?_⟩;refine⟨sz Z,λpl H5 C=>?_⟩;obtain⟨d,hd,d0,d1⟩:∃d:Int,cR [V.int 1,.int 3,.int 9,.int 27,.int 81,.int 243,.int 729,.int 2187] (i:Int)=some (.int d)/\0<d/\d<1073741824:=by
    rcases (show i=0\/i=1\/i=2\/i=3\/i=4\/i=5\/i=6\/i=7 by lia) with e|e|e|e|e|e|e|e<;>subst e<;>exact⟨_,rfl,by decide,by decide⟩
   refine aN (.inl C.lst) hd ?_;refine⟨⟨d0,d1⟩,?_⟩;refine b8 ?_;dsimp only;have a4:=s.sm.trans C.sm;have aO:=s3.trans a4;obtain⟨b,hb⟩:∃b,b=c/5/d%3:=⟨_,rfl⟩;have tk:=dO W;have aE:=a4 _ _ M;have a5:=a4 _ _ fa;refine fV (t:=iq _ _ _) (λσ' g=>af H g/\g S=some (.lst (f.map V.int))/\∃R:e7,g pa=some (.lst (R.map V.int))/\R.Sublist (ns.take (i+1))/\(∀m∈fs,m∈R)/\(b≠1->n∈R)/\σ'=[some (.int c),some (.ref a),some (.int (c%5)),some (.int (c/5)),some (.ref pa),some (.ref S),some (.int (i:Int)),some (.int n),some (.int b),none,none,none]) (λnx aU=>?_) ?_
   ·refine ao (λe=>?_) (λe=>?_)
    ·refine⟨.inl ⟨rfl,_,.of a5⟩,?_⟩;refine c7 a5 (dS (by rw[WA];have:=su.length_le;rw[WO]at this;lia)) ?_;refine aU _ _ ⟨aO.put B.nw,by rw[ap (Ne.symm al)];exact aE,fs++[n],by rw[aF,WI];rfl,by rw[tk];exact ZI su (List.Sublist.refl _),(λm h=>Xc _ h),(λ_=>by simp),by rw[hb];rfl⟩
    ·refine aU _ _ ⟨aO,aE,fs,a5,by rw[tk];exact su.trans (ZJ _ _),(λm h=>h),(λq=>?_),by rw[hb];rfl⟩;have e:¬(!decide (c/5/d%3=1))=true:=e;rw[<- hb]at e;simp at e;exact ZR e q
   ·rintro σ' H6 ⟨s6,J,R,aq,sg,aR,b6,rfl⟩;refine ao (λe=>?_) (λe=>?_)
    ·refine⟨.inl ⟨rfl,_,.of J⟩,?_⟩;refine ba (.inl (.of J)) ?_;refine⟨by show (0:Int)<((f.map V.int).length:Int)+1;lia,?_⟩;have lm:f.length<=8:=by have:=sv.length_le;rw[F.length_eq];rw[WO]at this;lia
     have z0:0<=c/5/7%(((f.map V.int).length:Int)+1):=XY _ (by lia);have z1:c/5/7%(((f.map V.int).length:Int)+1)<((f.map V.int).length:Int)+1:=XZ _ (by lia);refine⟨_,J,dS (by rw[WA];lia),by lia,by rw[WA]at *;lia,?_⟩;obtain⟨j,ej⟩:=EM (xs:=f.map V.int) (y:=V.int n) z0;have L:jV (f.map V.int) (c/5/7%(((f.map V.int).length:Int)+1)) (.int n)=(f.take j++n::f.drop j).map V.int:=by rw[ej,WI,Yf,W7,YR]
     refine⟨s6.put fb,R,f.take j++n::f.drop j,ss++[n],_,_,_,by rw[ap al];exact aq,by rw[aF,L],sg,by rw[tk];exact ZI sv (List.Sublist.refl _),(xc f j n).trans (F.append_right [n]),λm h=>?_,Z⟩;have pp:=xc f j n;rw[tk]at h;rcases WQ.mp h with q|q
     ·rcases hm m q with y|y
      ·exact .inl (aR m y)
      ·exact .inr (pp.symm.subset (Xc _ y))
     ·exact .inr (pp.symm.subset (W6 _ q))
    ·have e:¬(!decide (b=0))=true:=e;simp at e;refine⟨s6,R,f,ss,_,_,_,aq,J,sg,by rw[tk];exact sv.trans (ZJ _ _),F,λm h=>?_,Z⟩;rw[tk]at h;rcases WQ.mp h with q|q
     ·exact (hm m q).imp (aR m) id
     ·rw[WK.mp q];exact .inl (b6 (by lia))
  ·rintro σ H3 ⟨s3,fs,f,ss,O,N,v8,fa,M,su,sv,F,hm,rfl⟩;rw[WA,WY]at su sv hm;subst I
   try dsimp only
   refine⟨sz Z,λp4 H4 s=>?_⟩;exact k p4 (.sh ⟨0,0,0,0,0,0,0,0,0,0⟩ fs f) H4 (s3.trans s.sm) ⟨pa,S,s.at_,s.sm _ _ fa,s.sm _ _ M,(pg.sub su).okp,((pg.sub sv).perm F).okp⟩ hm
 ·subst eT;dsimp only;refine bN λT1 I=>?_;refine⟨sz Z,λpr H1 B=>?_⟩;refine b8 ?_;subst I
  try dsimp only
  refine bN λT1 I=>?_;refine ba (.inl (.of (B.sm _ _ ha))) ?_;refine⟨sz Z,λpw H2 G=>?_⟩;have s2:=B.sm.trans G.sm;obtain⟨v,hv,v0,v3,ax⟩:∃v:Nat,cR [V.int 2,.int 3,.int 2,.int (1+(if decide (6<((ns.map V.int).length:Int))=true then 1 else 0))] (c/5%4)=some (.int (v:Int))/\0<v/\v<=3/\(2<=v\/ns.length<=6):=by
   rcases (show c/5%4=0\/c/5%4=1\/c/5%4=2\/c/5%4=3 by lia) with e|e|e|e<;>rw[e]
   ·exact⟨2,rfl,by decide,by decide,.inl (by decide)⟩
   ·exact⟨3,rfl,by decide,by decide,.inl (by decide)⟩
   ·exact⟨2,rfl,by decide,by decide,.inl (by decide)⟩
   ·rw[WA];by_cases q:(6:Int)<(ns.length:Int)
    ·rw[ZT q];exact⟨2,rfl,by decide,by decide,.inl (by decide)⟩
    ·rw[ZU q];exact⟨1,rfl,by decide,by decide,.inr (by lia)⟩
  refine aN (.inl G.lst) hv ?_;refine b8 ?_;subst I
  try dsimp only
  refine bN λT1 I=>?_;obtain⟨st,ay⟩:∃st,st=c/5/2%256:=⟨_,rfl⟩;have bc:0<=st:=by lia
  have b4:st<256:=by lia
  have fr:H pr=none:=B.nw;refine⟨a,_,Z,.of (s2 _ _ ha),jY (K:=K) (a:=a) (xs:=ns.map V.int) (λi σ g=>af H g/\∃(ps:List Addr) (es:List (Int × e7)) (O N U:Option V),g pr=some (.lst (ps.map V.ref))/\kj g ps es/\es.Perm (j3 ns st v i)/\σ=[some (.int c),some (.ref a),some (.int (c%5)),some (.int (c/5)),none,none,O,N,none,some (.ref pr),some (.int (v:Int)),U])
   ⟨s2,[],[],_,_,_,G.sm _ _ B.at_,dg.nil,List.Perm.refl _,rfl⟩ (λi σ g _ z=>.of (z.1 _ _ ha)) ?_ ?_⟩
  ·rintro i x p σ H3 H4 hx ⟨s3,ps,es,O,N,U,f3,en,F,rfl⟩ s;obtain⟨n,W,rfl⟩:=fK hx;have li:=(WF.mp W).1;refine⟨p,_,Z,s.tup,Z,_,_,Z,_,_,Z,Z,?_⟩;have f4:=s.sm _ _ f3;have lp:ps.length=i:=by rw[en.1,F.length_eq];simp[j3]
   refine⟨.inl ⟨rfl,_,.of f4⟩,?_⟩;refine⟨by show (0:Int)<(i:Int)+1;lia,?_⟩;refine⟨sz Z,λp5 H5 C=>?_⟩;refine⟨⟨by lia,by lia⟩,?_⟩;have ed:((i:Int)/(v:Int))=((i/v:Nat):Int):=(Int.natCast_ediv i v).symm;have aP:i/v<=8:=WP (YX i v) (by lia);obtain⟨z,hz⟩:∃z,i/v=z:=⟨_,rfl⟩;rw[hz]at ed aP;refine⟨[V.int (c/5/2%256)],C.at_,by rw[ed];lia,by rw[ed];lia,bM (by rw[ed,XC];simp;lia),λp6 H6 g6=>?_⟩;refine⟨by show (0:Int)<(v:Int);lia,?_⟩;refine⟨sz Z,λp7 H7 g7=>?_⟩;have e6:(List.replicate ((i:Int)/(v:Int)).toNat [V.int (c/5/2%256)]).flatten=(List.replicate z st).map V.int:=by
    rw[ed,XC,ay];clear hz ed aP
    induction z with
    | zero=>rfl
    | succ z ih=>rw[XB,Yc,ih,XB,W7];rfl
   rw[e6]at g6;refine d7 (.of (g7.sm _ _ g6.at_)) g7.lst (bM (by simp;lia)) (λp8 H8 g8=>?_);have e8:(List.replicate z st).map V.int++[V.int ((c/5/2%256+1+(i:Int)%(v:Int))%256)]=(dH st v i).map V.int:=by
    unfold dH;rw[WI,<- ay,Zd,hz]
    rfl
   rw[e8]at g8;refine⟨sz Z,λp9 H9 g9=>?_⟩;have aD:=(C.sm.trans (g6.sm.trans (g7.sm.trans (g8.sm.trans g9.sm))));have f9:=aD _ _ f4;have z0:0<=c/5/512%((i:Int)+1):=XY _ (by lia);have z1:c/5/512%((i:Int)+1)<(i:Int)+1:=XZ _ (by lia);refine⟨_,f9,dS (by rw[WA];lia),by lia,by lia,?_⟩;obtain⟨j,ej⟩:=EM (xs:=ps.map V.ref) (y:=V.ref p9) z0;have L:jV (ps.map V.ref) (c/5/512%((i:Int)+1)) (.ref p9)=(ps.take j++p9::ps.drop j).map V.ref:=by rw[ej,WI,Yf,W7,YR]
   rw[L];have up:∀ {c:Addr} {u o:HO},c≠pr->H9 c=some u->upd H9 pr o c=some u:=λn e=>by rw[ap n];exact e
   have aJ:=s.sm.trans aD;have b2:p8≠pr:=λz=>by have:=g8.nw;rw[z,g7.sm _ _ (g6.sm _ _ (C.sm _ _ f4))]at this;cases this
   have bd:p9≠pr:=λz=>by have:=g9.nw;rw[z,g8.sm _ _ (g7.sm _ _ (g6.sm _ _ (C.sm _ _ f4)))]at this;cases this
   have aG:kj (upd H9 pr (.lst ((ps.take j++p9::ps.drop j).map V.ref))) ps es:=(en.mono aJ).imp λpp e h=>by
    obtain⟨⟨q,a1,a2⟩,l⟩:=h;refine⟨⟨q,up (λz=>by rw[z,f9]at a1;cases a1) a1,up (λz=>?_) a2⟩,l⟩;rw[z,f9]at a2;have Y:ps.map V.ref=e.2.map V.int:=by injection a2 with a2;injection a2
    cases h1:e.2 with
    | nil=>rw[h1]at l;exact ZR l.1 (by decide)
    | cons y r =>
     rw[h1]at Y;cases h2:ps with
     | nil=>rw[h2]at Y;cases Y
     | cons y2 r2=>rw[h2]at Y;injection Y with Y;cases Y
   refine⟨(s3.trans aJ).put fr,ps.take j++p9::ps.drop j,es.take j++(n,dH st v i)::es.drop j,_,_,_,aF,?_,?_,Z⟩
   ·exact (aG.take j).app (dg.cons ⟨⟨p8,up bd g9.at_,up b2 (g9.sm _ _ g8.at_)⟩,⟨by simp[dH],De li l8 ax⟩⟩ (aG.drop j))
   ·rw[Sy W];exact (xc es j _).trans (F.append_right _)
  ·rintro σ H3 ⟨s3,ps,es,O,N,U,f3,en,F,rfl⟩;rw[WA]at F;subst I
   try dsimp only
   obtain⟨ok,hI⟩:=Sz pg bc b4 v0 v3 ax F;refine⟨sz Z,λp4 H4 s=>?_⟩;refine⟨sz Z,λp5 H5 C=>?_⟩;exact k p5 (.tb ⟨0,0,0,0⟩ es) H5 (s3.trans (s.sm.trans C.sm)) ⟨pr,p4,ps,C.at_,C.sm _ _ (s.sm _ _ f3),en.mono (s.sm.trans C.sm),ok⟩ hI
def J3(t:Adr):Sp:=λvs H Q _=>∃(p:Addr) (D:Kt),vs=[.ref p]/\gR H p D/\∀o D' H',af H H'->TN t H' o D'->(∀H2,gR H2 p D->gR H2 p D')->(∀n,eU D n->eU D' n)->Q (.ref o) H'
def PY (T:Txt w K mg t):bj P w K mg base "_law_made" 8 t.Aw t.yi ["_law_plan_here"] (J3 t):=by
 refine⟨T.Ri,T.Hj.kp,T.T4,T.Hj.okQ KG (λvs H Q E h=>by obtain⟨p,D,rfl,_⟩:=h;rfl) λ_ _ _ _ H vs Q E j h=>?_⟩;obtain⟨p,D,rfl,a,k⟩:=h;have q:=j.units;refine⟨_,(ai (aI (aA (bG (K:=K) Z q) (au (Wv K) (aa 0) ah (λ_ _=>rfl)) cj (aH _)) (aj (am (Dw T.Ov T.Q0))) aK)
  (ai (aI (aA (bG (K:=K) rfl q) (au (Wv K) (aa 0) ah (λ_ _=>rfl)) cj (aH _)) (aj (am (hJ (Pt (K:=K) T) j (ad (au (Wv K) (aa 0) ah (λ_ _=>rfl)) (ad (au (Wv K) (aa 0) ah (λ_ _=>rfl)) ae))))) aK)
  (ai (aI (aA (bG (K:=K) rfl q) (au (Wv K) (aa 0) ah (λ_ _=>rfl)) cj (aH _)) (aj (am (hJ (Ps (K:=K) T) j (ad (au (Wv K) (aa 0) ah (λ_ _=>rfl)) ae)))) aK)
  (aj (am (hJ (Px (K:=K) T) j (ad (au (Wv K) (aa 0) ah (λ_ _=>rfl)) ae))))))),?_⟩
 cases D with
 | ld =>
  obtain⟨x,y,a⟩:=a;refine aN (.inr (.of a)) Z ?_;refine xS (bD iU) (bD iU) ?_;refine ao (λ_=>?_) (λe=>ZR (by decide +kernel) e);refine λo dx hx d g=>?_;exact k o .ld _ (fW hx d) ⟨dx,aF⟩ (λ_ h=>h) (λ_ h=>h)
 | pr b =>
  obtain⟨x,y,a⟩:=a;refine aN (.inr (.of a)) Z ?_;refine xS (bD (kA b)) (bD iU) ?_;refine ao (λe=>ZR e (by cases b<;>decide +kernel)) (λ_=>?_);refine aN (.inr (.of a)) Z ?_;refine xS (bD (kA b)) (bD iT) ?_;refine ao (λe=>ZR e (by cases b<;>decide +kernel)) (λ_=>?_);refine aN (.inr (.of a)) Z ?_;refine xS (bD (kA b)) (bD iS) ?_;refine ao (λe=>ZR e (by cases b<;>decide +kernel)) (λ_=>?_);refine aN (.inr (.of a)) Z ?_;refine λo dx hx d g=>?_;refine bI o dx b Z aF Z ?_;refine k o (.pr b) _ (λc u e=>?_) ⟨dx,aF⟩ (λ_ h=>h) (λ_ h=>h);rw[ap (aB e hx)];exact fW hx d c u e
 | sh f ns ms =>
  obtain⟨x,y,a,i,r,B,v⟩:=a;refine aN (.inr (.of a)) Z ?_;refine xS (bD iT) (bD iU) ?_;refine ao (λe=>ZR e (by decide +kernel)) (λ_=>?_);refine aN (.inr (.of a)) Z ?_;refine xS (bD iT) (bD iT) ?_;refine ao (λ_=>?_) (λe=>ZR (by decide +kernel) e);refine aN (.inr (.of a)) Z ?_;refine aN (.inr (.of a)) Z ?_;refine λo dx hx d g=>?_;have s:=fW (C:=t.bX) hx d;refine⟨o,dx,x,y,ns,ms,rfl,aF,.of (s _ _ i),.of (s _ _ r),B,v,aB i hx,aB r hx,λfp l k8 m G=>⟨rfl,?_⟩⟩;exact k o (.sh fp ns ms) l (λc u e=>k8 _ _ (aB e hx) (s _ _ e)) m (λ_ h=>h) (λ_ h=>h)
 | tb f es =>
  obtain⟨x,y,ps,a,i,z,ok⟩:=a;refine aN (.inr (.of a)) Z ?_;refine xS (bD iS) (bD iU) ?_;refine ao (λe=>ZR e (by decide +kernel)) (λ_=>?_);refine aN (.inr (.of a)) Z ?_;refine xS (bD iS) (bD iT) ?_;refine ao (λe=>ZR e (by decide +kernel)) (λ_=>?_);refine aN (.inr (.of a)) Z ?_;refine xS (bD iS) (bD iS) ?_;refine ao (λ_=>?_) (λe=>ZR (by decide +kernel) e);refine aN (.inr (.of a)) Z ?_;refine λo dx hx d g=>?_;have s:=fW (C:=t.ce) hx d;refine bu o dx x ps es rfl aF (s _ _ i) (z.mono s) ok (λF l k8 n=>⟨rfl,?_⟩);exact k o (.tb F es) l (λc u e=>k8 _ _ (aB e hx) (s _ _ e)) ⟨n,ok⟩ (λ_ h=>h) (λ_ h=>h)
def Jr{D:Kt}{g n:Int}(ok:dM D)(pg:bO D g)(a:eU D n):aW (cv D g n).1:=by
 cases D with
 | ld =>
  obtain⟨u,q,o,p⟩:=id a;intro b hb;have hb:b∈row n:=hb;unfold row at hb
  split at hb
  ·simp at hb;lia
  ·split at hb
   ·simp at hb;lia
   ·split at hb<;>simp at hb<;>lia
 | pr h=>exact MY h a
 | sh f ns ms =>
  obtain⟨r,g',e,_,l⟩:=Cj pg a;rw[Ci e];have two:cT g:=pg;have l1:∀c:Int,0<=c->∀xs:e7,xs.length<=250->xs[c.toNat]? = some n->0<=c/\c<=255:=λc i xs m e=>by
   have:=(WF.mp e).1;lia
  have v:=ok.1.2.2;have s:=ok.2.2.2;have s1:(ak g ns ms).length<=250/\(ak g ms ns).length<=250:=by rcases two with rfl|rfl<;>exact⟨by assumption,by assumption⟩
  rcases l with ⟨b,rfl,b0,eb,_⟩|⟨c,rfl,i,ec,_⟩
  ·intro x hx;rw[WK.mp hx];exact l1 b b0 _ s1.1 eb
  ·have:=l1 c i _ s1.2 ec;intro x hx;rcases WU.mp hx with rfl|hx
   ·rcases two with rfl|rfl<;>decide
   ·rw[WK.mp hx];exact this
 | tb f es =>
  obtain⟨e,j,_,k⟩:=kU a;have d:cv (.tb f es) g n=(e.2,g):=by
   show (Option.map _ _).getD _=_;rw[k];rfl
  rw[d];exact (Es.sg ok e j).2.2.2
def pX:e7:=[0,127,128,159,160,191,192,194,216,219,220,223,224,237,238,239,240,244,245,254,255,1]
def SA:aW pX:=by unfold aW;decide
def qp(H:Hp)(n:Nat)(pl:Nat->Addr)(a:Nat->Kt)(ns:e7):Prop:=∀j<n,gR H (pl j) (a j)/\dM (a j)/\∀m∈ns,eU (a j) m
def qp.mono{H a:Hp}{n:Nat}{pl:Nat->Addr}{b:Nat->Kt}{ns:e7}(h:qp H n pl b ns)(s:af H a):qp a n pl b ns:=λj hj=>⟨(h j hj).1.mono s,(h j hj).2⟩
def Km:Sp:=λvs H Q _=>∃(c:Int) (pp pn:Addr) (n:Nat) (pl:Nat->Addr) (a:Nat->Kt) (ns:e7),vs=[.int c,.ref pp,.ref pn]/\H pp=some (.lst ((List.range n).map λj=>V.ref (pl j)))/\H pn=some (.lst (ns.map V.int))/\0<n/\ns≠[]/\qp H n pl a ns/\∀q (bs:e7) H',af H H'->H' q=some (.lst (bs.map V.int))->aW bs->bs.length<=6->Q (.ref q) H'
def P1 (T:Txt w K mg t):bj P w K mg base "_law_bytes" 3 t.Az t.yl ["_law_cell", "_law_plans", "_law_pool_here"] Km:=by
 refine⟨T.Rl,T.Hm.kp,T.T7,T.Hm.okQ uR (λvs H Q E h=>by obtain⟨c,pp,pn,n,pl,y,ns,rfl,_⟩:=h;rfl) λ_ _ _ _ H vs Q E J h=>?_⟩;obtain⟨c,pp,pn,n,pl,y,ns,rfl,N,L,n0,ne,u,k⟩:=h;have s:=J.units;refine⟨_,(ai (aL (i:=3) uR.nd Z (.inl Z) (aT (rj Z)))
  (ai (aI (aA (bG (K:=K) rfl s) (cG (aa 0)) ah (aH _)) (aj (am (aT (ad (cG (dA (aa 0))) ae)))) aK)
  (ai (aI (aA (bG (K:=K) rfl s) (cG (aa 0)) ah (aH _)) (aj (am (aT (ad (au (Wv K) (aa 3) (cG (dA (aa 0))) (λ_ _=>rfl)) ae)))) aK)
  (ai (aL (i:=4) uR.nd rfl (.inl rfl) (au (Wv K) (aS (PN (K:=K) T) J (ad (au (Wv K) (aa 1) (az jt (dA (aa 0)) (bz (Wu K) T.n_len WN (ad (aa 1) ae))) (λ_ _=>rfl)) (ad (au (Wv K) (aa 2) (az jt (dA (aa 0)) (bz (Wu K) T.n_len WN (ad (aa 2) ae))) (λ_ _=>rfl)) (ad ah ae)))) ah (λ_ _=>rfl)))
  (ai (aI (aA (bG (K:=K) rfl s) (cG (aa 0)) ah (aH _)) (aj (am (dw (Ww K) (aa 4) gf (ci (Dt BP ah))))) aK)
  (aj (am (aa 4)))))))),?_⟩
 refine⟨sz Z,λp1 H1 a=>?_⟩;refine ao (λe=>?_) (λe=>?_)
 ·refine⟨sz Z,λq d l=>?_⟩;exact k q [c/4%256] d (a.sm.trans l.sm) l.at_ (λx hx=>by rw[WK.mp hx];lia) (by show 1<=6;decide)
 refine ao (λW=>?_) (λW=>?_)
 ·obtain⟨m,O⟩:∃m:Nat,c/4%22=(m:Int):=⟨(c/4%22).toNat,by lia⟩;have z:m<pX.length:=by show m<22;lia
  have R:cR (pX.map V.int) (c/4%22)=some (.int pX[m]):=by
   rw[O];exact aD (by rw[WJ,W9 z];rfl)
  refine aN (.inl a.lst) R ?_;refine⟨sz Z,λq d l=>?_⟩;exact k q [pX[m]] d (a.sm.trans l.sm) l.at_ (λx hx=>by rw[WK.mp hx];exact SA _ (Yi z)) (by show 1<=6;decide)
 have ln:0<ns.length:=ZB.mpr ne;have o:=a.sm _ _ N;have g:=a.sm _ _ L;refine ba (.inl (.of o)) ?_;refine⟨by show (0:Int)<(((List.range n).map λj=>V.ref (pl j)).length:Int);rw[bZ];lia,?_⟩;obtain⟨i,D⟩:∃i:Nat,c/4%(((List.range n).map λj=>V.ref (pl j)).length:Int)=(i:Int):=⟨(c/4%(n:Int)).toNat,by rw[bZ];have:=XY (c/4) (show (n:Int)≠0 by lia);lia⟩;have C:i<n:=by
  rw[bZ]at D;have:=XZ (c/4) (show (0:Int)<n by lia);lia
 refine aR _ (.ref (pl i)) (.inl (.of o)) (by rw[D];exact aD (iM C)) ?_;refine ba (.inl (.of g)) ?_;refine⟨by show (0:Int)<((ns.map V.int).length:Int);rw[WA];lia,?_⟩;obtain⟨j,hj⟩:∃j:Nat,c/16%((ns.map V.int).length:Int)=(j:Int):=⟨(c/16%(ns.length:Int)).toNat,by rw[WA];have:=XY (c/16) (show (ns.length:Int)≠0 by lia);lia⟩;have F:j<ns.length:=by
  rw[WA]at hj;have:=XZ (c/16) (show (0:Int)<ns.length by lia);lia
 refine⟨_,.int ns[j],.inl (.of g),by rw[hj];exact aD (by rw[WJ,W9 F];rfl),?_⟩;obtain⟨v,ok,hI⟩:=u i C;have hI:=hI ns[j] (Yi F);refine⟨pl i,y i,ns[j],0,Z,v.mono a.sm,iQ _,hI,λpf q d S hq M=>?_⟩;obtain⟨r,g',_,Y,_,G⟩:=qN ok.kok (iQ _) hI;have b:=Jr ok (iQ _) hI;rw[Y]at hq b;have f:=a.sm.trans S;refine aR _ (.ref q) (.inr (.of M)) (aD (j:=0) Z) ?_;refine ao (λU=>?_) (λU=>?_)
 ·refine⟨_,Z,_,.of hq,λB I p=>?_⟩;have p:bc d B (.lst (cY (r.map V.int) none (some (-1)))) I:=p;rw[ib]at p;exact k B _ I (f.trans p.sm) p.at_ (λx hx=>b x (SS hx)) (WP (SU _ _ _) G)
 ·exact k q r d f hq b G
def fU:List Ev->e7
 | []=>[]
 | .sg n::es=>n::fU es
 | .ft _ _ _ _::es=>fU es
theorem qI:∀es:List Ev,bS .pl es=(fU es).map some
 | []=>rfl
 | .sg n::es=>congrArg (some n :: ·) (qI es)
 | .ft p l k bs::es=>qI es
theorem uE:∀es:List Ev,bS .se es=(bq .se es).map some
 | []=>rfl
 | .sg n::es=>congrArg (some n :: ·) (uE es)
 | .ft p l k bs::es=>by
  show (bs.map λb=>some (61184+b))++bS .se es=List.map some ((bs.map λb=>61184+b)++bq .se es);rw[uE es,WI,XE]
  rfl
def uA(l:e7):(l.map some).map vO=l.map V.int:=by rw[XE];rfl
theorem rC:∀ {es:List Ev},aU es=[]->iD es=es/\bq .se es=fU es
 | [],_=>⟨rfl,rfl⟩
 | .sg n::es,h=>by
  obtain⟨a,b⟩:=rC (es:=es) h;exact⟨congrArg (Ev.sg n :: ·) a,congrArg (n :: ·) b⟩
 | .ft p l k bs::es,h=>by cases h
def JQ(K:PySem.W.Frag)(t:Adr):Sp:=λvs H Q _=>∃(o a:Addr) (D:Kt) (row:e7),vs=[.ref o,.ref a]/\TN t H o D/\aE K H a (row.map V.int)/\aW row/\row.length<=1000 /\
 ∀r H',af H H'->(aU (aG D row)=[]->∃q,H' r=some (.tup [.str "text",.ref q])/\H' q=some (.lst ((bq .se (aG D row)).map V.int)))->(∀z fs,aU (aG D row)=z::fs->∃q,H' r=some (.tup [.str "fault",.ref q])/\H' q=some (.tup (mq z)))->Q (.ref r) H'
def E1 (T:Txt w K mg t):bj P w K mg base "_law_read" 16 t.Ap t.yc ["_law_tongue", "_law_row"] (JQ K t):=by
 refine⟨T.Ra,T.G9.kp,T.TV,T.G9.okQ mT (λvs H Q E h=>by obtain⟨o,a,D,row,rfl,_⟩:=h;rfl) λ_ _ _ _ H vs Q E G h=>?_⟩;obtain⟨o,a,D,row,rfl,tn,U,hb,lr,k⟩:=h;have hu:=G.units;refine⟨_,(ai (aL (i:=2) mT.nd Z (.inl Z) (bF ae))
  (ai (Ma (K:=K) (j:=3) rfl ⟨rfl,rfl⟩ mT.nd rfl rfl T.mh (λpn W Eb L=>(aj (aL (i:=2) mT.nd rfl (.inl rfl) (bF (ad cj (ad (Mu (Pr (K:=K) T) G L (ad (aa 0) (ad (aa 1) ae))) ae)))))) (λe=>(aj (aL (i:=2) mT.nd rfl (.inl rfl) (bF (ad cj (ad (bF (ad (w5 (K:=K) rfl (aa 3)) (ad (w5 (K:=K) rfl (aa 3)) (ad (w5 (K:=K) rfl (aa 3)) ae)))) ae)))))))
  (aj (am (aa 2))))),?_⟩
 refine⟨sz Z,λR M s=>?_⟩;dsimp only [cO];refine fV (λm b=>∃r:Addr,af H b/\(aU (aG D row)=[]->∃q,b r=some (.tup [.str "text",.ref q])/\b q=some (.lst ((bq .se (aG D row)).map V.int)))/\(∀z fs,aU (aG D row)=z::fs->∃q,b r=some (.tup [.str "fault",.ref q])/\b q=some (.tup (mq z)))/\m=[some (.ref o),some (.ref a),some (.ref r),none]) (λnx B=>?_) ?_
 ·refine⟨λm c O b=>m=[some (.ref o),some (.ref a),some (.ref R),none]/\c=.ref t.dX/\af M b/\∃(e d0:Addr) (p l:Nat) (k:Str) (fs:List (Nat × Nat × Str)),O=some e/\b e=some (XO e t.dX (some d0))/\b d0=some (.xd [("place",.int (p:Int)),("length",.int (l:Int)),("kind",.str k)])/\aU (aG D row)=(p,l,k)::fs,?_,?_⟩
  ·refine⟨o,a,D,row,rfl,tn.mono s.sm,s.sm.seq U,hb,lr,λd q y g hq=>?_,λp l F fs d e d0 b s' N I=>⟨rfl,rfl,s',e,d0,p,l,F,fs,rfl,N,I,d⟩⟩;refine⟨sz Z,λS Y f=>?_⟩;refine B _ _ ⟨S,s.sm.trans (g.trans f.sm),λ_=>⟨q,f.at_,?_⟩,λz fs e=>(by rw[d]at e;cases e),rfl⟩;have hq:=f.sm _ _ hq;have v:aU (rn D row).2.2=[]/\dC row.length (rn D row).2.1=[]:=by
    rw[jw,gl]at d;obtain⟨x,n⟩:=List.append_eq_nil_iff.mp d;refine⟨x,?_⟩;unfold dC at n ⊢
    split
    ·rfl
    ·rename_i c;rw[ZP c]at n;cases n
   have x:aG D row=(rn D row).2.2:=by rw[jw,v.2,WM]
   have n:out D .pl row=(bq .se (aG D row)).map some:=by
    unfold out;show bS .pl (iD _)=_;rw[(rC v.1).1,qI,x,(rC v.1).2]
   rw[n,uA]at hq;exact hq
  ·rintro m C e od qq y ⟨rfl,hC,g,e',d0,pp,l,F,fs,J,hx,hd,d⟩ _;cases hC;cases J;refine⟨T.xm_Faulty_Faulty,?_⟩;refine⟨e,_,d0,_,_,Z,.inr ⟨_,hx⟩,hd,T.jE,T.en_Faulty_place,Z,?_⟩;refine⟨e,_,d0,_,_,Z,.inr ⟨_,hx⟩,hd,T.jE,T.en_Faulty_length,Z,?_⟩;refine⟨e,_,d0,_,_,Z,.inr ⟨_,hx⟩,hd,T.jE,T.en_Faulty_kind,Z,?_⟩;refine⟨sz Z,λq Y f=>?_⟩;refine⟨sz Z,λr H5 u=>?_⟩;refine B _ _ ⟨r,s.sm.trans (g.trans (f.sm.trans u.sm)),λe=>(by rw[d]at e;cases e),λz a0 e=>?_,rfl⟩;rw[d]at e;cases e;exact⟨q,u.at_,u.sm _ _ f.at_⟩
 ·rintro m y ⟨r,g,hA,hB,rfl⟩;exact k r y g hA hB
def fA(D:Kt):Int->List Ev->e7
 | _,[]=>[]
 | g,e::es=>(gh D g e).1.2.1++fA D (gh D g e).2 es
theorem wV(D:Kt):∀(xs ys:List Ev) (g:Int),fA D g (xs++ys)=fA D g xs++fA D (fg D g xs) ys
 | [],_,_=>rfl
 | e::xs,ys,g=>by
  show (gh D g e).1.2.1++fA D (gh D g e).2 (xs++ys)=_;rw[wV D xs ys,<- Xe]
  rfl
def Gy{D:Kt}{g:Int}{p:Nat}{bs:e7}{es:List Ev}(h:eZ D g p bs es):fA D g es=bs:=by
 induction h with
 | nil g p=>rfl
 | sg h pg k ih=>exact congrArg (_++·) ih
 | ft b pg k ih=>exact congrArg (_++·) ih
theorem DJ(D:Kt):∀(es:List Ev) (g:Int) (i:Nat) (e:Ev),es[i]? = some e->(jP D g es)[i]? = some (gh D (fg D g (es.take i)) e).1
 | [],_,_,_,h=>by cases h
 | x::es,g,0,e,h=>by cases h;rfl
 | x::es,g,i+1,e,h=>DJ D es _ i e h
theorem xh(D:Kt):∀(es:List Ev) (g:Int),(jP D g es).length=es.length
 | [],_=>rfl
 | _::es,g=>congrArg (· + 1) (xh D es _)
structure gu (D:Kt) (row:e7) (es:List Ev) (H:Hp) (pa:Addr) (L:PL):Prop where
 pt:lC H pa L
 el:L.map (λx=>x.2.2)=jP D 0 es
 ch:eZ D 0 0 row es
 lr:row.length<=400
 le:es.length<=900
def gu.mono{D:Kt}{row:e7}{es:List Ev}{H d:Hp}{e:Addr}{L:PL}(h:gu D row es H e L)(s:af H d):gu D row es d e L:={ h with pt:=⟨s _ _ h.pt.1,λx hx=>by obtain⟨a,b,c⟩:=h.pt.2 x hx;exact⟨s _ _ a,s _ _ b,c⟩⟩ }
def gu.at_{D:Kt}{row:e7}{es:List Ev}{H:Hp}{g:Addr}{L:PL}(h:gu D row es H g L){i:Nat}{v:V}(c:(L.map λx=>V.ref x.1)[i]? = some v):∃(x:Addr × Addr × Str × e7 × V) (e:Ev),v=.ref x.1/\es[i]? = some e/\x.2.2=(gh D (fg D 0 (es.take i)) e).1/\H x.1=some (.tup [.str x.2.2.1,.ref x.2.1,x.2.2.2.2])/\H x.2.1=some (.lst (x.2.2.2.1.map V.int)):=by
 rw[WJ]at c;cases hx:L[i]? with
 | none=>rw[hx]at c;cases c
 | some x =>
  rw[hx]at c;have j:=(WF.mp hx).1;have ll:=congrArg List.length h.el;rw[WA,xh]at ll;have d:es[i]? = some (es[i]'(by lia)):=W9 _;obtain⟨a,b,_⟩:=h.pt.2 x (W8 hx);have f:=congrArg (λl=>l[i]?) h.el;rw[WJ,hx,DJ D es 0 i _ d]at f;exact⟨x,_,(WZ c).symm,d,WZ f,a,b⟩
def gu.len{D:Kt}{row:e7}{es:List Ev}{H:Hp}{a:Addr}{L:PL}(h:gu D row es H a L):L.length=es.length:=by
 have ll:=congrArg List.length h.el
 rwa [WA,xh]at ll
def gu.rws_le{D:Kt}{row:e7}{es:List Ev}{H:Hp}{a:Addr}{L:PL}(h:gu D row es H a L)(i:Nat):(fA D 0 (es.take i)).length<=400:=by
 have e:=Gy h.ch;rw[<- Xm i es,wV]at e;have:=congrArg List.length e;rw[WC]at this;have:=h.lr;lia
theorem uH(D:Kt):∀(es:List Ev) (g:Int),(bq .se es).length<=(fA D g es).length+es.length
 | [],_=>WB _
 | .sg n::es,g=>by
  have:=uH D es (gh D g (.sg n)).2;show (n::bq .se es).length<=(_++fA D (gh D g (.sg n)).2 es).length+(es.length+1);rw[W0,WC];lia
 | .ft p l k bs::es,g=>by
  have:=uH D es g;show (bs.map (λb=>61184+b)++bq .se es).length<=(bs++fA D g es).length+(es.length+1);rw[WC,WC,WA];lia
def gu.tld_le{D:Kt}{row:e7}{es:List Ev}{H:Hp}{d:Addr}{L:PL}(h:gu D row es H d L)(i:Nat):(bq .se (es.take i)).length<=1300:=by
 have a:=uH D (es.take i) 0;have b:=h.rws_le i;have c:=h.le;rw[WO]at a;lia
def xk:PyData.strOk "passed" = true:=by decide +kernel
def J0:Sp:=λvs H Q _=>∃(a:Addr) (D:Kt) (row:e7) (es:List Ev) (L:PL),vs=[.ref a]/\gu D row es H a L/\∀r p q H',af H H'->H' p=some (.lst ((bq .se es).map V.int))->H' q=some (.lst (row.map V.int))->H' r=some (.tup [.ref p,.ref q])->Q (.ref r) H'
def PX (T:Txt w K mg t):bj P w K mg base "_law_of_parts" 1 t.Av t.yh ["_law_parts"] J0:=by
 refine⟨T.Rh,T.Hi.kp,T.T0,T.Hi.okQ qR (λvs H Q E h=>by obtain⟨W,D,row,es,L,rfl,_⟩:=h;rfl) λ_ _ _ _ H vs Q E hr h=>?_⟩;obtain⟨W,D,row,es,L,rfl,pr,k⟩:=h;have hu:=hr.units;refine⟨_,(ai (aL (i:=1) qR.nd Z (.inl Z) (aT ae))
  (ai (aL (i:=2) qR.nd rfl (.inl rfl) (aT ae))
  (ai (cw PassesOwn.never rfl (cC (K:=K) rfl (aa 0)) (aX (i:=3) qR.nd rfl (.inl rfl)) (ai (bE (ck (K:=K) rfl WS Xn Xo (Wz K) (aa 2) (ad (au (Wv K) (aa 3) ah (λ_ _=>rfl)) ae)))
  (aj (aI (aA (bG (K:=K) rfl hu) (au (Wv K) (aa 3) ah (λ_ _=>rfl)) cj (aH _)) (aj (bE (ck (K:=K) rfl WS Xk Xl hV (aa 1) (ad (au (Wv K) (aa 3) ah (λ_ _=>rfl)) ae)))) (aj (bE (ck (K:=K) rfl WS Xn Xo (Wz K) (aa 1) (ad (hG rfl (cq.of (fns:=(al qX).names) (N:=["_law_parts", "_law_seen", "_law_whole", "_law_part"]) (Nc:=["_law_byte"]) (nv:=1) (caps:=[]) rfl rfl (by decide +kernel)) (cC (K:=K) rfl (au (Wv K) (aa 3) ah (λ_ _=>rfl))) (λ_ _ _ _=>(aX (i:=0) (show List.Nodup (["_law_byte"]:List Str) by decide +kernel) rfl (Or.inl rfl) (Or.inr rfl))) (λ_ _ _ _=>fX) (λ_ _ _ _=>(az (Wt K) ah (aa 0)))) ae))))))))
  (aj (am (bF (ad (aa 1) (ad (aa 2) ae)))))))),?_⟩
 refine⟨sz Z,λp H1 G=>?_⟩;refine⟨sz Z,λq H2 I=>?_⟩;have s2:=G.sm.trans I.sm;have B:p≠q:=aB G.at_ I.nw;have fq:H q=none:=G.sm.free I.nw;refine⟨W,Z,⟨_,.of (s2 _ _ pr.pt.1)⟩,kT (K:=K) (a:=W) (xs:=L.map λx=>V.ref x.1) (λi σ Y=>af H Y/\∃v3:Option V,Y p=some (.lst ((bq .se (es.take i)).map V.int))/\Y q=some (.lst ((fA D 0 (es.take i)).map V.int))/\σ=[some (.ref W),some (.ref p),some (.ref q),v3])
  ⟨s2,_,I.sm _ _ G.at_,I.at_,rfl⟩ (λi σ Y _ z=>.of (z.1 _ _ pr.pt.1)) ?_ ?_⟩
 ·rintro i v σ H3 NN eN hv ⟨M,v3,m,d,rfl⟩;obtain⟨x,e,rfl,he,ex,a6,O⟩:=pr.at_ hv;have hx:=M _ _ a6;have hr:=M _ _ O;have le:=pr.le;have li:=(WF.mp he).1;have lq:=pr.rws_le i;have J:=pr.rws_le (i+1);have a8:=pr.tld_le (i+1);have R:fA D 0 (es.take (i+1))=fA D 0 (es.take i)++x.2.2.2.1:=by
   rw[dO he,wV,ex];exact congrArg _ (WM _)
  have s:bq .se (es.take (i+1))=bq .se (es.take i)++ko .se e:=by
   rw[dO he,qJ];exact congrArg _ (WM _)
  rw[R,WC]at J;rw[s,WC]at a8;refine b8 ?_;dsimp only;refine⟨.inl ⟨rfl,_,.of d⟩,?_⟩;refine aR _ (.ref x.2.1) (.inr (.of hx)) (aD (j:=1) Z) ?_;refine d7 d hr (bM (by rw[WA,WA];lia)) ?_;rw[<- WI,<- R];obtain⟨C,e4⟩:∃C,C=upd H3 q (.lst ((fA D 0 (es.take (i+1))).map V.int)):=⟨_,rfl⟩;rw[<- e4];have k4:∀ {c u},c≠q->H3 c=some u->C c=some u:=λn e=>by rw[e4,ap n];exact e
  have f:=k4 (bA hx d (by intro z;cases z)) hx;have g:=k4 B m;have S:C q=some (.lst ((fA D 0 (es.take (i+1))).map V.int)):=by rw[e4,aF]
  have s4:af H C:=by rw[e4];exact M.put fq
  have F:=k4 (aB O fq) hr;cases e with
  | sg n =>
   have e1:x.2.2.1 = "sign":=by rw[ex];rfl
   have e2:x.2.2.2.2=.int n:=by rw[ex];rfl
   rw[e1,e2]at f;refine aR _ (.str "sign") (.inr (.of f)) (aD (j:=0) Z) ?_;refine xS (di iy) (di iy) ?_;refine ao (λ_=>?_) (λz=>ZR (show PyData.eqv (.str "sign") (.str "sign")=true by decide +kernel) z);refine⟨.inl ⟨rfl,_,.of g⟩,?_⟩;refine aR _ (.int n) (.inr (.of f)) (aD (j:=2) Z) ?_;refine c7 g (dS (by rw[WA];lia)) ?_;subst eN;refine⟨s4.put G.nw,_,?_,by rw[ap B.symm];exact S,Z⟩;rw[aF,s,WI]
   rfl
  | ft p' l kd bs =>
   have e1:x.2.2.1 = "passed":=by rw[ex];rfl
   have e2:x.2.2.2.1=bs:=by rw[ex];rfl
   rw[e1]at f;rw[e2]at F;refine aR _ (.str "passed") (.inr (.of f)) (aD (j:=0) Z) ?_;refine xS (di xk) (di iy) ?_;refine ao (λz=>ZR (show PyData.eqv (.str "passed") (.str "sign")=true from z) (by decide +kernel)) (λ_=>?_);refine⟨.inl ⟨rfl,_,.of g⟩,?_⟩;refine aR _ (.ref x.2.1) (.inr (.of f)) (aD (j:=1) Z) ?_;have ar:bs.length<=400:=by rw[e2]at J;lia
   refine cB x.2.1 rfl ⟨_,.of F⟩ (qc ((bs.map λb=>61184+b).map V.int) (by simp) (.of F) (bM (by rw[WA];lia)) (λj v y H5 N hv hy s5 hN=>?_) λp5 H5 U=>?_)
   ·obtain⟨o,ho,rfl⟩:=fK hv;rw[WJ,WJ,ho]at hy;cases hy;exact hN _ (af.refl _)
   ·refine d7 (U.sm _ _ g) U.at_ (bM (by rw[WA,WA];have:(ko .se (.ft p' l kd bs)).length=(bs.map λb=>61184+b).length:=rfl;lia)) ?_;subst eN;refine⟨(s4.trans U.sm).put G.nw,_,?_,by rw[ap B.symm];exact U.sm _ _ S,Z⟩;rw[aF,s,WI]
    rfl
 ·rintro σ H3 ⟨M,v3,m,d,rfl⟩;rw[WA,pr.len,WY]at m d;rw[Gy pr.ch]at d;exact⟨sz Z,λr C g4=>k r p q C (M.trans g4.sm) (g4.sm _ _ m) (g4.sm _ _ d) g4.at_⟩
def Kq:Sp:=λvs H Q _=>∃(a:Addr) (D:Kt) (row:e7) (es:List Ev) (L:PL),vs=[.ref a]/\gu D row es H a L/\∀p H',af H H'->H' p=some (.lst ((fU (iD es)).map V.int))->Q (.ref p) H'
theorem qP:∀xs ys:List Ev,fU (xs++ys)=fU xs++fU ys
 | [],_=>rfl
 | .sg n::xs,ys=>congrArg (n :: ·) (qP xs ys)
 | .ft _ _ _ _::xs,ys=>qP xs ys
theorem uP:∀xs:List Ev,(fU xs).length<=xs.length
 | []=>WB _
 | .sg n::xs=>XR (uP xs)
 | .ft _ _ _ _::xs=>Ze (uP xs)
def P2 (T:Txt w K mg t):bj P w K mg base "_law_ahead" 1 t.AA t.ym ["_law_parts"] Kq:=by
 refine⟨T.Rm,T.Hn.kp,T.T8,T.Hn.okQ uS (λvs H Q E h=>by obtain⟨f,D,row,es,L,rfl,_⟩:=h;rfl) λ_ _ _ _ H vs Q E B h=>?_⟩;obtain⟨f,D,row,es,L,rfl,pr,k⟩:=h;have C:=B.units;refine⟨_,(ai (aL (i:=1) uS.nd Z (.inl Z) (aT ae))
  (ai (cw PassesOwn.never rfl (cC (K:=K) rfl (aa 0)) (aX (i:=2) uS.nd rfl (.inl rfl)) (ai (aI (aA (iC (K:=K) rfl C) (au (Wv K) (aa 2) ah (λ_ _=>rfl)) cj (aH _)) (aj (am (aa 1))) aK)
  (aj (bE (ck (K:=K) rfl WS Xk Xl hV (aa 1) (ad (au (Wv K) (aa 2) ah (λ_ _=>rfl)) ae))))))
  (aj (am (aa 1))))),?_⟩
 refine⟨sz Z,λp R g=>?_⟩;refine⟨f,Z,⟨_,.of (g.sm _ _ pr.pt.1)⟩,kT (K:=K) (a:=f) (xs:=L.map λx=>V.ref x.1) (λi σ q=>af H q/\aU (es.take i)=[]/\∃v2:Option V,q p=some (.lst ((fU (es.take i)).map V.int))/\σ=[some (.ref f),some (.ref p),v2])
  ⟨g.sm,rfl,_,g.at_,rfl⟩ (λi σ q _ z=>.of (z.1 _ _ pr.pt.1)) ?_ ?_⟩
 ·rintro i v σ y O eN F ⟨c,d,M,b,rfl⟩;obtain⟨x,e,rfl,m,ex,r,u⟩:=pr.at_ F;have hx:=c _ _ r;have B:=c _ _ u;have G:=(WF.mp m).1;have le:=pr.le;have N:=uP (es.take i);rw[WO]at N;cases e with
  | sg n =>
   have s:x.2.2.1 = "sign":=by rw[ex];rfl
   have o:x.2.2.2.2=.int n:=by rw[ex];rfl
   rw[s,o]at hx;refine aR _ (.str "sign") (.inr (.of hx)) (aD (j:=0) Z) ?_;refine xS (di iy) (di iy) ?_;refine ao (λz=>ZR (show (!PyData.eqv (.str "sign") (.str "sign"))=true from z) (by decide +kernel)) (λ_=>?_);refine⟨.inl ⟨rfl,_,.of b⟩,?_⟩;refine aR _ (.int n) (.inr (.of hx)) (aD (j:=2) Z) ?_;refine c7 b (dS (by rw[WA];lia)) ?_;subst eN;refine⟨c.put g.nw,by rw[dO m,gl,d];rfl,_,?_,rfl⟩;rw[aF,dO m,qP,WI]
   rfl
  | ft p' l kd bs =>
   have s:x.2.2.1 = "passed":=by rw[ex];rfl
   rw[s]at hx;refine aR _ (.str "passed") (.inr (.of hx)) (aD (j:=0) Z) ?_;refine xS (di xk) (di iy) ?_;refine ao (λ_=>?_) (λz=>ZR (show (!PyData.eqv (.str "passed") (.str "sign"))=true by decide +kernel) z);have J:fU (iD es)=fU (es.take i):=by
    have I:es=es.take i++.ft p' l kd bs::es.drop (i+1):=by
     rw[<- (WF.mp m).2,<- Zg G,Xm]
    have o:=pM (W:=.pl) (xs:=es.take i) (.ft p' l kd bs::es.drop (i+1)) (by show (!(aU (es.take i)).isEmpty)=false;rw[d];rfl);rw[<- I]at o;rw[show iD es=es.take i++[.ft p' l kd bs] from o,qP];exact WM _
   exact k p y c (by rw[J];exact b)
 ·rintro σ y ⟨c,d,M,b,rfl⟩;rw[WA,pr.len,WY]at b d;exact k p y c (by rw[(rC d).1];exact b)
def Kd(k:Str):Prop:=k = "short"\/k = "broken"\/k = "strange"
def EC{k:Str}(h:Kd k):PyData.strOk k=true:=by rcases h with rfl|rfl|rfl<;>decide +kernel
def jC(es:List Ev):Prop:=∀f∈aU es,Kd f.2.2
def jC.app{xs ys:List Ev}(h:jC xs)(g:jC ys):jC (xs++ys):=λf a=>by
 rw[gl]at a;exact (WQ.mp a).elim (h f) (g f)
def ED(D:Kt)(g:Int)(c:Nat)(r:e7):jC (cI D g c r).2.2:=by
 unfold cI;cases bP D g r with
 | sg n g'=>exact λf a=>nomatch a
 | mo=>exact λf a=>nomatch a
 | no=>exact λf a=>by rw[WK.mp a];exact .inr (.inr Z)
def O8(D:Kt)(g:Int)(c:Nat)(r:e7):jC (iY D g c r).2.2:=by
 unfold iY;cases bP D g r with
 | sg n g'=>exact λf a=>nomatch a
 | mo=>exact λf a=>nomatch a
 | no =>
  intro f a;rcases WU.mp a with rfl|a
  ·exact .inr (.inl Z)
  ·exact ED D g c _ f a
def O7(D:Kt)(g:Int)(r:e7)(c:Nat)(b:Int):jC (cu D g r c b).2.2:=by
 unfold cu
 split
 ·split
  ·exact ED D g c _
  ·exact O8 D g c _
 ·exact λf a=>nomatch a
theorem EB(D:Kt):∀(bs:e7) (g:Int) (r:e7) (c:Nat),jC (run D g r c bs).2.2
 | [],_,_,_=>λf a=>nomatch a
 | b::bs,g,r,c=>(O7 D g r (c+1) b).app (EB D bs _ _ _)
def EE(D:Kt)(bs:e7):jC (aG D bs):=(EB D bs 0 [] 0).app (by
 unfold dC
 split
 ·exact λf a=>nomatch a
 ·exact λf a=>by rw[WK.mp a];exact .inl Z)
def dF(L:List (Nat × Nat × Str)):List PyData:=L.map λx=>PyData.tuple [.int (x.1:Int),.int (x.2.1:Int),.str x.2.2]
theorem Gm:∀L:List (Nat × Nat × Str),(∀x∈L,Kd x.2.2)->PyData.canLayAll0 (dF L)=true
 | [],_=>rfl
 | q::r,h=>by
  have ih:=Gm r λx hx=>h x (W4 _ hx);have k:=EC (h q (W3 ..));simp only [dF]at ih;simp[dF,PyData.canLayAll0,PyData.canLay0,ih,k]
theorem Gk:∀L:List (Nat × Nat × Str),PyData.depthAll (dF L)<=1
 | []=>by decide
 | q::r=>by
  have ih:=Gk r;simp only [dF]at ih;simp[dF,PyData.depthAll,PyData.depth];lia
def sZ{L:List (Nat × Nat × Str)}(h:∀x∈L,Kd x.2.2):SeqAt.shaped (.list (dF L))=true:=by
 have:=Gk L;simp[SeqAt.shaped,PyData.canLay0,PyData.depth,Gm L h];lia
def SQ(L:List (Nat × Nat × Str)):PyData.eqv (.list (dF L)) (.list (dF L))=true:=by
 show PyData.eqvAll _ _=true
 induction L with
 | nil=>rfl
 | cons q r ih =>
  simp only [dF]at ih;simp[dF,PyData.eqvAll,PyData.eqv,ih]
theorem pZ{H:Hp}:∀L:FL,(∀q∈L,H q.1=some (.tup (mq q.2)))->cf K H (dF (L.map λx=>x.2)) (L.map λq=>V.ref q.1)
 | [],_=>.nil
 | q::r,h=>.cons (bf.tup (.of (h q (.head _))) (.cons (.int _) (.cons (.int _) (.cons (.str _) .nil)))) (pZ r λx hx=>h x (.tail _ hx))
def D4(ns:e7):¬(if true=true then !PyData.eqv (.list (ns.map PyData.int)) (.list (ns.map PyData.int)) else PyData.eqv (.list (ns.map PyData.int)) (.list (ns.map PyData.int)))=true:=by rw[sW];simp
def Gb(a:e7):PyData.eqv (.list (a.map PyData.int)) (.list (a.map PyData.int))=true:=by rw[sW];simp
theorem Aj:∀ns:e7,PyData.eqvAll (ns.map PyData.int) (ns.map PyData.int)=true
 | []=>rfl
 | n::ns=>by simp[PyData.eqvAll,PyData.eqv,Aj ns]
def CN(ns a:e7):SeqAt.shaped (.tuple [.list (ns.map PyData.int),.list (a.map PyData.int)])=true:=by simp[SeqAt.shaped,PyData.canLay0,PyData.canLayAll0,PyData.depth,PyData.depthAll,ZK,ZL]
def Su(ns a:e7):PyData.eqv (.tuple [.list (ns.map PyData.int),.list (a.map PyData.int)]) (.tuple [.list (ns.map PyData.int),.list (a.map PyData.int)])=true:=by simp[PyData.eqv,PyData.eqvAll,Aj]
def CL (ns:e7):SeqAt.shaped (.tuple [.str "text",.list (ns.map PyData.int)])=true:=by
 have:PyData.strOk "text" = true:=by decide +kernel
 simp[SeqAt.shaped,PyData.canLay0,PyData.canLayAll0,PyData.depth,PyData.depthAll,ZK,ZL,this]
def Sq (ns:e7):PyData.eqv (.tuple [.str "text",.list (ns.map PyData.int)]) (.tuple [.str "text",.list (ns.map PyData.int)])=true:=by simp[PyData.eqv,PyData.eqvAll,Aj]
def CM {z:Nat × Nat × Str} (h:Kd z.2.2):SeqAt.shaped (.tuple [.str "fault",.tuple [.int (z.1:Int),.int (z.2.1:Int),.str z.2.2]])=true:=by
 have:PyData.strOk "fault" = true:=by decide +kernel
 simp[SeqAt.shaped,PyData.canLay0,PyData.canLayAll0,PyData.depth,PyData.depthAll,this,EC h]
def Sr (z:Nat × Nat × Str):PyData.eqv (.tuple [.str "fault",.tuple [.int (z.1:Int),.int (z.2.1:Int),.str z.2.2]]) (.tuple [.str "fault",.tuple [.int (z.1:Int),.int (z.2.1:Int),.str z.2.2]])=true:=by simp[PyData.eqv,PyData.eqvAll]
def Ip{D:Kt}(ok:dM D){row:e7}(hb:aW row):(aY D 0 (bq .se (aG D row))).1=row/\∀x∈bq .se (aG D row),jA D x:=by
 obtain⟨pg,d,a,i,h,_⟩:=rS ok row 0 [] 0 (iQ D) (df.nil _ _) hb;have g:∀e∈aG D row,ug D e:=by
  rw[jw];intro e f;rcases WQ.mp f with z|z
  ·exact h e z
  ·unfold dC at z
   split at z
   ·cases z
   ·rw[WK.mp z];exact⟨(d.byts pg).1,Z⟩
 refine⟨?_,uG g⟩;have e:(aY D (rn D row).1 (bq .se (dC row.length (rn D row).2.1))).1=(rn D row).2.1:=by
  unfold dC
  split
  ·rename_i c;rw[c];rfl
  ·show (aY D _ ((_:e7).map (λb=>61184+b)++[])).1=_;rw[WM,qD D _ _ (d.byts pg).1]
 rw[jw,qJ,km];show (aY D 0 (bq .se (run D 0 [] 0 row).2.2)).1++(aY D (aY D 0 (bq .se (run D 0 [] 0 row).2.2)).2 _).1=_;rw[i,e];exact a
def qx(t:Adr)(W:Wy)(H:Hp)(x:Addr)(L:FL):Prop:=∃(dx o b mt y:Addr) (g:Int) (c:Nat) (e:Bool),H x=some (fu t W dx o b mt y g c e)/\eY H mt L
def qx.mono{W:Wy}{H a:Hp}{x:Addr}{L:FL}(h:qx t W H x L)(s:af H a):qx t W a x L:=by
 obtain⟨dx,o,b,mt,y,g,c,e,f,d⟩:=h;exact⟨dx,o,b,mt,y,g,c,e,s _ _ f,d.mono s⟩
def JL(t:Adr):Sp:=λvs H Q _=>∃(o pr c ps a pn:Addr) (D:Kt) (row:e7) (d b:FL),vs=[.ref o,.ref pr,.ref c,.ref ps,.ref a,.ref pn]/\TN t H o D/\H pr=some (.lst (row.map V.int))/\aW row/\row.length<=400/\qx t .pl H c d/\d.map (λx=>x.2)=(aU (aG D row)).take 1/\H ps=some (.lst ((fU (iD (aG D row))).map V.int))/\qx t .se H a b/\b.map (λx=>x.2)=aU (aG D row)/\H pn=some (.lst ((bq .se (aG D row)).map V.int))/\∀H',af H H'->Q (.bl true) H'
def Gh{H:Hp}{r p q:Addr}{ns a:e7}(b:H r=some (.tup [.ref p,.ref q]))(c:H p=some (.lst (ns.map V.int)))(hq:H q=some (.lst (a.map V.int))):bf K H (.tuple [.list (ns.map PyData.int),.list (a.map PyData.int)]) (.ref r):=bf.tup (.of b) (.cons (bf.lst (.of c) (cf.ints _)) (.cons (bf.lst (.of hq) (cf.ints _)) .nil))
def PQ (T:Txt w K mg t):bj P w K mg base "_law_right" 17 t.Ao t.yb ["_law_tongue", "_law_row", "_law_first_reader", "_law_signs", "_law_seeing", "_law_seen"] (JL t):=by
 have rR:=λ(T:Txt w K mg t)=>o7 (P:=P) (base:=base) T .pl;have b:=λ(T:Txt w K mg t)=>o7 (P:=P) (base:=base) T .se;refine⟨T.Q9,T.G8.kp,T.TU,T.G8.okQ uQ (λvs H Q E h=>by obtain⟨o,pr,x1,ps,x2,pn,D,row,L1,u,rfl,_⟩:=h;rfl) λ_ _ _ _ H vs Q E c h=>?_⟩;obtain⟨o,pr,x1,ps,x2,pn,D,row,L1,u,rfl,tn,m,f,lr,f1,e1,aW,f2,S,M,k⟩:=h;have F:=c.units;have ok:=tn.koS;refine⟨_,(ai (aL (i:=6) uQ.nd Z (.inl Z) (aS (Qa (K:=K) T) c (ad (aa 0) (ad (dI (Wx K) T.n_list Xa (ad (aa 1) ae)) ae))))
  (ai (aI (dU (gY (aA (iC (K:=K) rfl F) (aS (PX (K:=K) T) c (ad (aa 6) ae)) (bF (ad (aa 5) (ad (aa 1) ae))) (aH _)) (gX (aA (iC (K:=K) rfl F) (aS (P3 (K:=K) T) c (ad (aa 0) (ad (dI (Wx K) T.n_list Xa (ad (aa 5) ae)) ae))) (aa 1) (aH _))))) (aj (am ix)) aK)
  (ai (aL (i:=7) uQ.nd rfl (.inl rfl) (cF (b T) c (aa 4)))
  (ai (aI (aA (iC (K:=K) rfl F) (bz (Wu K) T.n_len WN (ad (aa 7) ae)) (bz (Wu K) T.n_len WN (ad (hG rfl (cq.of (fns:=(al qW).names) (N:=["_law_tongue", "_law_row", "_law_first_reader", "_law_signs", "_law_seeing", "_law_seen", "_law_parts", "_law_faults"]) (Nc:=["_law_part"]) (nv:=1) (caps:=[]) rfl rfl (by decide +kernel)) (cC (K:=K) rfl (aa 6)) (λ_ _ _ _=>(aX (i:=0) (show List.Nodup (["_law_part"]:List Str) by decide +kernel) rfl (Or.inl rfl) (Or.inr rfl))) (λ_ _ _ _=>(lT (aA (iC (K:=K) rfl F) (au (Wv K) (aa 0) ah (λ_ _=>rfl)) cj (aH _)))) (λ_ _ _ _=>(aa 0))) ae)) (aH _)) (aj (am ix)) aK)
  (ai (aI (dU (gY (aA (iC (K:=K) rfl F) (aa 3) (aS (P2 (K:=K) T) c (ad (aa 6) ae)) (aH _)) (gX (aA (iC (K:=K) rfl F) (cF (rR T) c (aa 2)) (dw (Ww K) (aa 7) gf (ci ah)) (aH _))))) (aj (am ix)) aK)
  (ai (aI (aA (bG (K:=K) rfl F) (aa 7) (aT ae) (aH _)) (aj (am (kx (bG (K:=K) rfl F) (aS (E1 (K:=K) T) c (ad (aa 0) (ad (dI (Wx K) T.n_list Xa (ad (aa 1) ae)) ae))) (bF (ad cj (ad (aa 5) ae))) (aH _)))) aK)
  (aj (am (kx (bG (K:=K) rfl F) (aS (E1 (K:=K) T) c (ad (aa 0) (ad (dI (Wx K) T.n_list Xa (ad (aa 1) ae)) ae))) (bF (ad cj (ad (au (Wv K) (aa 7) ah (λ_ _=>rfl)) ae))) (aH _)))))))))),?_⟩
 refine bN λT' eT=>?_;refine ba (.inl (.of m)) (λp1 H1 g1=>?_);refine cL o p1 D row rfl (tn.mono g1.sm) g1.lst f lr (λpa L H2 s2 pt bo fr eL=>?_);have aF:=g1.sm.trans s2;have le:(aG D row).length<=900:=by
  have bp:=(m4 ok f).2.2.2;rw[jw];unfold dC;rw[WC]
  split
  ·show _+0<=_;lia
  ·show _+1<=_;lia
 have O:gu D row (aG D row) H2 pa L:=⟨pt,eL,zQ ok row 0 [] 0 (iQ D) (df.nil _ _) (WB _) f,lr,le⟩;refine b8 ?_;subst eT
 try dsimp only
 refine bN λT' eT=>?_;refine⟨pa,D,row,aG D row,L,Z,O,λr p q H3 s3 hp hq c=>?_⟩;have aQ:=aF.trans s3;refine⟨sz Z,λr4 H4 R=>?_⟩;have y:=aQ.trans R.sm;refine⟨_,_,Gh (R.sm _ _ c) (R.sm _ _ hp) (R.sm _ _ hq),Gh R.at_ (y _ _ M) (y _ _ m),CN _ _,CN _ _,?_⟩;refine ao (λe=>ZR (show (!PyData.eqv _ _)=true from e) (by rw[Su];decide)) (λ_=>?_);obtain⟨ew,th⟩:=Ip ok f;have bx:(bq .se (aG D row)).length<=1300:=by
  have:=O.tld_le (aG D row).length
  rwa [WY]at this
 refine ba (.inl (.of (y _ _ M))) (λp5 H5 g5=>?_);have ag:=y.trans g5.sm;refine cL o p5 D _ rfl (tn.mono ag) g5.lst (by lia) th (λp6 H6 s6 a8=>?_);rw[ew]at a8;have g:=ag.trans s6;refine⟨_,_,bf.lst (.of a8) (cf.ints _),bf.lst (.of (g _ _ m)) (cf.ints _),Xh _,Xh _,?_⟩;refine ao (λe=>ZR e (D4 _)) (λ_=>?_);unfold jI;subst eT
 try dsimp only
 refine bN λT' eT=>?_;have ar:=O.mono (s3.trans (R.sm.trans (g5.sm.trans s6)));obtain⟨d2,o2,b2,m2,y2,aO,ap,aq,Y,G⟩:=f2.mono g;refine bI x2 d2 _ Z Y Z (jJ λzq zh=>⟨x2,d2,o2,b2,m2,y2,aO,ap,aq,u,Z,Y,G,λpf H7 W=>zh _ _ ?_⟩);refine b8 ?_;subst eT
 try dsimp only
 refine bN λT' eT=>?_;have d:=ar.mono W.sm;have aZ:=g.trans W.sm;have az:u.length=(aU (aG D row)).length:=by rw[<- S,WA]
 refine ba (.inl W.lst) ?_;refine cB pa rfl ⟨_,.of d.pt.1⟩ (j5 (K:=K) (a:=pa) (xs:=L.map λx=>V.ref x.1) (λi ys H'=>af H7 H'/\ys.length=(aU ((aG D row).take i)).length) ⟨af.refl _,rfl⟩ (λi ys H' hi z=>⟨.of (z.1 _ _ d.pt.1),?_⟩) (bM (by rw[WA,d.len];lia)) (λi v ys H8 N hv z hN=>?_) λys H8 p8 H9 z g9=>?_)
 ·rw[z.2];exact WP (pI _) (by rw[WO];exact Nat.min_le_left _ _)
 ·obtain⟨s8,ly⟩:=z;obtain⟨x,e,rfl,he,ex,aN,_⟩:=d.at_ hv;have hx:=s8 _ _ aN;cases e with
  | sg n =>
   have e1:x.2.2.1 = "sign":=by rw[ex];rfl
   rw[e1]at hx;refine aR _ (.str "sign") (.inr (.of hx)) (aD (j:=0) Z) ?_;refine xS (di iy) (di iy) ?_;refine ao (λz=>ZR (show (!PyData.eqv (.str "sign") (.str "sign"))=true from z) (by decide +kernel)) (λ_=>?_);refine hN _ _ ⟨s8,?_⟩;rw[dO he,gl,ly];exact congrArg List.length (WM _).symm
  | ft p' l kd bs =>
   have e1:x.2.2.1 = "passed":=by rw[ex];rfl
   rw[e1]at hx;refine aR _ (.str "passed") (.inr (.of hx)) (aD (j:=0) Z) ?_;refine xS (di xk) (di iy) ?_;refine ao (λ_=>?_) (λz=>ZR (show (!PyData.eqv (.str "passed") (.str "sign"))=true by decide +kernel) z);refine hN _ _ ⟨s8,?_⟩;rw[dO he,gl,WC,WC,ly]
   rfl
 obtain⟨s8,ly⟩:=z;rw[WA,d.len,WY]at ly;have C:=s8.trans g9.sm;refine ba (.inl g9.lst) ?_;refine ao (λe=>?_) (λ_=>?_)
 ·have e:(!decide (((u.map λx=>V.ref x.1).length:Int)=(ys.length:Int)))=true:=e;rw[WA,az,ly]at e;simp at e
 unfold jI;subst eT
 try dsimp only
 refine bN λT' eT=>?_;have ax:=d.mono C;have aB:=aZ.trans C;refine⟨pa,D,row,aG D row,L,Z,ax,λpA HA sA hA=>?_⟩;have a3:=aB.trans sA;refine⟨_,_,bf.lst (.of (a3 _ _ aW)) (cf.ints _),bf.lst (.of hA) (cf.ints _),Xh _,Xh _,?_⟩;refine ao (λe=>ZR e (D4 _)) (λ_=>?_);obtain⟨d1,o1,b1,m1,y1,aY,aV,aE,a1,U⟩:=f1.mono a3;refine bI x1 d1 _ Z a1 Z (jJ λzq zh=>⟨x1,d1,o1,b1,m1,y1,aY,aV,aE,L1,Z,a1,U,λpB HB gB=>zh _ _ ?_⟩);have ab:HB pf=some (.lst (u.map λx=>V.ref x.1)):=gB.sm _ _ (sA _ _ (C _ _ W.at_));refine⟨_,Z,_,.of ab,λpC HC gC=>?_⟩;have eC:cY (u.map λx=>V.ref x.1) none (some 1)=(u.take 1).map λx=>V.ref x.1:=by rw[show (1:Int)=((1:Nat):Int) from rfl,Gn,Yf]
 rw[eC]at gC;have I:=W.sm.trans (C.trans (sA.trans (gB.sm.trans gC.sm)));have ay:=g.trans I;have J:∀x∈aU (aG D row),Kd x.2.2:=EE D row;have a6:∀x∈(aU (aG D row)).take 1,Kd x.2.2:=λx hx=>J x (XV hx);have D1:=pZ (K:=K) (H:=HC) L1 λq hq=>(U.mono (gB.sm.trans gC.sm)).2 q hq;have D2:=pZ (K:=K) (H:=HC) (u.take 1) λq hq=>(G.mono I).2 q (XV hq);rw[e1]at D1;rw[Yf,S]at D2;refine⟨_,_,bf.lst (.of (gC.sm _ _ gB.at_)) D1,bf.lst gC.lst D2,sZ a6,sZ a6,?_⟩;refine ao (λe=>ZR (show (!PyData.eqv _ _)=true from e) (by rw[SQ];decide)) (λ_=>?_);unfold jI;subst eT
 try dsimp only
 refine bN λT' eT=>?_;refine⟨sz Z,λpD HD gD=>?_⟩;have hpfD:HD pf=some (.lst (u.map λx=>V.ref x.1)):=gD.sm _ _ (gC.sm _ _ ab);have D3:=pZ (K:=K) (H:=HD) u λq hq=>(G.mono (I.trans gD.sm)).2 q hq;rw[S]at D3;have s:=ay.trans gD.sm;refine⟨_,_,bf.lst (.of hpfD) D3,bf.lst gD.lst (cf.ints []),sZ J,Xh [],?_⟩;cases ef:aU (aG D row) with
 | nil =>
  refine ao (λ_=>?_) (λe=>ZR Z e);refine ba (.inl (.of (s _ _ m))) (λpE HE gE=>?_);refine cL o pE D row rfl (tn.mono (s.trans gE.sm)) gE.lst f (by lia) (λr HF sF hA _=>?_);obtain⟨q,c,hq⟩:=hA ef;refine⟨sz Z,λpG B gG=>?_⟩;have a5:=s.trans (gE.sm.trans (sF.trans gG.sm));have dT:∀ {a q:Addr},B a=some (.tup [.str "text",.ref q])->B q=some (.lst ((bq .se (aG D row)).map V.int))->bf K B (.tuple [.str "text",.list ((bq .se (aG D row)).map PyData.int)]) (.ref a):=λh1 h2=>bf.tup (.of h1) (.cons (bf.str _) (.cons (bf.lst (.of h2) (cf.ints _)) .nil));refine⟨_,_,dT (gG.sm _ _ c) (gG.sm _ _ hq),dT gG.at_ (a5 _ _ M),CL _,CL _,?_⟩;exact cA (k B a5) (by rw[Sq];rfl)
 | cons z fs =>
  refine ao (λe=>ZR (show PyData.eqv (.list (dF (z::fs))) (.list [])=true from e) (by simp[dF,PyData.eqv,PyData.eqvAll])) (λ_=>?_);unfold jI;subst eT
  try dsimp only
  refine ba (.inl (.of (s _ _ m))) (λpE HE gE=>?_);refine cL o pE D row rfl (tn.mono (s.trans gE.sm)) gE.lst f (by lia) (λr HF sF _ hB=>?_);obtain⟨q,c,hq⟩:=hB z fs ef;rw[ef]at S;cases u with
  | nil=>cases S
  | cons z0 L3 =>
  have ez:z0.2=z:=(List.cons.inj S).1;have sDF:=gE.sm.trans sF;have a0:=G.2 z0 (W3 ..);rw[ez]at a0;refine aR _ (.ref z0.1) (.inl (.of (sDF _ _ hpfD))) (aD (j:=0) Z) ?_;refine⟨sz Z,λpG B gG=>?_⟩;have an:=I.trans (gD.sm.trans (sDF.trans gG.sm));have dT:∀ {a q:Addr},B a=some (.tup [.str "fault",.ref q])->B q=some (.tup (mq z))->bf K B (.tuple [.str "fault",.tuple [.int (z.1:Int),.int (z.2.1:Int),.str z.2.2]]) (.ref a):=λh1 h2=>bf.tup (.of h1) (.cons (bf.str _) (.cons (bf.tup (.of h2) (.cons (.int _) (.cons (.int _) (.cons (.str _) .nil)))) .nil));have kz:=J z (by rw[ef];exact W3 ..);refine⟨_,_,dT (gG.sm _ _ c) (gG.sm _ _ hq),dT gG.at_ (an _ _ a0),CM kz,CM kz,?_⟩;exact cA (k B (g.trans an)) (by rw[Sr];rfl)
end
end My
namespace My
open PySem L2
def dN{α:Type}(f:Nat->α)(i:Nat)(x:α):Nat->α:=λj=>if j=i then x else f j
def dG{α:Type}{f:Nat->α}{i:Nat}{x:α}:dN f i x i=x:=ZQ rfl
def dh{α:Type}{f:Nat->α}{i j:Nat}{x:α}(h:j≠i):dN f i x j=f j:=ZP h
def wX{f:Nat->Addr}{i:Nat}{x:Addr}:(List.range i).map (λj=>V.ref (f j))++[V.ref x]=(List.range (i+1)).map (λj=>V.ref (dN f i x j)):=Dl (g:=V.ref) dG λj hj=>dh (WL hj)
def IC{α:Type}{f:Nat->α}{i:Nat}{x:α}{R:Nat->α->Prop}(h:∀j<i,R j (f j))(k:R i x):∀j<i+1,R j (dN f i x j):=λj hj=>by
 by_cases e:j=i
 ·rw[e,dG];exact k
 ·rw[dh e];exact h j (by lia)
section
variable {P:Program}{w:World}{K:PySem.W.Frag}{mg:Str->Option Value}{base:Heap}{t:Adr}
def kB{α:Prop}{j:Nat}(h:j<0):α:=ZR h (Xw _)
def L9:Rx:=⟨0,0,0,0,0,0,.pl,.ld,[],false⟩
def xl{X:Nat->Rx}{n i:Nat}{r:Rx}:(λj=>d9 X (n+i) r (n+j))=d9 (λj=>X (n+j)) i r:=by
 funext j
 by_cases e:j=i
 ·rw[e,gW,gW]
 ·rw[fQ e,fQ (by lia)]
structure Vu (H H':Hp) (n:Nat) (td:Nat->Addr) (q:Addr):Prop where
 sm:af H H'
 h:∀j<n,H' (td j)=some (.lst [])
 f:∀j<n,H (td j)=none
 nd:∀i<n,∀j<n,i≠j->td i≠td j
 hq:H' q=some (.lst ((List.range n).map λj=>V.ref (td j)))
 fq:H q=none
 nq:∀j<n,q≠td j
def Gq{a:Addr}{n:Nat}{o:Nat->Addr}{cs:St}{r:TT}{s:TE}{H:Hp}{Q:VK}(m:H a=some (.lst ((List.range n).map λj=>V.ref (o j))))(D:n<=3)(B:∀σ b (N:Bool->Hp->Prop),N true b->r σ b N)(v:∀σ b (N:VK),(∀p k,bc b p (.lst []) k->N (.ref p) k)->s σ b N)
 (hd:∀c q b,Vu H b n c q->Q (.ref q) b):iG (il K a) H (List.replicate 1 none++cs) (cO 0) r s Q:=by
 refine j5 (K:=K) (a:=a) (xs:=(List.range n).map λj=>V.ref (o j)) (λi ys b=>af H b/\∃c:Nat->Addr,ys=(List.range i).map (λj=>V.ref (c j))/\(∀j<i,b (c j)=some (.lst [])/\H (c j)=none)/\∀l<i,∀j<i,l≠j->c l≠c j) ⟨af.refl _,(λ_=>0),rfl,(λj hj=>kB hj),(λj hj=>kB hj)⟩ (λi ys b C z=>⟨.of (z.1 _ _ m),?_⟩) (bM (by rw[bZ];lia)) (λi x ys b N y z hN=>?_) λys b q k z g=>?_
 ·obtain⟨_,c,rfl,_⟩:=z;rw[bZ];exact WB _
 ·obtain⟨f,c,rfl,hd,nd⟩:=z;refine B _ _ _ ?_;rw[ZQ rfl];refine v _ _ _ λp u e=>hN _ _ ⟨f.trans e.sm,dN c i p,wX,IC (R:=λj x=>u x=some (.lst [])/\H x=none) (λj hj=>⟨e.sm _ _ (hd j hj).1,(hd j hj).2⟩) ⟨e.at_,f.free e.nw⟩,λl m j hj ne=>?_⟩;by_cases el:l=i
  ·have h:j≠i:=λz=>ne (el.trans z.symm);rw[el,dG,dh h];exact (aB (hd j (by lia)).1 e.nw).symm
  ·rw[dh el];by_cases h:j=i
   ·rw[h,dG];exact aB (hd l (by lia)).1 e.nw
   ·rw[dh h];exact nd l (by lia) j (by lia) ne
 ·obtain⟨f,c,rfl,d,nd⟩:=z;rw[bZ]at d nd g;exact hd c q k ⟨f.trans g.sm,λj hj=>g.sm _ _ (d j hj).1,λj hj=>(d j hj).2,nd,g.at_,f.free g.nw,λj hj=>iz g.nw (d j hj).1⟩
def bd.put{m H k:Hp}{N i:Nat}{X:Nat->Rx}{b' l:Addr}{ws:e7}{e:Bool}{o:List V}(ys:List V)(h:bd t m H N X)(p:i<N)(s:mG t (wo H (b7 (X i))) k (fG (X i) b' ws e))(q:H l=some (.lst o))(r:bJ N X l)(cl:m l=none) :
 bd t m (upd k l (.lst ys)) N (d9 X i (fG (X i) b' ws e))/\bJ N (d9 X i (fG (X i) b' ws e)) l/\k l=some (.lst o)/\∀c v,c≠l->H c=some v->bJ N X c->upd k l (.lst ys) c=some v/\bJ N (d9 X i (fG (X i) b' ws e)) c:=by
 obtain⟨x,k2⟩:=h.call p s;obtain⟨j,g⟩:=k2 l _ q r;refine⟨x.kp (c:=l) (λd u n e=>by rw[ap n];exact e) g cl (λu z=>by rw[j]at z;cases z),g,j,λc v n e f=>?_⟩;obtain⟨a,b⟩:=k2 c v e f;exact⟨by rw[ap n];exact a,b⟩
noncomputable def sT(r:Rx)(ws:e7)(e:Bool):List (Option Int):=bS r.W (bi r.W (i0 e r.D ws))
structure dr (t:Adr) (Hc H:Hp) (N m:Nat) (X:Nat->Rx) (tl:Nat->Addr) (ws:Nat->e7) (e:Nat->Bool) (X':Nat->Rx):Prop where
 f:bd t Hc H N X'
 x:∀j<N,X' j=fG (X j) (X' j).b (ws j) (e j)
 h:∀j<m,H (tl j)=some (.lst ((sT (X j) (ws j) (e j)).map vO))
 r:∀j<m,bJ N X' (tl j)
section
variable {Hc H H2:Hp}{N m i:Nat}{X X':Nat->Rx}{tl:Nat->Addr}{ws ws':Nat->e7}{e e':Nat->Bool}
def dr.grow(d:dr t Hc H N m X tl ws e X')(s:af H H2):dr t Hc H2 N m X tl ws e X':=⟨d.f.grow s,d.x,λj hj=>s _ _ (d.h j hj),d.r⟩
def dr.congr(d:dr t Hc H N m X tl ws e X')(a:m<=N)(h:∀j<N,ws j=ws' j/\e j=e' j):dr t Hc H N m X tl ws' e' X':=⟨d.f,λj hj=>by rw[<- (h j hj).1,<- (h j hj).2];exact d.x j hj,λj hj=>by rw[<- (h j (by lia)).1,<- (h j (by lia)).2];exact d.h j hj,d.r⟩
def dr.at_(d:dr t Hc H N m X tl ws e X')(a:i<N){W:Wy}(hW:(X i).W=W):br t W (wo H (b7 (X' i))) H (X i).x (X i).dx (X i).o (X' i).b (X i).mt (X i).y (X i).D (ws i) (e i):=by
 have R:=(d.f.u i a).side;rw[<- hW];have x:=d.x i a;have q:(X' i).W=(X i).W:=by rw[x]
 have n:(X' i).x=(X i).x:=by rw[x]
 have l:(X' i).dx=(X i).dx:=by rw[x]
 have c:(X' i).o=(X i).o:=by rw[x]
 have r:(X' i).mt=(X i).mt:=by rw[x]
 have k:(X' i).y=(X i).y:=by rw[x]
 have g:(X' i).D=(X i).D:=by rw[x]
 have p:(X' i).ws=ws i:=by rw[x]
 have h:(X' i).e=e i:=by rw[x]
 have j:b7 (X' i)=[(X' i).x,(X' i).b,(X' i).mt]:=rfl;rw[j];rw[<- q,<- n,<- l,<- c,<- r,<- k,<- g,<- p,<- h];exact R
def dr.step{n:List (Option Int)}{b':Addr}{g:e7}{k:Bool}{W:Wy}(d:dr t Hc H N m X tl ws e X')(l:i<m)(O:m<=N)(nd:∀i<m,∀j<m,i≠j->tl i≠tl j)(cl:Hc (tl i)=none)(hW:(X i).W=W)(R2:br t W (wo H (b7 (X' i))) H2 (X i).x (X i).dx (X i).o b' (X i).mt (X i).y (X i).D g k)(es:sT (X i) g k=sT (X i) (ws i) (e i)++n) :
 H2 (tl i)=some (.lst ((sT (X i) (ws i) (e i)).map vO))/\(∀c v,(∀j<m,c≠tl j)->H c=some v->bJ N X' c->H2 c=some v/\upd H2 (tl i) (.lst ((sT (X i) (ws i) (e i)).map vO++n.map vO)) c=some v/\bJ N (d9 X' i (fG (X' i) b' g k)) c)/\dr t Hc (upd H2 (tl i) (.lst ((sT (X i) (ws i) (e i)).map vO++n.map vO))) N m X tl (dN ws i g) (dN e i k) (d9 X' i (fG (X' i) b' g k)):=by
 have hN:i<N:=by lia
 have x:=d.x i hN;have C:mG t (wo H (b7 (X' i))) H2 (fG (X' i) b' g k):=by
  rw[<- hW]at R2;have J:(X' i).W=(X i).W:=by rw[x]
  have I:(X' i).x=(X i).x:=by rw[x]
  have G:(X' i).dx=(X i).dx:=by rw[x]
  have u:(X' i).o=(X i).o:=by rw[x]
  have M:(X' i).mt=(X i).mt:=by rw[x]
  have F:(X' i).y=(X i).y:=by rw[x]
  have z:(X' i).D=(X i).D:=by rw[x]
  show br t (X' i).W (wo H (b7 (X' i))) H2 (X' i).x (X' i).dx (X' i).o b' (X' i).mt (X' i).y (X' i).D g k;rw[J,I,G,u,M,F,z];exact R2
 obtain⟨L,s,q,k2⟩:=d.f.put ((sT (X i) (ws i) (e i)).map vO++n.map vO) hN C (d.h i l) (d.r i l) cl;refine⟨q,λc v p B fc=>?_,L,λj hj=>?_,λj hj=>?_,λj hj=>?_⟩
 ·obtain⟨a,b⟩:=k2 c v (p i l) B fc;refine⟨?_,a,b⟩;rw[ap (p i l)]at a;exact a
 ·by_cases ej:j=i
  ·rw[ej,gW,dG,dG,x]
  ·rw[fQ ej,dh ej,dh ej];exact d.x j hj
 ·by_cases ej:j=i
  ·rw[ej,aF,dG,dG,es,WI]
  ·rw[dh ej,dh ej];exact (k2 _ _ (nd j hj i l ej) (d.h j hj) (d.r j hj)).1
 ·by_cases ej:j=i
  ·rw[ej];exact s
  ·exact (k2 _ _ (nd j hj i l ej) (d.h j hj) (d.r j hj)).2
def dr.gfed{s n:Nat}{g:e7}{c:Nat->Rx}(d:dr t Hc H N m X tl ws e X')(hs:m<=s)(f:bd t Hc H2 N c)(i:BE N s n g X' c)(k:jb H H2 N X' c):dr t Hc H2 N m X tl (λj=>if s<=j/\j<s+n then g else ws j) e c:=by
 refine⟨f,λj hj=>?_,λj hj=>?_,λj hj=>(k _ _ (d.h j hj) (d.r j hj)).2⟩
 ·have a:=i j hj;have b:=d.x j hj;rw[a,b]
 ·rw[ZP (by lia)];exact (k _ _ (d.h j hj) (d.r j hj)).1
end
def DP{D:Kt}(ok:dM D)(W:Wy){ws:e7}(hb:aW ws):(out D W ws).length<=3*ws.length:=by
 obtain⟨_,_,c,_,d,f⟩:=rS ok ws 0 [] 0 (iQ D) (df.nil _ _) hb;have a:=tld_le W (rn D ws).2.2;have b:=(ux ok _ 0 (iQ D) (uG d)).2;have e:=congrArg List.length c;rw[WC,XS]at e;unfold out;lia
structure um (t:Adr) (Hc:Hp) (N m n:Nat) (X:Nat->Rx) (tl:Nat->Addr) (s:Nat) (W:Wy) (pR pL:Addr):Prop where
 mN:m<=N
 nm:s+n<=m
 nd:∀i<m,∀j<m,i≠j->tl i≠tl j
 cl:∀i<m,Hc (tl i)=none
 hR:Hc pR=some (.lst ((List.range n).map λj=>V.ref (X (s+j)).x))
 hL:Hc pL=some (.lst ((List.range n).map λj=>V.ref (tl (s+j))))
 hW:∀j<n,(X (s+j)).W=W
 ok:∀j<n,dM (X (s+j)).D
section
variable {Hc H:Hp}{N m n s k:Nat}{X X':Nat->Rx}{tl:Nat->Addr}{ws:Nat->e7}{e:Nat->Bool}{W:Wy}{pR pL px:Addr}{σ:St}{D:dZ}{jl jr:Nat}
def FZ{bs:e7}(G:um t Hc N m n X tl s W pR pL)(d:dr t Hc H N m X tl ws e X')(hl:σ[jl]? = some (some (.ref pL)))(hr:σ[jr]? = some (some (.ref pR)))(B:σ[13]? = some (some (.int (k:Int))))(O:σ[12]? = some (some (.ref px)))(l:k<n)(a:e (s+k)=false)(hx:Hc px=some (.lst (bs.map V.int)))(C:aW (ws (s+k)))(S:aW bs)(lw:(ws (s+k)).length+bs.length<=1000)
 (i:∀X2 z,dr t Hc z N m X tl (dN ws (s+k) (ws (s+k)++bs)) e X2->D.nx σ z) :
 lK (kt K "list" (pF K) (dR (mm K) (mV jl) (mV 13)) (je (fS (bR t W) "feed" (CH K t W) [] E0 (dR (mm K) (mV jr) (mV 13)) (je (jf (rX K) (je (mV 12) ff)) ff)) ff)) D σ H:=by
 have hW:=G.hW k l;have v:s+k<m:=by have:=G.nm;lia
 have lN:s+k<N:=by have:=G.mN;lia
 have sm:=d.f.sm;simp only [lK,kt,dR,je,fS,jf,ff];refine fJ hl ?_;refine fJ B ?_;refine aR _ (.ref (tl (s+k))) (.inl (.of (sm _ _ G.hL))) (aD (iM l)) ?_;refine⟨.inl ⟨rfl,_,.of (d.h _ v)⟩,?_⟩;refine fJ hr ?_;refine fJ B ?_;refine aR _ (.ref (X (s+k)).x) (.inl (.of (sm _ _ G.hR))) (aD (iM l)) ?_;have R:=d.at_ lN hW;rw[a]at R;obtain⟨g,r,c,L,p,_⟩:=id R.st;refine⟨(X (s+k)).x,(X (s+k)).dx,_,Z,p,iX _ W _ Z,?_⟩;refine fJ O ?_;refine ba (.inl (.of (sm _ _ hx))) (λq1 H1 u=>?_);have d1:=d.grow u.sm;have F:=d1.at_ lN hW;rw[a]at F;refine⟨_,(X (s+k)).x,(X (s+k)).dx,(X (s+k)).o,(X' (s+k)).b,(X (s+k)).mt,(X (s+k)).y,q1,(X (s+k)).D,ws (s+k),bs,Z,F,.of (jF (d.f.new u.nw _ lN) u.at_),C,S,lw,λq b' I z nq J R2 M hq U=>?_⟩;have es:sT (X (s+k)) (ws (s+k)++bs) false=sT (X (s+k)) (ws (s+k)) (e (s+k))++I:=by
  rw[a];show out (X (s+k)).D (X (s+k)).W _=out (X (s+k)).D (X (s+k)).W _++I;rw[hW];exact M
 obtain⟨Y,_,d2⟩:=d1.step v G.mN G.nd (G.cl _ v) hW R2 es;have ol:=DP (G.ok k l) (X (s+k)).W C;refine d7 Y hq (bM ?_) (i _ _ (d2.congr G.mN λj hj=>⟨rfl,?_⟩))
 ·rw[WA,WA,a];show (out (X (s+k)).D (X (s+k)).W (ws (s+k))).length+_<=_;lia
 ·by_cases ej:j=s+k
  ·rw[ej,dG,a]
  ·rw[dh ej]
def Ga(G:um t Hc N m n X tl s W pR pL)(d:dr t Hc H N m X tl ws e X')(O:σ[jl]? = some (some (.ref pL)))(U:σ[jr]? = some (some (.ref pR)))(z:σ[13]? = some (some (.int (k:Int))))(i:k<n)(p:e (s+k)=false)(B:aW (ws (s+k)))(V:(ws (s+k)).length<=1000)
 (a:∀X2 v,dr t Hc v N m X tl ws (dN e (s+k) true) X2->D.nx σ v) :
 lK (kt K "list" (pF K) (dR (mm K) (mV jl) (mV 13)) (je (fS (bR t W) "end" (CI t W) [] E0 (dR (mm K) (mV jr) (mV 13)) ff) ff)) D σ H:=by
 have hW:=G.hW k i;have u:s+k<m:=by have:=G.nm;lia
 have lN:s+k<N:=by have:=G.mN;lia
 have sm:=d.f.sm;simp only [lK,kt,dR,je,fS,jf,ff];refine fJ O ?_;refine fJ z ?_;refine aR _ (.ref (tl (s+k))) (.inl (.of (sm _ _ G.hL))) (aD (iM i)) ?_;refine⟨.inl ⟨rfl,_,.of (d.h _ u)⟩,?_⟩;refine fJ U ?_;refine fJ z ?_;refine aR _ (.ref (X (s+k)).x) (.inl (.of (sm _ _ G.hR))) (aD (iM i)) ?_;have R:=d.at_ lN hW;rw[p]at R;obtain⟨g,r,c,L,l,_⟩:=id R.st;refine⟨(X (s+k)).x,(X (s+k)).dx,_,Z,l,iX _ W _ Z,?_⟩;refine jJ λzq S=>⟨_,(X (s+k)).x,(X (s+k)).dx,(X (s+k)).o,(X' (s+k)).b,(X (s+k)).mt,(X (s+k)).y,(X (s+k)).D,ws (s+k),Z,R,B,V,λq b' C v nq F R2 I hq J=>S _ _ ?_⟩;have es:sT (X (s+k)) (ws (s+k)) true=sT (X (s+k)) (ws (s+k)) (e (s+k))++C:=by
  rw[p];show bS (X (s+k)).W (bi (X (s+k)).W (aG (X (s+k)).D _))=out (X (s+k)).D (X (s+k)).W _++C;rw[hW];exact I
 obtain⟨M,_,d2⟩:=d.step u G.mN G.nd (G.cl _ u) hW R2 es;have Y:=DP (G.ok k i) (X (s+k)).W B;refine d7 M hq (bM ?_) (a _ _ (d2.congr G.mN λj hj=>⟨?_,Z⟩))
 ·rw[WA,WA,p];show (out (X (s+k)).D (X (s+k)).W (ws (s+k))).length+_<=_;lia
 ·by_cases ej:j=s+k
  ·rw[ej,dG]
  ·rw[dh ej]
def Oh{r:Rx}{ws:e7}{e:Bool}(c:r.ws=ws)(a:r.e=e):r=fG r r.b ws e:=by
 subst c a
 rfl
def LC(r:Rx):sT r [] false=[]:=by
 show bS r.W (bi r.W [])=[];cases r.W<;>rfl
def Vm(D:Kt)(ws:e7):lz D ws=(aU (aG D ws)).isEmpty:=by
 rw[jw,gl];by_cases c:kl D ws
 ·rw[GP c];obtain⟨a,b⟩:=c;have a:(!(aU (rn D ws).2.2).isEmpty)=false:=a;rw[b];cases e:aU (rn D ws).2.2 with
  | nil=>rfl
  | cons z zs=>rw[e]at a;cases a
 ·rw[Ai c];cases e:aU (rn D ws).2.2 with
  | cons z zs=>rfl
  | nil =>
   have b:(rn D ws).2.1≠[]:=λz=>c ⟨by show (!(aU (rn D ws).2.2).isEmpty)=false;rw[e];rfl,z⟩;unfold dC;rw[ZP b]
   rfl
end
def uK(K:PySem.W.Frag):Sp:=λvs H Q _=>∃a,vs=[.ref a]/\∃ns:e7,aE K H a (ns.map V.int)/\ns.length<=63/\∀H',Q (.bl true) H'
def Qh (T:Txt w K mg t):bj P w K mg base "law" 18 t.AR t.sj ["_law_script"] (uK K):=by
 have kS:=λ(T:Txt w K mg t)=>mf (P:=P) (base:=base) T .pl;have xN:=λ(T:Txt w K mg t)=>rP (P:=P) (base:=base) T .pl;have G:=λ(T:Txt w K mg t)=>mf (P:=P) (base:=base) T .se;have I:=λ(T:Txt w K mg t)=>rP (P:=P) (base:=base) T .se;have F:=λ(T:Txt w K mg t)=>o7 (P:=P) (base:=base) T .se;refine⟨T.FJ,T.BF.kp,T.Up,T.BF.okQ dP (λvs H Q E h=>by obtain⟨a,rfl,_⟩:=h;rfl) λ_ _ _ _ H vs Q E S h=>?_⟩;obtain⟨a,rfl,cs,ha,lc,k⟩:=h;have hu:=S.units;refine⟨_,(ai (aL (i:=1) dP.nd Z (.inr Z) (aS (PR (K:=K) T) S (ad (aa 0) ae)))
  (ai (aL (i:=2) dP.nd rfl (.inl rfl) (az (Wt K) (dw (Ww K) (aa 0) (ci ah) (ci (az (Wt K) ah (cG (aS (kQ (K:=K) T) S (ad (aa 0) (ad ah ae))))))) (aT (ad ah ae))))
  (ai (jN (i:=3) dP.nd rfl (.inl rfl) rfl (cq.of (fns:=(al iu).names) (N:=["_law_script", "_law_pool_here", "_law_numbers", "_law_plans", "_law_tongues", "_law_row", "_law_cell", "_law_plains", "_law_seeings", "_law_guesser", "_law_signs", "_law_seen", "_law_piece", "_law_k", "_law_tongue", "_law_texts", "_law_goers"]) (Nc:=["_law_number", "_law_pool_here"]) (nv:=1) (caps:=[1]) rfl rfl (by decide +kernel)) (cC (K:=K) rfl (dw (Ww K) (aa 2) gf (ci ah))) (λ_ _ _ _=>(aX (i:=0) (show List.Nodup (["_law_number", "_law_pool_here"]:List Str) by decide +kernel) rfl (Or.inl rfl) (Or.inr rfl))) (λ_ _ _ _=>fX) (λ_ _ _ _=>(aS (PU (K:=K) T) S (ad (aa 0) (ad (aa 1) ae)))))
  (ai (jN (i:=4) dP.nd rfl (.inl rfl) rfl (cq.of (fns:=(al iu).names) (N:=["_law_script", "_law_pool_here", "_law_numbers", "_law_plans", "_law_tongues", "_law_row", "_law_cell", "_law_plains", "_law_seeings", "_law_guesser", "_law_signs", "_law_seen", "_law_piece", "_law_k", "_law_tongue", "_law_texts", "_law_goers"]) (Nc:=["_law_plan_here"]) (nv:=1) (caps:=[]) rfl rfl (by decide +kernel)) (cC (K:=K) rfl (aa 3)) (λ_ _ _ _=>(aX (i:=0) (show List.Nodup (["_law_plan_here"]:List Str) by decide +kernel) rfl (Or.inl rfl) (Or.inr rfl))) (λ_ _ _ _=>fX) (λ_ _ _ _=>(aS (PY (K:=K) T) S (ad (aa 0) ae))))
  (ai (aL (i:=5) dP.nd rfl (.inr rfl) (aT ae))
  (ai (cw PassesOwn.never rfl (cC (K:=K) rfl (dw (Ww K) (aa 0) (ci ah) (ci ah))) (aX (i:=6) dP.nd rfl (.inl rfl)) (aj (bE (ck (K:=K) rfl WS Xn Xo (Wz K) (aa 5) (ad (aS (P1 (K:=K) T) S (ad (aa 6) (ad (aa 3) (ad (aa 1) ae)))) ae)))))
  (ai (aI (aA (bG (K:=K) rfl hu) (cG (dA (aS (kQ (K:=K) T) S (ad (aa 0) (ad ah ae))))) ah (aH _)) (aj (aL (i:=5) dP.nd rfl (.inr rfl) (aS (P0 (K:=K) T) S (ad (aa 0) (ad ah (ad ah (ad ah ae))))))) aK)
  (ai (jN (i:=7) dP.nd rfl (.inl rfl) rfl (cq.of (fns:=(al iu).names) (N:=["_law_script", "_law_pool_here", "_law_numbers", "_law_plans", "_law_tongues", "_law_row", "_law_cell", "_law_plains", "_law_seeings", "_law_guesser", "_law_signs", "_law_seen", "_law_piece", "_law_k", "_law_tongue", "_law_texts", "_law_goers"]) (Nc:=["_law_tongue"]) (nv:=1) (caps:=[]) rfl rfl (by decide +kernel)) (cC (K:=K) rfl (aa 4)) (λ_ _ _ _=>(aX (i:=0) (show List.Nodup (["_law_tongue"]:List Str) by decide +kernel) rfl (Or.inl rfl) (Or.inr rfl))) (λ_ _ _ _=>fX) (λ_ _ _ _=>(hJ (rO (K:=K) T) S (ad (aa 0) ae))))
  (ai (jN (i:=8) dP.nd rfl (.inl rfl) rfl (cq.of (fns:=(al iu).names) (N:=["_law_script", "_law_pool_here", "_law_numbers", "_law_plans", "_law_tongues", "_law_row", "_law_cell", "_law_plains", "_law_seeings", "_law_guesser", "_law_signs", "_law_seen", "_law_piece", "_law_k", "_law_tongue", "_law_texts", "_law_goers"]) (Nc:=["_law_tongue"]) (nv:=1) (caps:=[]) rfl rfl (by decide +kernel)) (cC (K:=K) rfl (aa 4)) (λ_ _ _ _=>(aX (i:=0) (show List.Nodup (["_law_tongue"]:List Str) by decide +kernel) rfl (Or.inl rfl) (Or.inr rfl))) (λ_ _ _ _=>fX) (λ_ _ _ _=>(hJ (EV (K:=K) T) S (ad (aa 0) (ad (Dw T.Ou T.QX) ae)))))
  (ai (aL (i:=9) dP.nd rfl (.inl rfl) (hJ (Py (K:=K) T) S (ad (aa 4) ae)))
  (ai (jN (i:=10) dP.nd rfl (.inl rfl) rfl (cq.of (fns:=(al iu).names) (N:=["_law_script", "_law_pool_here", "_law_numbers", "_law_plans", "_law_tongues", "_law_row", "_law_cell", "_law_plains", "_law_seeings", "_law_guesser", "_law_signs", "_law_seen", "_law_piece", "_law_k", "_law_tongue", "_law_texts", "_law_goers"]) (Nc:=["_law_tongue"]) (nv:=1) (caps:=[]) rfl rfl (by decide +kernel)) (cC (K:=K) rfl (aa 4)) (λ_ _ _ _=>(aX (i:=0) (show List.Nodup (["_law_tongue"]:List Str) by decide +kernel) rfl (Or.inl rfl) (Or.inr rfl))) (λ_ _ _ _=>fX) (λ_ _ _ _=>(aT ae)))
  (ai (jN (i:=11) dP.nd rfl (.inl rfl) rfl (cq.of (fns:=(al iu).names) (N:=["_law_script", "_law_pool_here", "_law_numbers", "_law_plans", "_law_tongues", "_law_row", "_law_cell", "_law_plains", "_law_seeings", "_law_guesser", "_law_signs", "_law_seen", "_law_piece", "_law_k", "_law_tongue", "_law_texts", "_law_goers"]) (Nc:=["_law_tongue"]) (nv:=1) (caps:=[]) rfl rfl (by decide +kernel)) (cC (K:=K) rfl (aa 4)) (λ_ _ _ _=>(aX (i:=0) (show List.Nodup (["_law_tongue"]:List Str) by decide +kernel) rfl (Or.inl rfl) (Or.inr rfl))) (λ_ _ _ _=>fX) (λ_ _ _ _=>(aT ae)))
  (ai (cw PassesOwn.never rfl (cC (K:=K) rfl (aS (PV (K:=K) T) S (ad (aa 5) (ad (dw (Ww K) (aa 0) (ci ah) (ci ah)) ae)))) (aX (i:=12) dP.nd rfl (.inl rfl)) (ai (bE (cN (QK (K:=K) T) S (aa 9) (ad (dI (Wx K) T.n_list Xa (ad (aa 12) ae)) ae)))
  (aj (cw PassesOwn.never rfl (m5 rfl T.n_range (ad (bz (Wu K) T.n_len WN (ad (aa 4) ae)) ae)) (aX (i:=13) dP.nd rfl (.inl rfl)) (ai (bE (ck (K:=K) rfl WS Xn Xo (Wz K) (au (Wv K) (aa 10) (aa 13) (λ_ _=>rfl)) (ad (cN (kS T) S (au (Wv K) (aa 7) (aa 13) (λ_ _=>rfl)) (ad (dI (Wx K) T.n_list Xa (ad (aa 12) ae)) ae)) ae)))
  (aj (bE (ck (K:=K) rfl WS Xn Xo (Wz K) (au (Wv K) (aa 11) (aa 13) (λ_ _=>rfl)) (ad (cN (G T) S (au (Wv K) (aa 8) (aa 13) (λ_ _=>rfl)) (ad (dI (Wx K) T.n_list Xa (ad (aa 12) ae)) ae)) ae)))))))))
  (ai (cw PassesOwn.never rfl (gZ (K:=K) rfl rfl T.n_enumerate (ad (aa 4) ae)) (gH (K:=K) rfl rfl (cD (aX (i:=13) dP.nd rfl (.inl rfl)) (cD (aX (i:=14) dP.nd rfl (.inl rfl)) gF))) (ai (bE (ck (K:=K) rfl WS Xn Xo (Wz K) (au (Wv K) (aa 10) (aa 13) (λ_ _=>rfl)) (ad (cF (xN T) S (au (Wv K) (aa 7) (aa 13) (λ_ _=>rfl))) ae)))
  (ai (bE (ck (K:=K) rfl WS Xn Xo (Wz K) (au (Wv K) (aa 11) (aa 13) (λ_ _=>rfl)) (ad (cF (I T) S (au (Wv K) (aa 8) (aa 13) (λ_ _=>rfl))) ae)))
  (aj (aI (fZ (eB (aS (PQ (K:=K) T) S (ad (aa 14) (ad (aa 5) (ad (au (Wv K) (aa 7) (aa 13) (λ_ _=>rfl)) (ad (au (Wv K) (aa 10) (aa 13) (λ_ _=>rfl)) (ad (au (Wv K) (aa 8) (aa 13) (λ_ _=>rfl)) (ad (au (Wv K) (aa 11) (aa 13) (λ_ _=>rfl)) ae))))))))) (aj (am ix)) aK)))))
  (ai (jN (i:=15) dP.nd rfl (.inl rfl) rfl (cq.of (fns:=(al iu).names) (N:=["_law_script", "_law_pool_here", "_law_numbers", "_law_plans", "_law_tongues", "_law_row", "_law_cell", "_law_plains", "_law_seeings", "_law_guesser", "_law_signs", "_law_seen", "_law_piece", "_law_k", "_law_tongue", "_law_texts", "_law_goers"]) (Nc:=["_law_k", "_law_reader"]) (nv:=2) (caps:=[]) rfl rfl (by decide +kernel)) (gZ (K:=K) rfl rfl T.n_enumerate (ad (aa 8) ae)) (λ_ _ _ _=>(gH (K:=K) rfl (n:=2) rfl (cD (aX (i:=0) (show List.Nodup (["_law_k", "_law_reader"]:List Str) by decide +kernel) rfl (Or.inl rfl) (Or.inr rfl)) (cD (aX (i:=1) (show List.Nodup (["_law_k", "_law_reader"]:List Str) by decide +kernel) rfl (Or.inl rfl) (Or.inr rfl)) gF)))) (λ_ _ _ _=>(lT (aA (bG (K:=K) rfl hu) (cF (F T) S (aa 1)) (aT ae) (aH _)))) (λ_ _ _ _=>(aa 0)))
  (ai (jN (i:=16) dP.nd rfl (.inl rfl) rfl (cq.of (fns:=(al iu).names) (N:=["_law_script", "_law_pool_here", "_law_numbers", "_law_plans", "_law_tongues", "_law_row", "_law_cell", "_law_plains", "_law_seeings", "_law_guesser", "_law_signs", "_law_seen", "_law_piece", "_law_k", "_law_tongue", "_law_texts", "_law_goers"]) (Nc:=["_law_k", "_law_tongue", "_law_row"]) (nv:=2) (caps:=[5]) rfl rfl (by decide +kernel)) (gZ (K:=K) rfl rfl T.n_enumerate (ad (aa 4) ae)) (λ_ _ _ _=>(gH (K:=K) rfl (n:=2) rfl (cD (aX (i:=0) (show List.Nodup (["_law_k", "_law_tongue", "_law_row"]:List Str) by decide +kernel) rfl (Or.inl rfl) (Or.inr rfl)) (cD (aX (i:=1) (show List.Nodup (["_law_k", "_law_tongue", "_law_row"]:List Str) by decide +kernel) rfl (Or.inl rfl) (Or.inr rfl)) gF)))) (λ_ _ _ _=>(lT (aA pq (aS (P9 (K:=K) T) S (ad (aa 1) (ad (dI (Wx K) T.n_list Xa (ad (aa 2) ae)) ae))) bY (aH _)))) (λ_ _ _ _=>(aa 0)))
  (aj (am (ky (kx (bG (K:=K) rfl hu) (cF (QL (K:=K) T) S (aa 9)) (aa 15) (aH _)) (jO (kx (bG (K:=K) rfl hu) (cF (QJ (K:=K) T) S (aa 9)) (aa 16) (aH _)))))))))))))))))))))),?_⟩
 refine bN λT' eT=>?_;refine aR a cs Z ha (λpp ns H1 s1 h1 pg ne=>?_);refine b8 ?_;subst eT
 try dsimp only
 refine bN λT' eT=>?_;refine ba Z ?_;refine⟨a,cs,13,Z,s1.seq ha,λH2 s2=>?_⟩;have cJ:=s1.trans s2;refine⟨_,Z,_,cJ.seq ha,λp3 H3 g3=>?_⟩;obtain⟨z,hz⟩:∃z:Nat,10+cs.getD 13 0%3=9+(z:Int):=⟨(1+cs.getD 13 0%3).toNat,by lia⟩;have e3:cY (cs.map V.int) (some 9) (some (10+cs.getD 13 0%3))=((cs.drop 9).take z).map V.int:=by rw[hz];exact zz cs 9 z
 rw[e3]at g3;refine⟨sz Z,λp4 H4 g4=>?_⟩;refine d7 (.of (g4.sm _ _ g3.at_)) g4.lst (bM (by rw[WA,WO,Xr];show _+1<=_;lia)) (λp5 H5 g5=>?_);refine b8 ?_;subst eT
 try dsimp only
 refine bN λT' eT=>?_;have dW:=cJ.trans (g3.sm.trans (g4.sm.trans g5.sm));refine⟨_,Z,_,g5.lst,λp6 H6 g6=>?_⟩;have e6:((cs.drop 9).take z).map V.int++[V.int 0]=((cs.drop 9).take z++[0]).map V.int:=by simp
 rw[e6]at g6
 replace g6:bc H5 p6 (.lst ((((cs.drop 9).take z++[0]).take 3).map V.int)) H6:=by rw[<- zy];exact g6
 obtain⟨nu,b5⟩:∃nu,nu=((cs.drop 9).take z++[0]).take 3:=⟨_,rfl⟩;have n0:0<nu.length:=by rw[b5,WO,WC];show 0<min 3 (_+1);lia
 have n4:nu.length<=3:=by rw[b5,WO];lia
 rw[<- b5]at g6;clear b5 e6 e3 hz;have dq:=dW.trans g6.sm;have dS:=s2.trans (g3.sm.trans (g4.sm.trans (g5.sm.trans g6.sm)));have h6:=dS _ _ h1;refine cB p6 rfl ⟨_,g6.lst⟩ (j5 (K:=K) (a:=p6) (xs:=nu.map V.int) (λi ys B=>af H6 B/\∃(pl:Nat->Addr) (u:Nat->Kt),ys=(List.range i).map (λj=>V.ref (pl j))/\∀j<i,gR B (pl j) (u j)/\∀n∈ns,eU (u j) n) ⟨af.refl _,(λ_=>0),(λ_=>.ld),rfl,(λj hj=>kB hj)⟩ (λi ys B hi z=>⟨.of (z.1 _ _ g6.at_),?_⟩) (bM (by rw[WA];lia)) (λi x ys B N hx z hN=>?_) λys B p7 H7 z g7=>?_)
 ·obtain⟨_,pl,u,rfl,_⟩:=z;rw[bZ];exact WB _
 ·obtain⟨s',pl,u,rfl,hp⟩:=z;obtain⟨c,hc,rfl⟩:=fK hx;refine bI c pp ns Z (s' _ _ h6) pg (λp D H4 s4 dp hI=>?_);refine hN _ _ ⟨s'.trans s4,dN pl i p,dN u i D,wX,λj hj=>?_⟩;by_cases e:j=i
  ·rw[e,dG,dG];exact⟨dp,hI⟩
  ·rw[dh e,dh e];exact⟨(hp j (by lia)).1.mono s4,(hp j (by lia)).2⟩
 obtain⟨dE,pl,D0,rfl,hp⟩:=z;rw[WA]at hp g7;have ch:=dE.trans g7.sm;refine b8 ?_;subst eT
 try dsimp only
 refine bN λT' eT=>?_;refine cB p7 rfl ⟨_,g7.lst⟩ (j5 (K:=K) (a:=p7) (xs:=(List.range nu.length).map λj=>V.ref (pl j)) (λi ys B=>af H7 B/\∃(o:Nat->Addr) (u:Nat->Kt),ys=(List.range i).map (λj=>V.ref (o j))/\∀j<i,TN t B (o j) (u j)/\gR B (pl j) (u j)/\∀n∈ns,eU (u j) n) ⟨af.refl _,(λ_=>0),(λ_=>.ld),rfl,(λj hj=>kB hj)⟩ (λi ys B hi z=>⟨.of (z.1 _ _ g7.at_),?_⟩) (bM (by rw[bZ];lia)) (λi x ys B N hx z hN=>?_) λys B p8 H8 z g8=>?_)
 ·obtain⟨_,o,u,rfl,_⟩:=z;rw[bZ];exact WB _
 ·obtain⟨s',o,u,rfl,ht⟩:=z;obtain⟨O,rfl⟩:=iL hx;refine⟨pl i,D0 i,Z,(hp i O).1.mono (g7.sm.trans s'),λq D H4 s4 tn ke kI=>?_⟩;refine hN _ _ ⟨s'.trans s4,dN o i q,dN u i D,wX,λj hj=>?_⟩;by_cases e:j=i
  ·rw[e,dG,dG];exact⟨tn,ke _ ((hp i O).1.mono (g7.sm.trans (s'.trans s4))),λn hn=>kI n ((hp i O).2 n hn)⟩
  ·rw[dh e,dh e];obtain⟨a1,a2,a3⟩:=ht j (by lia);exact⟨a1.mono s4,a2.mono s4,a3⟩
 obtain⟨cR,o,u,rfl,ht⟩:=z;rw[bZ]at ht g8;obtain⟨n,en⟩:∃n,n=nu.length:=⟨_,rfl⟩;rw[<- en]at n0 n4 ht g8 g7 hp;have bR:=ch.trans (cR.trans g8.sm);have h8:=bR _ _ h6;have aQ:=dq.trans bR;have cn:∀j<n,TN t H8 (o j) (u j):=λj hj=>(ht j hj).1.mono g8.sm;have cT:qp H8 n pl u ns:=λj hj=>⟨(ht j hj).2.1.mono g8.sm,(ht j hj).1.koS,(ht j hj).2.2⟩;have bp:=g8.sm _ _ (cR _ _ g7.at_);clear hp ht ch bR;refine b8 ?_;subst eT
 try dsimp only
 refine bN λT' eT=>?_;refine⟨sz Z,λp9 H9 g9=>?_⟩;refine b8 ?_;subst eT
 try dsimp only
 refine bN λT' eT=>?_;refine⟨_,Z,_,Z,_,(aQ.trans g9.sm).seq ha,λpA HA gA=>?_⟩;have eA:cY (cs.map V.int) (some 13) (some 76)=((cs.drop 13).take 63).map V.int:=zz cs 13 63;rw[eA]at gA;obtain⟨cl,bD⟩:∃cl,cl=(cs.drop 13).take 63:=⟨_,rfl⟩;have eI:cl.length<=63:=by rw[bD,WO];lia
 rw[<- bD]at gA;refine⟨pA,Z,⟨_,gA.lst⟩,kT (K:=K) (a:=pA) (xs:=cl.map V.int) (λi σ B=>af H8 B/\∃(bs:e7) (v6:Option V),B p9=some (.lst (bs.map V.int))/\aW bs/\bs.length<=6*i/\B pA=some (.lst (cl.map V.int))/\σ=[some (.ref a),some (.ref pp),some (.ref p5),some (.ref p7),some (.ref p8),some (.ref p9),v6,none,none,none,none,none,none,none,none,none,none])
  ⟨g9.sm.trans gA.sm,[],_,gA.sm _ _ g9.at_,(λ_ h=>nomatch h),WB _,gA.at_,rfl⟩ (λi σ B _ z=>by obtain⟨_,_,_,_,_,_,h,_⟩:=z;exact .of h) ?_ ?_⟩
 ·rintro i v σ HB NN eN hv ⟨sB,bs,v6,hB,bb,lb,hA,rfl⟩;obtain⟨c,hc,rfl⟩:=fK hv;have O:=(WF.mp hc).1;refine⟨.inl ⟨rfl,_,.of hB⟩,?_⟩;refine⟨c,p7,pp,n,pl,u,ns,Z,sB _ _ bp,sB _ _ h8,n0,ne,cT.mono sB,λq dZ HC sC hq dL eY=>?_⟩;refine d7 (sC _ _ hB) hq (bM (by rw[WA,WA];lia)) ?_;have nA:pA≠p9:=(aB g9.at_ gA.nw).symm;subst eN;refine⟨(sB.trans sC).put g9.nw,bs++dZ,_,by rw[aF,WI],bb.app dL,by rw[WC];lia,by rw[ap nA];exact sC _ _ hA,Z⟩
 rintro σ HB ⟨sB,bs,v6,hB,bb,lb,hA,rfl⟩;rw[WA]at lb;subst eT
 try dsimp only
 refine bN λT' eT=>?_;refine fV (t:=iq _ _ _) (λσ' B=>∃(pr:Addr) (row:e7),af H8 B/\B pr=some (.lst (row.map V.int))/\aW row/\row.length<=400/\σ'=[some (.ref a),some (.ref pp),some (.ref p5),some (.ref p7),some (.ref p8),some (.ref pr),v6,none,none,none,none,none,none,none,none,none,none]) (λnx hn=>?_) ?_
 ·refine⟨a,cs,0,Z,(aQ.trans sB).seq ha,λHC sC=>?_⟩;have bB:=sB.trans sC;refine ao (λe=>?_) (λe=>?_)
  ·refine bu a cs 13 256 60 rfl ((aQ.trans bB).seq ha) (by decide) (by decide) (by decide) (λpd ds HD sD hd ld dC=>?_);exact hn _ _ ⟨pd,ds,bB.trans sD,hd,λx hx=>by have:=dC x hx;lia,by lia,rfl⟩
  ·exact hn _ _ ⟨p9,bs,bB,sC _ _ hB,bb,by lia,rfl⟩
 clear hA hB bb lb sB g9 gA;rintro σ' HB ⟨pr,row,aV,cK,a0,cH,rfl⟩;subst eT
 try dsimp only
 refine bN λT' eT=>?_;have cU:=aQ.trans aV;have tnB:∀j<n,TN t HB (o j) (u j):=λj hj=>(cn j hj).mono aV;have ar:=aV _ _ g8.at_;clear cT bp cn h8 h6 h1 aV;refine cB p8 rfl ⟨_,.of ar⟩ (j5 (K:=K) (a:=p8) (xs:=(List.range n).map λj=>V.ref (o j)) (λi ys B=>af HB B/\∃X:Nat->Rx,bd t HB B i X/\i9 .pl o u [] false i X/\ys=(List.range i).map (λj=>V.ref (X j).x)) ⟨af.refl _,(λ_=>L9),bd.nil (af.refl _) _,(λj hj=>kB hj),rfl⟩ (λi ys B _ y=>⟨.of (y.1 _ _ ar),?_⟩) (bM (by rw[bZ];lia)) (λi v ys H1 N hv y hN=>?_) λys H1 pQ HC y gC=>?_)
 ·obtain⟨_,X,_,_,rfl⟩:=y;rw[bZ];exact WB _
 ·obtain⟨s1,X,f1,sh,rfl⟩:=y;obtain⟨O,rfl⟩:=iL hv;refine λx dx hx c5 eK=>?_;have sm:=fW (C:=t.cm) hx c5;refine⟨x,dx,o i,rfl,aF,λb mt H2 nb nm nbm k2 dn dV dt=>⟨rfl,?_⟩⟩;have s2:af H1 H2:=Kp.same sm k2 hx;have R:br t .pl H1 H2 x dx (o i) b mt x (u i) [] false:=lR ((tnB i O).mono s1) trivial s2 hx (sm.free nb) (sm.free nm) nbm dn dV dt;obtain⟨He,se,f2⟩:=f1.more (af.refl _) R (tnB i O) (.inl rfl);have a4:=uO (x:=x) (dx:=dx) (b:=b) (mt:=mt) (y:=x) sh;exact hN _ _ ⟨s1.trans s2,_,f2.pln se a4 (λj hj=>tnB j (by lia)),a4,wW (r:=⟨x,dx,o i,b,mt,x,.pl,u i,[],false⟩)⟩
 obtain⟨sBC,X0,fC,shC,rfl⟩:=y;rw[bZ]at fC shC gC;have fpQ:=fC.new gC.nw
 replace fC:=fC.grow gC.sm
 replace sBC:=sBC.trans gC.sm
 have hpQ:=gC.at_;refine b8 ?_;subst eT
 try dsimp only
 refine bN λT' eT=>?_;have cP:=sBC _ _ ar;refine cB p8 rfl ⟨_,.of cP⟩ (j5 (K:=K) (a:=p8) (xs:=(List.range n).map λj=>V.ref (o j)) (λi ys B=>af HC B/\∃(Hd:Hp) (X:Nat->Rx),af HB Hd/\bd t Hd B (n+i) X/\(∀j<n,X j=X0 j)/\i9 .se o u [] false i (λj=>X (n+j))/\(∀c v,HC c=some v->bJ i (λj=>X (n+j)) c)/\ys=(List.range i).map (λj=>V.ref (X (n+j)).x)) ⟨af.refl _,HB,X0,af.refl _,fC,(λ_ _=>rfl),(λj hj=>kB hj),(λc v _ j hj=>kB hj),rfl⟩ (λi ys B _ y=>⟨.of (y.1 _ _ cP),?_⟩) (bM (by rw[bZ];lia)) (λi v ys H1 N hv y hN=>?_) λys H1 pS HD y gD=>?_)
 ·obtain⟨_,Hd,X,_,_,_,_,_,rfl⟩:=y;rw[bZ];exact WB _
 ·obtain⟨s1,Hd,X,sd,f1,e0,sh,fr,rfl⟩:=y;obtain⟨O,rfl⟩:=iL hv;refine λy dy hy du eV=>?_;have sy:=fW (C:=t.i3) hy du;have hY:upd (upd H1 dy (.own y)) y (.ins t.i3 dy []) y=some (.ins t.i3 dy []):=aF;generalize upd (upd H1 dy (.own y)) y (.ins t.i3 dy [])=H2 at sy hY ⊢;refine λx dx hx c5 f7=>?_;have sm:=fW (C:=t.cQ) hx c5;refine⟨x,dx,o i,y,rfl,aF,λb mt H3 nb nm nbm k2 hX hB hM=>⟨rfl,?_⟩⟩;have s2:af H2 H3:=Kp.same sm k2 hx;have R:br t .se H2 H3 x dx (o i) b mt y (u i) [] false:=lR ((tnB i O).mono (sBC.trans (s1.trans sy))) ⟨dy,hY⟩ s2 hx (sm.free nb) (sm.free nm) nbm hX hB hM;obtain⟨He,se,f2⟩:=f1.more sy R ((tnB i O).mono sd) (.inr hy);refine hN _ _ ⟨s1.trans (sy.trans s2),He,d9 X (n+i) ⟨x,dx,o i,b,mt,y,.se,u i,[],false⟩,sd.trans se,f2,λj hj=>by rw[fQ (by lia)];exact e0 j hj,?_,?_,?_⟩
  ·rw[xl];exact uO sh
  ·rw[xl];exact FU (s1.trans sy) fr R.none3
  ·have:=wW (n:=i) (X:=λj=>X (n+j)) (r:=⟨x,dx,o i,b,mt,y,.se,u i,[],false⟩);rw[<- xl]at this;exact this
 obtain⟨sCD,Hd,X1,sBd,fD,b1,shD,frD,rfl⟩:=y;rw[bZ]at fD shD frD gD;have fpS:=fD.new gD.nw;have bh:∀c v,HC c=some v->bJ n X0 c->bJ (n+n) X1 c:=λc v e f j hj=>by
  by_cases l:j<n
  ·rw[b1 j l];exact f j l
  ·obtain⟨i,rfl⟩:∃i,j=n+i:=⟨j-n,by lia⟩;exact frD c v e i (by lia)
 replace fD:=fD.grow gD.sm
 replace sCD:=sCD.trans gD.sm
 have hpS:=gD.at_;have hpQD:=sCD _ _ hpQ;have fpQD:=bh _ _ hpQ fpQ;clear frD bh fpQ hpQ;refine b8 ?_;subst eT
 try dsimp only
 refine bN λT' eT=>?_;refine λzg dz hz bw dv=>?_;have sg:af HD (wo (upd (upd HD dz (.own zg)) zg (.ins t.fo dz [])) [zg]):=af.wo (fW hz bw) λc hc=>by rw[WK.mp hc];exact hz
 have sBD:=sBC.trans sCD;refine⟨zg,dz,p8,n,o,u,rfl,aF,sg _ _ (sBD _ _ ar),λj hj=>((tnB j hj).mono sBD).mono sg,n4,λpG Y HE fY shY hzE hpG fpG fzG npG=>⟨rfl,?_⟩⟩;obtain⟨d8,sHd,_⟩:=fD.rebase [] (λc hc=>nomatch hc);obtain⟨Hb,sb,fE,_⟩:=d8.join fY sg (λj hj=>by obtain⟨_,a,b,_⟩:=shY j hj;rw[a,b];exact (tnB j hj).mono (sBd.trans sHd)) (λj hj=>.inl (shY j hj).1);have sBb:=sBd.trans (sHd.trans sb);have sDE:=sg.trans fY.sm;obtain⟨X,eX⟩:∃X,X=mC (n+n) X1 Y:=⟨_,rfl⟩;have q1:∀j<n,(X j).x=(X0 j).x:=λj hj=>by rw[eX,j6 (by lia),b1 j hj]
 have q2:∀j<n,X (n+j)=X1 (n+j):=λj hj=>by rw[eX,j6 (by lia)]
 have q3:∀j<n,X (n+n+j)=Y j:=λj hj=>by rw[eX,mz]
 have b7:i9 .pl o u [] false n X:=λj hj=>by rw[eX,j6 (by lia),b1 j hj];exact shC j hj
 have a4:i9 .se o u [] false n (λj=>X (n+j)):=λj hj=>by dsimp only;rw[q2 j hj];exact shD j hj
 have bX:i9 .pl o u [] false n (λj=>X (n+n+j)):=λj hj=>by dsimp only;rw[q3 j hj];exact shY j hj
 have kE:∀ {c:Addr},bJ (n+n) X1 c->bJ n Y c->bJ (n+n+n) X c:=λ{c} f1 f2 j hj=>by
  rw[eX];by_cases l:j<n+n
  ·rw[j6 l];exact f1 j l
  ·obtain⟨i,rfl⟩:∃i,j=n+n+i:=⟨j-(n+n),by lia⟩;rw[mz];exact f2 i (by lia)
 have kD:∀ {c:Addr} {v:HO},HD c=some v->bJ n Y c:=λ{c v} e=>fY.out (sg _ _ e);have fzE:bJ (n+n+n) X zg:=kE (fD.new hz) fzG;have fpGE:bJ (n+n+n) X pG:=kE (fD.new ((fW hz bw).free npG)) fpG;have fpQE:bJ (n+n+n) X pQ:=kE fpQD (kD hpQD);have fpSE:bJ (n+n+n) X pS:=kE fpS (kD hpS);rw[<- eX]at fE;rw[show ((List.range n).map λj=>V.ref (Y j).x)=(List.range n).map λj=>V.ref (X (n+n+j)).x from Xx λj hj=>by rw[q3 j (WV.mp hj)]]at hpG;rw[show ((List.range n).map λj=>V.ref (X0 j).x)=(List.range n).map λj=>V.ref (X j).x from Xx λj hj=>by rw[q1 j (WV.mp hj)]]at hpQD;rw[show ((List.range n).map λj=>V.ref (X1 (n+j)).x)=(List.range n).map λj=>V.ref (X (n+j)).x from Xx λj hj=>by rw[q2 j (WV.mp hj)]]at hpS;have hpQE:=sDE _ _ hpQD;have hpSE:=sDE _ _ hpS;clear d8 sHd sb kE kD fpG fzG fpQD fpS hpQD hpS q1 q2 q3 eX shC shD shY fD fC b1 sg npG hz bw dv fY;refine b8 ?_;subst eT
 try dsimp only
 refine bN λT' eT=>?_;have sBE:=sBD.trans sDE;have b3:=sBE _ _ ar;refine cB p8 Z ⟨_,.of b3⟩ (Gq b3 n4 (λ_ _ _ h=>h) (λ_ _ _ h=>⟨sz Z,h⟩) λt1 pT HF l1=>?_);refine b8 ?_;subst eT
 try dsimp only
 refine bN λT' eT=>?_;have bV:=l1.sm _ _ b3;refine cB p8 Z ⟨_,.of bV⟩ (Gq bV n4 (λ_ _ _ h=>h) (λ_ _ _ h=>⟨sz Z,h⟩) λt2 pU HG l2=>?_);refine b8 ?_;subst eT
 try dsimp only
 refine bN λT' eT=>?_;have sEG:=l1.sm.trans l2.sm;have dQ:=cU.trans (sBE.trans sEG);refine⟨_,Z,_,Z,_,dQ.seq ha,λpc HJ gJ=>?_⟩;rw[eA,<- bD]at gJ;have hprJ:=gJ.sm _ _ (sEG _ _ (sBE _ _ cK));refine⟨pr,pc,row,cl,rfl,.of hprJ,gJ.lst,by lia,λpP L HP sP nP hP fr ndP fl ll=>?_⟩;have sGP:=gJ.sm.trans sP;have sEP:=sEG.trans sGP;obtain⟨J,cz⟩:∃J:Nat->Addr,J=λj=>if j<n then t1 j else t2 (j-n):=⟨_,rfl⟩
 have ko:∀j<n,J j=t1 j:=λj hj=>by rw[cz];exact ZQ hj
 have bS:∀j,J (n+j)=t2 j:=λj=>by rw[cz];dsimp only;rw[ZP (by lia),XT]
 have two:∀ {R:Nat->Addr->Prop},(∀j<n,R j (t1 j))->(∀j<n,R (n+j) (t2 j))->∀j<n+n,R j (J j):=λ{R} a b j hj=>by
  by_cases l:j<n
  ·rw[ko j l];exact a j l
  ·obtain⟨i,rfl⟩:∃i,j=n+i:=⟨j-n,by lia⟩;rw[bS];exact b i (by lia)
 have tE:∀j<n+n,HE (J j)=none:=two (R:=λ_ x=>HE x=none) l1.f λj hj=>l1.sm.free (l2.f j hj);have tG:∀j<n+n,HG (J j)=some (.lst []):=two (R:=λ_ x=>HG x=some (.lst [])) (λj hj=>l2.sm _ _ (l1.h j hj)) l2.h;have bO:∀i<n,∀j<n,t1 i≠t2 j:=λi hi j hj=>aB (l1.h i hi) (l2.f j hj);have nd:∀i<n+n,∀j<n+n,i≠j->J i≠J j:=λi hi=>by
  by_cases l:i<n
  ·rw[ko i l];exact two (R:=λj x=>i≠j->t1 i≠x) (λj hj ne=>l1.nd i l j hj ne) λj hj _=>bO i l j hj
  ·obtain⟨i,rfl⟩:∃l,i=n+l:=⟨i-n,by lia⟩;rw[bS];exact two (R:=λj x=>n+i≠j->t2 i≠x) (λj hj _=>(bO j hj i (by lia)).symm) λj hj ne=>l2.nd i (by lia) j hj λz=>ne (by rw[z])
 obtain⟨fR,sR,inR⟩:=(fE.grow sEP).rebase ((List.range (n+n)).map J) λc hc=>by
  obtain⟨j,hj,rfl⟩:=Xs.mp hc;exact fE.sm.free (tE j (WV.mp hj))
 have bA:∀i<n+n,wo HP (cells X (n+n+n)++(List.range (n+n)).map J) (J i)=none:=λi hi=>im (W6 _ (List.mem_map_of_mem (WV.mpr hi)));generalize wo HP (cells X (n+n+n)++(List.range (n+n)).map J)=Hc at fR sR inR bA
 replace inR:∀ {c:Addr} {v:HO},HP c=some v->bJ (n+n+n) X c->(∀j<n+n,c≠J j)->Hc c=some v:=λ{c v} e f ne=>inR c v e f λz=>by
  obtain⟨j,hj,z⟩:=Xs.mp z;exact ne j (WV.mp hj) z.symm
 have inE:∀ {c:Addr} {v:HO},HE c=some v->bJ (n+n+n) X c->Hc c=some v:=λ{c v} e f=>inR (sEP _ _ e) f λj hj=>aB e (tE j hj);have inJ:∀ {c:Addr} {v:HO},HJ c=none->HP c=some v->Hc c=some v:=λ{c v} e h=>inR h (fE.new (sEG.free (gJ.sm.free e))) λj hj=>iz e (gJ.sm _ _ (tG j hj));have sBc:=sBb.trans sR;have eJ:=cU.trans sBc;have an:=inE hzE fzE;have hcG:=inE hpG fpGE;have hcQ:=inE hpQE fpQE;have hcS:=inE hpSE fpSE;have ay:=sBc _ _ ar;have cx:=sBc _ _ cK;have hcT:Hc pT=some (.lst ((List.range n).map λj=>V.ref (J (0+j)))):=by
  rw[show ((List.range n).map λj=>V.ref (J (0+j)))=(List.range n).map λj=>V.ref (t1 j) from Xx λj hj=>by rw[XF,ko j (WV.mp hj)]];exact inR (sGP _ _ (l2.sm _ _ l1.hq)) (fE.new l1.fq) (two (R:=λ_ x=>pT≠x) l1.nq λj hj=>aB l1.hq (l2.f j hj))
 have hcU:Hc pU=some (.lst ((List.range n).map λj=>V.ref (J (n+j)))):=by
  rw[show ((List.range n).map λj=>V.ref (J (n+j)))=(List.range n).map λj=>V.ref (t2 j) from Xx λj hj=>by rw[bS]];exact inR (sGP _ _ l2.hq) (fE.new (l1.sm.free l2.fq)) (two (R:=λ_ x=>pU≠x) (λj hj=>iz l2.fq (l1.h j hj)) l2.nq)
 have hcP:kc Hc pP L:=⟨inJ nP hP.1,λx hx=>⟨(hP.2 x hx).1,inJ (fr x hx) (hP.2 x hx).2⟩⟩;have cp:∀j<n,TN t Hc (o j) (u j):=λj hj=>(tnB j hj).mono sBc;have G1:um t Hc (n+n+n) (n+n) n X J 0 .pl pQ pT:=⟨by lia,by lia,nd,bA,by rw[show (λj=>V.ref (X (0+j)).x)=λj=>V.ref (X j).x from funext λj=>by rw[XF]];exact hcQ,hcT,λj hj=>by rw[XF];exact (b7 j hj).1,λj hj=>by rw[XF,(b7 j hj).2.2.1];exact (tnB j hj).koS⟩;have G2:um t Hc (n+n+n) (n+n) n X J n .se pS pU:=⟨by lia,by lia,nd,bA,hcS,hcU,λj hj=>(a4 j hj).1,λj hj=>by rw[show (X (n+j)).D=u j from (a4 j hj).2.2.1];exact (tnB j hj).koS⟩;have ax:∀j<n+n+n,(X j).ws=[]/\(X j).e=false:=λj hj=>by
  by_cases l:j<n
  ·exact (b7 j l).2.2.2
  by_cases l':j<n+n
  ·obtain⟨i,rfl⟩:∃i,j=n+i:=⟨j-n,by lia⟩;exact (a4 i (by lia)).2.2.2
  ·obtain⟨i,rfl⟩:∃i,j=n+n+i:=⟨j-(n+n),by lia⟩;exact (bX i (by lia)).2.2.2
 have d0:dr t Hc HP (n+n+n) (n+n) X J (λ_=>[]) (λ_=>false) X:=⟨fR,λj hj=>Oh (ax j hj).1 (ax j hj).2,λj hj=>by rw[LC];exact sGP _ _ (tG j hj),λj hj=>fE.new (tE j hj)⟩;clear inR inE inJ hP fr ax fR sR sEP sGP tE tG bO l1 l2 hzE hpG hpQE hpSE b3 hprJ fE sBb fzE fpGE fpQE fpSE bV;refine⟨pP,Z,⟨_,.of (d0.f.sm _ _ hcP.1)⟩,kT (K:=K) (a:=pP) (xs:=L.map λx=>V.ref x.1) (λi σ B=>∃(X':Nat->Rx) (b9 U:Option V),dr t Hc B (n+n+n) (n+n) X J (λ_=>flt (L.take i)) (λ_=>false) X'/\σ=[some (.ref a),some (.ref pp),some (.ref p5),some (.ref p7),some (.ref p8),some (.ref pr),v6,some (.ref pQ),some (.ref pS),some (.ref zg),some (.ref pT),some (.ref pU),b9,U,none,none,none])
  ⟨X,_,_,d0,rfl⟩ (λi σ B _ z=>by obtain⟨X',_,_,d,_⟩:=z;exact .of (d.f.sm _ _ hcP.1)) ?_ ?_⟩
 ·rintro i v σ H1 NN eN hv ⟨X',b9,U,d,rfl⟩;rw[WJ]at hv;obtain⟨x,hx,rfl⟩:=Xq.mp hv;have bP:=(hcP.2 x (W8 hx)).2;obtain⟨w0,ew⟩:∃w0,w0=flt (L.take i):=⟨_,rfl⟩;have cr:flt (L.take (i+1))=w0++x.2:=by rw[dO hx,xZ,ew]
  have c0:row=(w0++x.2)++flt (L.drop (i+1)):=by
   rw[<- cr,<- fl];unfold flt;rw[<- ZF,<- WI,Xm]
  have b0:aW w0:=λy hy=>a0 y (by rw[c0];exact Xc _ (Xc _ hy));have bx:aW x.2:=λy hy=>a0 y (by rw[c0];exact Xc _ (W6 _ hy));have lw:w0.length+x.2.length<=400:=by
   have:=congrArg List.length c0;rw[WC,WC]at this;lia
  rw[<- ew]at d;refine b8 ?_;dsimp only;refine bN λT2 eT2=>?_;refine bI zg dz _ Z (d.f.sm _ _ an) Z ?_;refine ba (.inl (.of (d.f.sm _ _ bP))) (λq1 H2 g2=>?_);have d2:=d.grow g2.sm;have xx:∀j<n+n+n,(X' j).x=(X j).x/\(X' j).W=(X j).W/\(X' j).ws=w0/\(X' j).e=false:=λj hj=>by rw[d.x j hj];exact⟨rfl,rfl,rfl,rfl⟩
  refine⟨Hc,n+n+n,X',zg,dz,pG,q1,n+n,n,w0,x.2,rfl,d2.f,an,?_,g2.at_,d.f.new g2.nw,WB _,λj hj=>?_,b0,bx,by lia,λX2 H3 f3 fe kp=>?_⟩
  ·rw[hcG];refine congrArg (λl=>some (HO.lst l)) (Xx λj hj=>?_);rw[(xx (n+n+j) (by have:=WV.mp hj;lia)).1]
  ·obtain⟨_,a2,a3⟩:=xx (n+n+j) (by lia);exact⟨a2.trans (bX j hj).1,a3⟩
  have d3:=d2.gfed (WB _) f3 fe kp;subst eT2;dsimp only;refine ba (.inl (.of (d3.f.sm _ _ ay))) ?_;refine qB n (by rw[bZ]) (by lia) (by lia) ?_;refine Se (lo:=0) (n:=n) (λk σ B=>∃(X':Nat->Rx) (U:Option V),dr t Hc B (n+n+n) (n+n) X J (λj=>if j<k\/(n<=j/\(j<n+k\/n+n<=j)) then w0++x.2 else w0) (λ_=>false) X'/\σ=[some (.ref a),some (.ref pp),some (.ref p5),some (.ref p7),some (.ref p8),some (.ref pr),v6,some (.ref pQ),some (.ref pS),some (.ref zg),some (.ref pT),some (.ref pU),some (.ref x.1),U,none,none,none])
   ⟨X2,_,d3.congr (by lia) (λj hj=>⟨?_,rfl⟩),rfl⟩ ?_ ?_
  ·by_cases l:n+n<=j
   ·rw[ZQ (by lia),ZQ (by lia)]
   ·rw[ZP (by lia),ZP (by lia)]
  ·rintro k σ H4 NM eM lk ⟨X4,v4,d4,rfl⟩;refine b8 ?_;dsimp only;obtain⟨wf,aZ⟩:∃wf:Nat->e7,wf=λj=>if j<k\/(n<=j/\(j<n+k\/n+n<=j)) then w0++x.2 else w0:=⟨_,rfl⟩
   rw[<- aZ]at d4;have w1:wf (0+k)=w0:=by rw[aZ];exact ZP (by lia)
   have w2:dN wf (0+k) (wf (0+k)++x.2) (n+k)=w0:=by rw[dh (by lia),aZ];exact ZP (by lia)
   have ek:(some (some (V.int (0+(k:Int)))))=some (some (V.int (k:Int))):=by rw[Yl]
   refine FZ (s:=0) (bs:=x.2) G1 d4 rfl rfl ek rfl lk rfl bP (by rw[w1];exact b0) bx (by rw[w1];lia) λX5 H5 d5=>?_;dsimp only;refine FZ (s:=n) (bs:=x.2) G2 d5 rfl rfl ek rfl lk rfl bP (by rw[w2];exact b0) bx (by rw[w2];lia) λX6 H6 d6=>?_;subst eM;refine⟨X6,_,d6.congr (by lia) (λj hj=>⟨?_,rfl⟩),rfl⟩;rw[w2,w1];by_cases c1:j=n+k
   ·rw[c1,dG,ZQ (by lia)]
   rw[dh c1];by_cases c2:j=0+k
   ·rw[c2,dG,ZQ (by lia)]
   rw[dh c2,aZ];by_cases c3:j<k\/(n<=j/\(j<n+k\/n+n<=j))
   ·exact (ZQ c3).trans (ZQ (by lia)).symm
   ·exact (ZP c3).trans (ZP (by lia)).symm
  ·rintro σ H4 ⟨X4,v4,d4,rfl⟩;subst eN;dsimp only;rw[cr];exact⟨X4,_,_,d4.congr (by lia) (λj hj=>⟨by rw[ZQ (by lia)],rfl⟩),rfl⟩
 rintro σ H1 ⟨X',b9,U,d,rfl⟩;rw[WA,WY,fl]at d;subst eT
 try dsimp only
 refine bN λT' eT=>?_;refine⟨p8,_,Z,.of (d.f.sm _ _ ay),Sf (K:=K) (a:=p8) (xs:=(List.range n).map λj=>V.ref (o j)) (λi σ B=>∃(X':Nat->Rx) (U bU:Option V),dr t Hc B (n+n+n) (n+n) X J (λ_=>row) (λj=>decide (j<i\/(n<=j/\j<n+i))) X'/\σ=[some (.ref a),some (.ref pp),some (.ref p5),some (.ref p7),some (.ref p8),some (.ref pr),v6,some (.ref pQ),some (.ref pS),some (.ref zg),some (.ref pT),some (.ref pU),b9,U,bU,none,none])
  ⟨X',_,_,d.congr (by lia) (λj hj=>⟨rfl,(ZU (by lia)).symm⟩),rfl⟩ (λi σ B _ z=>by obtain⟨X',_,_,d,_⟩:=z;exact .of (d.f.sm _ _ ay)) ?_ ?_⟩
 ·rintro i v p σ H2 H3 NN eN hv ⟨X2,U,bU,d2,rfl⟩ g3;obtain⟨O,rfl⟩:=iL hv;refine⟨p,_,Z,g3.tup,Z,_,_,Z,_,_,Z,Z,?_⟩;have d3:=d2.grow g3.sm;obtain⟨ef,aP⟩:∃ef:Nat->Bool,ef=λj=>decide (j<i\/(n<=j/\j<n+i)):=⟨_,rfl⟩;rw[<- aP]at d3;have w1:ef (0+i)=false:=by rw[aP];exact ZU (by lia)
  have w2:dN ef (0+i) true (n+i)=false:=by rw[dh (by lia),aP];exact ZU (by lia)
  refine bN λT2 eT2=>?_;refine Ga (s:=0) G1 d3 rfl rfl rfl O w1 a0 (by lia) λX4 H4 d4=>?_;subst eT2
  try dsimp only
  refine bN λT2 eT2=>?_;refine Ga (s:=n) G2 d4 rfl rfl rfl O w2 a0 (by lia) λX5 H5 d5=>?_;subst eT2
  try dsimp only
  have D1:(X (0+i)).D=u i:=by rw[XF];exact (b7 i O).2.2.1
  have D2:(X (n+i)).D=u i:=(a4 i O).2.2.1;have W1:=G1.hW i O;have W2:=G2.hW i O;have u1:dN (dN ef (0+i) true) (n+i) true (0+i)=true:=by rw[dh (by lia),dG]
  have u2:dN (dN ef (0+i) true) (n+i) true (n+i)=true:=dG;have R1:=d5.at_ (i:=0+i) (by lia) W1;have R2:=d5.at_ (i:=n+i) (by lia) W2;have bW:=d5.h (0+i) (by lia);have bF:=d5.h (n+i) (by lia);rw[u1,D1]at R1;rw[u2,D2]at R2;rw[u1]at bW;rw[u2]at bF;have e1:sT (X (0+i)) row true=(fU (iD (aG (u i) row))).map some:=by
   unfold sT;rw[W1,D1];exact qI _
  have e2:sT (X (n+i)) row true=(bq .se (aG (u i) row)).map some:=by
   unfold sT;rw[W2,D2];exact uE _
  rw[e1,uA]at bW;rw[e2,uA]at bF;obtain⟨ga,ra,ca,La,xa,_,fa,la,_⟩:=R1.st;obtain⟨gb,rb,cb,Lb,xb,_,fb,lb,_⟩:=R2.st;have s5:=d5.f.sm;refine aR _ (.ref (X (0+i)).x) (.inl (.of (s5 _ _ G1.hR))) (aD (iM O)) ?_;refine aR _ (.ref (J (0+i))) (.inl (.of (s5 _ _ G1.hL))) (aD (iM O)) ?_;refine aR _ (.ref (X (n+i)).x) (.inl (.of (s5 _ _ G2.hR))) (aD (iM O)) ?_;refine aR _ (.ref (J (n+i))) (.inl (.of (s5 _ _ G2.hL))) (aD (iM O)) ?_;refine⟨o i,pr,(X (0+i)).x,J (0+i),(X (n+i)).x,J (n+i),u i,row,La,Lb,Z,(cp i O).mono s5,s5 _ _ cx,a0,cH,⟨_,_,_,_,_,_,_,_,xa,fa⟩,la.trans (xX _),bW,⟨_,_,_,_,_,_,_,_,xb,fb⟩,lb,bF,λH6 s6=>?_⟩;subst eN;refine⟨X5,_,_,(d5.grow s6).congr (by lia) (λj hj=>⟨rfl,?_⟩),rfl⟩;by_cases c1:j=n+i
  ·rw[c1,dG];exact (ZT (by lia)).symm
  rw[dh c1];by_cases c2:j=0+i
  ·rw[c2,dG];exact (ZT (by lia)).symm
  rw[dh c2,aP];by_cases c3:j<i\/(n<=j/\j<n+i)
  ·exact (ZT c3).trans (ZT (by lia)).symm
  ·exact (ZU c3).trans (ZU (by lia)).symm
 clear d;rintro σ H2 ⟨X2,U,bU,d,rfl⟩;rw[bZ]at d;subst eT
 try dsimp only
 refine bN λT' eT=>?_;have sm:=d.f.sm;refine aR pS _ rfl (.of (sm _ _ hcS)) (tm (xs:=(List.range n).map λj=>V.ref (X (n+j)).x) (λj=>(aU (aG (u j) row)).isEmpty) (λB s'=>.of (s' _ _ (sm _ _ hcS))) (by rw[bZ];lia) (λi v H3 M hv s3 hM=>?_) (λi v H3 M hM=>hM) λq3 H3 s3 cW=>?_)
 ·obtain⟨O,rfl⟩:=iL hv;have R:=(d.grow s3).at_ (i:=n+i) (by lia) (G2.hW i O);rw[show (X (n+i)).D=u i from (a4 i O).2.2.1,show decide (n+i<n\/n<=n+i/\n+i<n+n)=true from ZT (by lia)]at R;obtain⟨g,r,c,L4,hx,_,ft,eL,_⟩:=R.st;have eL:L4.map (λx=>x.2)=aU (aG (u i) row):=eL;refine⟨(X (n+i)).x,(X (n+i)).dx,_,Z,hx,Z,(X (n+i)).x,(X (n+i)).dx,_,_,_,_,_,_,_,L4,Z,hx,ft,λp4 H4 g4=>?_⟩;refine⟨sz Z,λp5 H5 g5=>?_⟩;have DD:=pZ (K:=K) (H:=H5) L4 λq hq=>(ft.mono (g4.sm.trans g5.sm)).2 q hq;rw[eL]at DD;refine⟨_,_,bf.lst (.of (g5.sm _ _ g4.at_)) DD,bf.lst g5.lst (cf.ints []),sZ (EE (u i) row),Xh [],?_⟩;have hM:=hM H5 (s3.trans (g4.sm.trans g5.sm));cases ef:aU (aG (u i) row) with
  | nil=>rw[ef]at hM;exact hM
  | cons z zs =>
   rw[ef]at hM;have e0:PyData.eqv (.list (dF (z::zs))) (.list (([]:e7).map PyData.int))=false:=by simp[dF,PyData.eqv,PyData.eqvAll]
   rw[e0];exact hM
 rw[bZ]at cW;refine b8 ?_;subst eT
 try dsimp only
 refine bN λT' eT=>?_;have d3:=d.grow s3;have bQ:=d3.f.sm;refine aR p8 _ rfl (.of (bQ _ _ ay)) (tm (xs:=(List.range n).map λj=>V.ref (o j)) (λj=>oX (u j) row) (λB s'=>.of (s' _ _ (bQ _ _ ay))) (by rw[bZ];lia) (λi v H4 M hv s4 hM=>?_) (λi v H4 M hM=>hM) λq4 H4 s4 cS=>?_)
 ·obtain⟨O,rfl⟩:=iL hv;have s5:=bQ.trans s4;refine ba (.inl (.of (s5 _ _ cx))) (λp5 H5 g5=>?_);refine⟨o i,p5,u i,row,rfl,(cp i O).mono (s5.trans g5.sm),g5.lst,a0,by lia,λm H6 s6=>?_,λm f q H6 s6 _ _=>?_⟩
  ·dsimp only [tC];refine EI ?_;have hM:=hM H6 (s4.trans (g5.sm.trans s6));rw[Ee m]at hM;exact hM
  ·dsimp only [tC];refine EH ?_;have hM:=hM H6 (s4.trans (g5.sm.trans s6));rw[Ed m]at hM;exact hM
 rw[bZ]at cS;refine b8 ?_;subst eT
 try dsimp only
 have d4:=d3.grow s4;have xx:∀j<n,(X2 (n+n+j)).W=.pl/\(X2 (n+n+j)).ws=row/\(X2 (n+n+j)).e=false/\(X2 (n+n+j)).D=u j:=λj hj=>by
  rw[d.x (n+n+j) (by lia)];obtain⟨a1,_,a2,_⟩:=bX j hj;exact⟨a1,rfl,ZU (by lia),a2⟩
 have hG2:Hc pG=some (.lst ((List.range n).map λj=>V.ref (X2 (n+n+j)).x)):=by
  rw[hcG];refine congrArg (λl=>some (HO.lst l)) (Xx λj hj=>?_);rw[d.x (n+n+j) (by have:=WV.mp hj;lia)]
 refine bI zg dz _ Z (d4.f.sm _ _ an) Z (jJ λzq zh=>⟨Hc,n+n+n,X2,zg,dz,pG,n+n,n,u,row,Z,d4.f,an,hG2,WB _,n4,xx,a0,λq5 H5 s5 cI=>zh _ _ ?_⟩);have e5:gk (λj=>lz (u j) row) n=gk (λj=>(aU (aG (u j) row)).isEmpty) n:=EO λj _=>Vm _ _;rw[e5]at cI;refine⟨_,_,bf.lst (.of cI) (cf.ints _),bf.lst (.of (s5 _ _ (s4 _ _ cW))) (cf.ints _),Xh _,Xh _,?_⟩;refine ao (λ_=>?_) (λe=>ZR (Gb _) e);refine bI zg dz _ Z (s5 _ _ (d4.f.sm _ _ an)) Z (jJ λzq zh=>⟨Hc,n+n+n,X2,zg,dz,pG,n+n,n,u,row,Z,d4.f.grow s5,an,hG2,WB _,n4,xx,a0,λq6 H6 s6 e4=>zh _ _ ?_⟩);refine⟨_,_,bf.lst (.of e4) (cf.ints _),bf.lst (.of (s6 _ _ (s5 _ _ cS))) (cf.ints _),Xh _,Xh _,?_⟩;exact cA (k H6) (Gb _).symm
end
end My
namespace My
open PySem L2
theorem OU{Pm:List Value->Prop}(h:Pm []):∀us:List Value,us.length=0->Pm us
 | [],_=>h
theorem Er{Pm:List Value->Prop}(h:∀a,Pm [a]):∀us:List Value,us.length=1->Pm us
 | a::us,e=>OU (Pm:=λus=>Pm (a::us)) (h a) us (Xi e)
theorem xy{Pm:List Value->Prop}(h:∀a b,Pm [a,b]):∀us:List Value,us.length=2->Pm us
 | a::us,e=>Er (Pm:=λus=>Pm (a::us)) (λb=>h a b) us (Xi e)
theorem xw{Pm:List Value->Prop}(h:∀a c b,Pm [a,c,b]):∀us:List Value,us.length=3->Pm us
 | a::us,e=>xy (Pm:=λus=>Pm (a::us)) (λc b=>h a c b) us (Xi e)
theorem Ep{Pm:List Value->Prop}(h:∀a d b c,Pm [a,d,b,c]):∀us:List Value,us.length=4->Pm us
 | a::us,e=>xw (Pm:=λus=>Pm (a::us)) (λd b c=>h a d b c) us (Xi e)
theorem OT{Pm:List Value->Prop}(h:∀a d b c f,Pm [a,d,b,c,f]):∀us:List Value,us.length=5->Pm us
 | a::us,e=>Ep (Pm:=λus=>Pm (a::us)) (λd b c f=>h a d b c f) us (Xi e)
theorem OS{Pm:List Value->Prop}(h:∀a d b c f g,Pm [a,d,b,c,f,g]):∀us:List Value,us.length=6->Pm us
 | a::us,e=>OT (Pm:=λus=>Pm (a::us)) (λd b c f g=>h a d b c f g) us (Xi e)
def bT{K:PySem.W.Frag}{x qual:Str}{st:Stmt}{f:Addr}{m:FuncData}{k:Str}(F:L2.Fun K x qual st f m)(h:∀(kV l o:Value) (n:Option Addr) (j ct:Value) (i:Value),bindArgs (PySem.W.fnOf x qual (eK st) (dD st) (al st) .none kV l o n j ct) ⟨[i],[]⟩=pure (([k]:List Str).zip [i])):aq K m [k] []:=F.binds (ps:=[k]) λa b c d e g=>Er (λi=>h a b c d e g i)
def cn{K:PySem.W.Frag}{x qual:Str}{st:Stmt}{f:Addr}{o:FuncData}{m k:Str}(F:L2.Fun K x qual st f o)(h:∀(kV n q:Value) (p:Option Addr) (l ct:Value) (j i:Value),bindArgs (PySem.W.fnOf x qual (eK st) (dD st) (al st) .none kV n q p l ct) ⟨[j,i],[]⟩=pure (([m,k]:List Str).zip [j,i])):aq K o [m,k] []:=F.binds (ps:=[m,k]) λa b c d e g=>xy (λj i=>h a b c d e g j i)
def pY{K:PySem.W.Frag}{x qual:Str}{st:Stmt}{f:Addr}{p:FuncData}{vs j:List Value}{ps:List Str}(F:L2.FunD K x qual st f p vs)(h:∀(d:Addr) (kV n s:Value) (r:Option Addr) (m ct:Value) (l k:Value),∃kk:Option (Array Value)->Sem (List (Str × Value)),bindArgs (PySem.W.fnOf x qual (eK st) (dD st) (al st) (.ref d) kV n s r m ct) ⟨[l,k],[]⟩=seqItems? (.ref d) >>= kk/\kk (some vs.toArray)=pure (ps.zip ([l,k]++j)))(q:ps.length=2+j.length:=by rfl):aq K p ps j:=F.binds λa b c d e g i us o=>xy (Pm:=λus=>∃kk:Option (Array Value)->Sem (List (Str × Value)),bindArgs (PySem.W.fnOf x qual (eK st) (dD st) (al st) (.ref a) b c d e g i) ⟨us,[]⟩=seqItems? (.ref a) >>= kk/\kk (some vs.toArray)=pure (ps.zip (us++j))) (λl k=>h a b c d e g i l k) us (by rw[WC,q]at o;exact ZM o)
def ig{K:PySem.W.Frag}{x qual:Str}{st:Stmt}{f:Addr}{q:FuncData}{n l p:Str}(F:L2.Fun K x qual st f q)(h:∀(kV o s:Value) (r:Option Addr) (m ct:Value) (k j i:Value),bindArgs (PySem.W.fnOf x qual (eK st) (dD st) (al st) .none kV o s r m ct) ⟨[k,j,i],[]⟩=pure (([n,l,p]:List Str).zip [k,j,i])):aq K q [n,l,p] []:=F.binds (ps:=[n,l,p]) λa b c d e g=>xw (λk j i=>h a b c d e g k j i)
def fO{K:PySem.W.Frag}{x qual:Str}{st:Stmt}{f:Addr}{q:FuncData}{vs k:List Value}{ps:List Str}(F:L2.FunD K x qual st f q vs)(h:∀(d:Addr) (kV o u:Value) (s:Option Addr) (n ct:Value) (m l j:Value),∃kk:Option (Array Value)->Sem (List (Str × Value)),bindArgs (PySem.W.fnOf x qual (eK st) (dD st) (al st) (.ref d) kV o u s n ct) ⟨[m,l,j],[]⟩=seqItems? (.ref d) >>= kk/\kk (some vs.toArray)=pure (ps.zip ([m,l,j]++k)))(r:ps.length=3+k.length:=by rfl):aq K q ps k:=F.binds λa b c d e g i us p=>xw (Pm:=λus=>∃kk:Option (Array Value)->Sem (List (Str × Value)),bindArgs (PySem.W.fnOf x qual (eK st) (dD st) (al st) (.ref a) b c d e g i) ⟨us,[]⟩=seqItems? (.ref a) >>= kk/\kk (some vs.toArray)=pure (ps.zip (us++k))) (λm l j=>h a b c d e g i m l j) us (by rw[WC,r]at p;exact ZM p)
def GH{K:PySem.W.Frag}{x qual:Str}{st:Stmt}{f:Addr}{s:FuncData}{p n r m:Str}(F:L2.Fun K x qual st f s)(h:∀(kV q v:Value) (u:Option Addr) (o ct:Value) (l k i j:Value),bindArgs (PySem.W.fnOf x qual (eK st) (dD st) (al st) .none kV q v u o ct) ⟨[l,k,i,j],[]⟩=pure (([p,n,r,m]:List Str).zip [l,k,i,j])):aq K s [p,n,r,m] []:=F.binds (ps:=[p,n,r,m]) λa b c d e g=>Ep (λl k i j=>h a b c d e g l k i j)
def TD{K:PySem.W.Frag}{x qual:Str}{st:Stmt}{f:Addr}{z:FuncData}{r p y o v s:Str}(F:L2.Fun K x qual st f z)(h:∀(kV u B:Value) (C:Option Addr) (q ct:Value) (l k i j m n:Value),bindArgs (PySem.W.fnOf x qual (eK st) (dD st) (al st) .none kV u B C q ct) ⟨[l,k,i,j,m,n],[]⟩=pure (([r,p,y,o,v,s]:List Str).zip [l,k,i,j,m,n])):aq K z [r,p,y,o,v,s] []:=F.binds (ps:=[r,p,y,o,v,s]) λa b c d e g=>OS (λl k i j m n=>h a b c d e g l k i j m n)
def txt_mk{w:World}{K:W.Frag}{h:Heap}{mg:Str->Option Value}(X:K.In h)(G:h.Ns mainGlobals mg)
 {a0 a1 a2 a3 a4 a5 a6 a7 a8 a9 vc xc Kc tc oc mc kc nc pc lc sc qd qc Zc Hc zc sd cd kd Jd Md md Fc fd od Cd Od Gd Rd Dd Dc Nd rd Gc Vc Ad gc cc Fd Sc Bd Mc yd ud td Ud Wc bd ld ed Td Hd Jc Ed Ac Vd gd Cc uc Id Pd Ld dd Xc Kd ad jd Tc Uc hd yc Bc Lc xd Rc Oc pd Yc Sd Ec Qc Wd Pc ga ia ha ea ka Ja aa ja fa da ba ca jc ib Xa ra ta xa Da ma qa Ca pa Ga za Wb Gb Ta Ra Ma Sa Qa Vb:Addr}{f0 f1 f2 f3 f4 f5 f6 f7 f8 f9 He We pe fe Te Mf ke Ee Yd yf Re Be Lf hf Ue ye Nf af Tf If ze De ff se Pe he oe de xe df Se ue ae jf zf xf Bf Df sf je be Gf Ye Rf Pf Le Ae Ve bf lf Jf cf pf ie Vf gf Ef Ze mf ee Hf me Sf uf Uf tf Oe ce te Qe Ke Ge Ff Zd Xd Je wf kf nf Xe Fe Ce qe:FuncData}{Ua Za mb lb kb eb qb db fb Wa Ya nb bb pb Va ob gb u0 u1 u3 u4 u5 u6 u7 u8 u9 Me ef Cf Af Ie Of Kf:Tok}{Qf hc:Array DictEntry}{Wf ec ic Eb vb tb Bb Jb Fb Lb sb Kb rb Nc Ic bc Qb Tb Ub Rb zd:Nat}{jb ab:Int}{cb hb Ha la Ia Fa na ya Ea Ba sa ua Pb Pa Oa La Ka Na Ob:Array Value}{fc dc Cb xb Mb ub Ib Hb zb yb Ab Db Qd Zb Yb Nb Sb Xb nd:Array (Option Value)}
 (mh:W.nsIn K mainGlobals "Faulty"=some (some (.ref ga)))
 (ph:W.nsIn K mainGlobals "TongueError"=some (some (.ref ia)))
 (zT:W.nsIn K mainGlobals "SeenSpeller"=some (some (.ref ha)))
 (zV:W.nsIn K mainGlobals "Reader"=some (some (.ref ea)))
 (zW:W.nsIn K mainGlobals "Put"=some (some (.ref ka)))
 (zU:W.nsIn K mainGlobals "See"=some (some (.ref Ja)))
 (Aa:W.nsIn K mainGlobals "GoingReader"=some (some (.ref aa)))
 (zZ:W.nsIn K mainGlobals "Guesser"=some (some (.ref ja)))
 (zY:W.nsIn K mainGlobals "LeadTongue"=some (some (.ref fa)))
 (zX:W.nsIn K mainGlobals "PairTongue"=some (some (.ref da)))
 (zS:W.nsIn K mainGlobals "ShiftTongue"=some (some (.ref ba)))
 (zR:W.nsIn K mainGlobals "TableTongue"=some (some (.ref ca)))
 (pW:W.findIn K (.ref ga) "__init__"=some (some (.ref a7)))
 (pV:W.isFn K (.ref a7)=true)
 (pO:W.keepIn K (.ref ga)=true)
 (pN:W.findIn K (.ref ga) "__setattr__"=some (some (.builtin "object.__setattr__")))
 (iB:W.findIn K (.ref ga) "kind"=some none)
 (fB:W.findIn K (.ref ga) "length"=some none)
 (gB:W.findIn K (.ref ga) "place"=some none)
 (OD:W.specialIn K (.ref ia) "__getattribute__"=some (some (.builtin "type.__getattribute__")))
 (TF:W.readsIn K ia (.type "type")=true)
 (rE:W.findCls K (.ref ia) (.type "type") "__init__"=some (.val (.builtin "ValueError.__init__")))
 (HJ:W.nsIn K mainGlobals "is_number"=some (some (.ref a0)))
 (FJ:W.nsIn K mainGlobals "is_byte"=some (some (.ref a1)))
 (PJ:W.nsIn K mainGlobals "is_head"=some (some (.ref a2)))
 (dK:W.nsIn K mainGlobals "is_tail"=some (some (.ref a3)))
 (MJ:W.nsIn K mainGlobals "is_seen_byte"=some (some (.ref a4)))
 (xJ:W.nsIn K mainGlobals "is_sign"=some (some (.ref a5)))
 (aK:W.nsIn K mainGlobals "is_row"=some (some (.ref a6)))
 (TJ:W.nsIn K mainGlobals "write_from"=some (some (.ref a8)))
 (BJ:W.nsIn K mainGlobals "write"=some (some (.ref a9)))
 (ZD:W.nsIn K mainGlobals "write_seen"=some (some (.ref Kc)))
 (xF:W.nsIn K mainGlobals "parts_of"=some (some (.ref kd)))
 (yD:W.nsIn K mainGlobals "check_room"=some (some (.ref fd)))
 (GF:W.nsIn K mainGlobals "parted"=some (some (.ref od)))
 (YD:W.nsIn K mainGlobals "together"=some (some (.ref Cd)))
 (yE:W.nsIn K mainGlobals "length_of"=some (some (.ref Od)))
 (cF:W.nsIn K mainGlobals "lead_row"=some (some (.ref Gd)))
 (uE:W.nsIn K mainGlobals "length_behind"=some (some (.ref Rd)))
 (jF:W.nsIn K mainGlobals "bounds_behind"=some (some (.ref Dd)))
 (WF:W.nsIn K mainGlobals "fits_behind"=some (some (.ref Dc)))
 (qF:W.nsIn K mainGlobals "missing"=some (some (.ref Nd)))
 (yF:W.nsIn K mainGlobals "carried"=some (some (.ref rd)))
 (HD:W.nsIn K mainGlobals "units_of"=some (some (.ref Fd)))
 (QF:W.nsIn K mainGlobals "sign_of"=some (some (.ref Sc)))
 (kE:W.nsIn K mainGlobals "read"=some (some (.ref ld)))
 (tD:W.nsIn K mainGlobals "rest_of"=some (some (.ref ed)))
 (tE:W.nsIn K mainGlobals "begins"=some (some (.ref Td)))
 (lE:W.nsIn K mainGlobals "places_in"=some (some (.ref Hd)))
 (eF:W.nsIn K mainGlobals "is_entry"=some (some (.ref uc)))
 (gF:W.nsIn K mainGlobals "collide"=some (some (.ref Id)))
 (XF:W.nsIn K mainGlobals "check_table"=some (some (.ref Pd)))
 (GD:W.nsIn K mainGlobals "_law_pick"=some (some (.ref jd)))
 (VF:W.nsIn K mainGlobals "_law_sign"=some (some (.ref Tc)))
 (dF:W.nsIn K mainGlobals "_law_pool"=some (some (.ref Uc)))
 (JD:W.nsIn K mainGlobals "_law_digits"=some (some (.ref hd)))
 (MF:W.nsIn K mainGlobals "_law_plan"=some (some (.ref yc)))
 (uF:W.nsIn K mainGlobals "_law_made"=some (some (.ref Bc)))
 (pF:W.nsIn K mainGlobals "_law_lead"=some (some (.ref Lc)))
 (aF:W.nsIn K mainGlobals "_law_units"=some (some (.ref xd)))
 (mF:W.nsIn K mainGlobals "_law_shifted"=some (some (.ref Rc)))
 (YF:W.nsIn K mainGlobals "_law_spelled"=some (some (.ref Oc)))
 (rF:W.nsIn K mainGlobals "_law_bytes"=some (some (.ref pd)))
 (lF:W.nsIn K mainGlobals "_law_pieces"=some (some (.ref Yc)))
 (JF:W.nsIn K mainGlobals "_law_read"=some (some (.ref Sd)))
 (nF:W.nsIn K mainGlobals "_law_of_parts"=some (some (.ref Ec)))
 (rD:W.nsIn K mainGlobals "_law_ahead"=some (some (.ref Qc)))
 (uD:W.nsIn K mainGlobals "_law_right"=some (some (.ref Wd)))
 (KD:W.nsIn K mainGlobals "law"=some (some (.ref Pc)))
 (k0:W.nsIn K mainGlobals "BITS"=some (some (.int 6 u0)))
 (k1:W.nsIn K mainGlobals "BYTE_BITS"=some (some (.int 8 u1)))
 (k2:W.nsIn K mainGlobals "FILLS"=some (some (.ref jc)))
 (k3:W.nsIn K mainGlobals "FIRST_BEHIND"=some (some (.int 128 u3)))
 (k4:W.nsIn K mainGlobals "FIRST_HEAD"=some (some (.int 55296 u4)))
 (k5:W.nsIn K mainGlobals "FIRST_SEEN"=some (some (.int 61184 u5)))
 (k6:W.nsIn K mainGlobals "FIRST_TAIL"=some (some (.int 56320 u6)))
 (k7:W.nsIn K mainGlobals "FIRST_WIDE"=some (some (.int 65536 u7)))
 (k8:W.nsIn K mainGlobals "HALF_BITS"=some (some (.int 10 u8)))
 (k9:W.nsIn K mainGlobals "LAST_BEHIND"=some (some (.int 191 u9)))
 (SJ:W.nsIn K mainGlobals "LAST_BYTE"=some (some (.int 255 Me)))
 (CJ:W.nsIn K mainGlobals "LAST_SEEN"=some (some (.int 61439 ef)))
 (VJ:W.nsIn K mainGlobals "LAST_SIGN"=some (some (.int 1114111 Cf)))
 (KJ:W.nsIn K mainGlobals "LAST_TAIL"=some (some (.int 57343 Af)))
 (yJ:W.nsIn K mainGlobals "LEADS"=some (some (.ref Wb)))
 (OJ:W.nsIn K mainGlobals "MOST_BYTES"=some (some (.int 6 Ie)))
 (QJ:W.nsIn K mainGlobals "MOST_SIGNS"=some (some (.int 250 Of)))
 (YJ:W.nsIn K mainGlobals "MOST_TUPLES"=some (some (.int 64 Kf)))
 (fK:W.nsIn K mainGlobals "SECONDS"=some (some (.ref Gb)))
 (ZJ:W.nsIn K mainGlobals "SHIFTS"=some (some (.ref Vb)))
 (z0:W.nsIn K mainGlobals "all"=some none)
 (z1:W.nsIn K mainGlobals "bool"=some none)
 (z2:W.nsIn K mainGlobals "enumerate"=some none)
 (z3:W.nsIn K mainGlobals "int"=some none)
 (z4:W.nsIn K mainGlobals "isinstance"=some none)
 (z5:W.nsIn K mainGlobals "len"=some none)
 (z6:W.nsIn K mainGlobals "list"=some none)
 (z7:W.nsIn K mainGlobals "range"=some none)
 (z8:W.nsIn K mainGlobals "reversed"=some none)
 (z9:W.nsIn K mainGlobals "str"=some none)
 (XJ:W.nsIn K mainGlobals "sum"=some none)
 (UJ:W.nsIn K mainGlobals "tuple"=some none)
 (jE:jz K ga)
 (zF:L2.Cls K ha)
 (oN:L2.Mk K ha vc)
 (nS:L2.Meth K ha "spell" xc)
 (zH:L2.Cls K ea)
 (oQ:L2.Mk K ea tc)
 (n6:L2.Meth K ea "faults" oc)
 (oa:L2.Meth K ea "ending" mc)
 (n5:L2.Meth K ea "feed" kc)
 (og:L2.Meth K ea "end" nc)
 (nV:L2.Meth K ea "take" pc)
 (lX:L2.Meth K ea "look_at_begun" lc)
 (nY:L2.Meth K ea "meet_none" sc)
 (nZ:L2.Meth K ea "meet" qd)
 (nW:L2.Meth K ea "note" qc)
 (zI:L2.Cls K ka)
 (oR:L2.Mk K ka Zc)
 (oh:L2.Meth K ka "told" Hc)
 (zG:L2.Cls K Ja)
 (xr:L2.Mk0 K Ja)
 (nU:L2.Meth K Ja "told" zc)
 (zN:L2.Cls K aa)
 (oW:L2.Mk K aa sd)
 (oJ:L2.Meth K aa "meet" cd)
 (cA:L2.Meth K aa "faults" oc)
 (cB:L2.Meth K aa "ending" mc)
 (nA:L2.Meth K aa "feed" kc)
 (zA:L2.Meth K aa "end" nc)
 (rA:L2.Meth K aa "take" pc)
 (aA:L2.Meth K aa "look_at_begun" lc)
 (bA:L2.Meth K aa "meet_none" sc)
 (jA:L2.Meth K aa "note" qc)
 (zL:L2.Cls K ja)
 (oU:L2.Mk K ja Jd)
 (oH:L2.Meth K ja "feed" Md)
 (oG:L2.Meth K ja "may" md)
 (oI:L2.Meth K ja "are" Fc)
 (zK:L2.Cls K fa)
 (xt:L2.Mk0 K fa)
 (oE:L2.Meth K fa "spell" Gc)
 (oC:L2.Meth K fa "whole" Vc)
 (oF:L2.Meth K fa "fill" Ad)
 (bB:L2.Meth K fa "unit" gc)
 (aB:L2.Meth K fa "look" cc)
 (zJ:L2.Cls K da)
 (oS:L2.Mk K da Bd)
 (om:L2.Meth K da "unit" Mc)
 (oo:L2.Meth K da "turned" yd)
 (ow:L2.Meth K da "row_of" ud)
 (oj:L2.Meth K da "units_in" td)
 (oq:L2.Meth K da "spell" Ud)
 (oi:L2.Meth K da "whole" Wc)
 (oz:L2.Meth K da "fill" bd)
 (uA:L2.Meth K da "look" cc)
 (zE:L2.Cls K ba)
 (oM:L2.Mk K ba Jc)
 (nQ:L2.Meth K ba "row_beyond" Ed)
 (nN:L2.Meth K ba "spell" Ac)
 (nO:L2.Meth K ba "sign_of" Vd)
 (nM:L2.Meth K ba "whole" gd)
 (nR:L2.Meth K ba "fill" Cc)
 (lA:L2.Meth K ba "unit" gc)
 (gA:L2.Meth K ba "look" cc)
 (zD:L2.Cls K ca)
 (oK:L2.Mk K ca Ld)
 (nL:L2.Meth K ca "enter" dd)
 (nJ:L2.Meth K ca "spell" Xc)
 (nI:L2.Meth K ca "whole" Kd)
 (nK:L2.Meth K ca "fill" ad)
 (oA:L2.Meth K ca "unit" gc)
 (pA:L2.Meth K ca "look" cc)
 (qf:L2.InitC K ea tc)
 (dB:W.exmOne K (.ref ga) (.ref ga)=some true)
 (kY:fN K ga jx "ValueError.__new__"=true)
 (ji:L2.NoAttr K ha "tongue")
 (jk:L2.NoAttr K ea "at_page")
 (iV:L2.NoAttr K ea "begun")
 (kH:L2.NoAttr K ea "ended")
 (nk:L2.NoAttr K ea "many")
 (nj:L2.NoAttr K ea "met")
 (ni:L2.NoAttr K ea "place")
 (jj:L2.NoAttr K ea "tongue")
 (lV:L2.NoAttr K ka "sign")
 (nH:L2.NoAttr K aa "at_page")
 (nG:L2.NoAttr K aa "begun")
 (nE:L2.NoAttr K aa "ended")
 (nC:L2.NoAttr K aa "many")
 (nB:L2.NoAttr K aa "met")
 (ny:L2.NoAttr K aa "place")
 (nr:L2.NoAttr K aa "tongue")
 (lW:L2.NoAttr K aa "way")
 (jT:L2.NoAttr K ja "readers")
 (kJ:L2.NoAttr K da "order")
 (jS:L2.NoAttr K ba "lists")
 (iA:L2.NoAttr K ba "places")
 (jR:L2.NoAttr K ba "shifted")
 (kG:L2.NoAttr K ca "rest_by_row")
 (jQ:L2.NoAttr K ca "row_by_sign")
 (kF:L2.NoAttr K ca "sign_by_row")
 (F0:L2.Fun K "is_number" "is_number" vP a0 f0)
 (F1:L2.Fun K "is_byte" "is_byte" vT a1 f1)
 (F2:L2.Fun K "is_head" "is_head" vQ a2 f2)
 (F3:L2.Fun K "is_tail" "is_tail" vL a3 f3)
 (F4:L2.Fun K "is_seen_byte" "is_seen_byte" vN a4 f4)
 (F5:L2.Fun K "is_sign" "is_sign" vM a5 f5)
 (F6:L2.Fun K "is_row" "is_row" qZ a6 f6)
 (F7:L2.Fun K "__init__" "Faulty.__init__" wU a7 f7)
 (F8:L2.Fun K "write_from" "write_from" vx a8 f8)
 (F9:L2.Fun K "write" "write" vy a9 f9)
 (lG:L2.Fun K "__init__" "SeenSpeller.__init__" wu vc He)
 (rI:L2.Fun K "spell" "SeenSpeller.spell" wt xc We)
 (kI:L2.Fun K "write_seen" "write_seen" vw Kc pe)
 (xG:L2.Fun K "faults" "Reader.faults" wD oc Te)
 (qH:L2.Fun K "ending" "Reader.ending" wE mc Mf)
 (cG:L2.Fun K "feed" "Reader.feed" wC kc ke)
 (VG:L2.Fun K "end" "Reader.end" wF nc Ee)
 (rJ:L2.Fun K "take" "Reader.take" wv pc Yd)
 (JH:L2.Fun K "look_at_begun" "Reader.look_at_begun" wA lc yf)
 (gJ:L2.Fun K "meet_none" "Reader.meet_none" wx sc Re)
 (eH:L2.Fun K "meet" "Reader.meet" wz qd Be)
 (tH:L2.Fun K "note" "Reader.note" ww qc Lf)
 (bJ:L2.Fun K "told" "Put.told" wG Hc Ue)
 (mG:L2.Fun K "told" "See.told" q9 zc ye)
 (UG:L2.Fun K "meet" "GoingReader.meet" wS cd af)
 (uG:L2.Fun K "parts_of" "parts_of" vF kd Tf)
 (pI:L2.Fun K "__init__" "Guesser.__init__" rg Jd If)
 (qJ:L2.Fun K "feed" "Guesser.feed" wR Md ze)
 (vI:L2.Fun K "may" "Guesser.may" rf md De)
 (lJ:L2.Fun K "are" "Guesser.are" rh Fc ff)
 (uI:L2.Fun K "check_room" "check_room" vX fd se)
 (qG:L2.Fun K "parted" "parted" vG od Pe)
 (bH:L2.Fun K "together" "together" vA Cd he)
 (XH:L2.Fun K "length_of" "length_of" vJ Od oe)
 (bI:L2.Fun K "lead_row" "lead_row" qY Gd de)
 (pG:L2.Fun K "length_behind" "length_behind" vK Rd xe)
 (mH:L2.Fun K "bounds_behind" "bounds_behind" vY Dd df)
 (QG:L2.Fun K "fits_behind" "fits_behind" vU Dc Se)
 (sH:L2.Fun K "missing" "missing" vH Nd ue)
 (TG:L2.Fun K "carried" "carried" q8 rd ae)
 (dG:L2.Fun K "unit" "Tongue.unit" wa gc Bf)
 (aJ:L2.Fun K "units_of" "units_of" vz Fd sf)
 (iI:L2.Fun K "sign_of" "sign_of" vB Sc je)
 (cI:L2.Fun K "unit" "PairTongue.unit" wJ Mc Gf)
 (ZG:L2.Fun K "turned" "PairTongue.turned" wK yd Ye)
 (YH:L2.Fun K "row_of" "PairTongue.row_of" wM ud Rf)
 (sG:L2.Fun K "units_in" "PairTongue.units_in" rc td Pf)
 (DG:L2.Fun K "read" "read" vD ld bf)
 (KH:L2.Fun K "rest_of" "rest_of" vC ed lf)
 (JG:L2.Fun K "begins" "begins" vZ Td Jf)
 (jJ:L2.Fun K "places_in" "places_in" vE Hd cf)
 (dJ:L2.Fun K "__init__" "ShiftTongue.__init__" wp Jc pf)
 (yH:L2.Fun K "row_beyond" "ShiftTongue.row_beyond" wn Ed ie)
 (tG:L2.Fun K "sign_of" "ShiftTongue.sign_of" wm Vd gf)
 (pJ:L2.Fun K "is_entry" "is_entry" vS uc mf)
 (HH:L2.Fun K "collide" "collide" vV Id ee)
 (dI:L2.Fun K "check_table" "check_table" vW Pd Hf)
 (fH:L2.Fun K "__init__" "TableTongue.__init__" we Ld me)
 (xH:L2.Fun K "enter" "TableTongue.enter" wj dd Sf)
 (cH:L2.Fun K "_law_pick" "_law_pick" vj jd Oe)
 (rH:L2.Fun K "_law_sign" "_law_sign" vd Tc ce)
 (fJ:L2.Fun K "_law_pool" "_law_pool" vg Uc te)
 (CG:L2.Fun K "_law_digits" "_law_digits" vo hd Qe)
 (jG:L2.Fun K "_law_plan" "_law_plan" vh yc Ke)
 (dH:L2.Fun K "_law_made" "_law_made" vk Bc Ge)
 (RG:L2.Fun K "_law_lead" "_law_lead" vm Lc Ff)
 (gG:L2.Fun K "_law_units" "_law_units" va xd Zd)
 (aH:L2.Fun K "_law_shifted" "_law_shifted" ve Rc Xd)
 (uJ:L2.Fun K "_law_spelled" "_law_spelled" qV Oc Je)
 (YG:L2.Fun K "_law_bytes" "_law_bytes" vp pd wf)
 (mJ:L2.Fun K "_law_pieces" "_law_pieces" vi Yc kf)
 (sI:L2.Fun K "_law_read" "_law_read" vf Sd nf)
 (iJ:L2.Fun K "_law_of_parts" "_law_of_parts" qX Ec Xe)
 (gH:L2.Fun K "_law_ahead" "_law_ahead" vt Qc Fe)
 (sJ:L2.Fun K "_law_right" "_law_right" qW Wd Ce)
 (qI:L2.Fun K "law" "law" iu Pc qe)
 (aG:L2.FunD K "__init__" "Reader.__init__" wB tc fe [.int 0 Ua])
 (rG:L2.FunD K "__init__" "Put.__init__" wH Zc hf [.int 65533 Za])
 (iH:L2.FunD K "__init__" "GoingReader.__init__" wT sd Nf [.int 0 mb])
 (uH:L2.FunD K "spell" "LeadTongue.spell" wQ Gc jf [.int 0 lb])
 (pH:L2.FunD K "whole" "LeadTongue.whole" wP Vc zf [.int 0 kb])
 (ZF:L2.FunD K "fill" "LeadTongue.fill" re Ad xf [.int 0 eb])
 (yI:L2.FunD K "look" "Tongue.look" wb cc Df [.int 0 qb])
 (QH:L2.FunD K "__init__" "PairTongue.__init__" wN Bd be [.str "high" db])
 (lH:L2.FunD K "spell" "PairTongue.spell" wL Ud Le [.int 0 fb])
 (jH:L2.FunD K "whole" "PairTongue.whole" wI Wc Ae [.int 0 Wa])
 (bG:L2.FunD K "fill" "PairTongue.fill" wO bd Ve [.int 0 Ya])
 (iG:L2.FunD K "spell" "ShiftTongue.spell" wl Ac Vf [.int 0 nb])
 (VH:L2.FunD K "whole" "ShiftTongue.whole" wk gd Ef [.int 0 bb])
 (fG:L2.FunD K "fill" "ShiftTongue.fill" wr Cc Ze [.int 0 pb])
 (cJ:L2.FunD K "spell" "TableTongue.spell" wd Xc uf [.int 0 Va])
 (eG:L2.FunD K "whole" "TableTongue.whole" wc Kd Uf [.int 0 ob])
 (yG:L2.FunD K "fill" "TableTongue.fill" wg ad tf [.int 0 gb])
 (bK:K.lookup jc=some ⟨.type "dict",none,.dict Qf Wf,#[]⟩)
 (XD:K.lookup Wb=some ⟨.type "tuple",none,.seq Pb Nc,Qd⟩)
 (bF:K.lookup Gb=some ⟨.type "dict",none,.dict hc Ic,#[]⟩)
 (QD:K.lookup Vb=some ⟨.type "tuple",none,.seq Ob zd,nd⟩)
 (RJ:j4 Qf.toList=some [(jb,("high" : Str),ib),(ab,("low" : Str),Xa)])
 (GJ:(jc == sysModules)=false)
 (eE:cW ([0,0,192,224,240]:e7) Pb.toList=true)
 (RD:Nat.ble Pb.size 1000=true)
 (WD:lg hc.toList=some [(224,Ta),(237,Ra),(238,Ma),(240,Sa),(244,Qa)])
 (VD:(Gb == sysModules)=false)
 (sE:cW ([254,255]:e7) Ob.toList=true)
 (HF:Nat.ble Ob.size 1000=true)
 (nD:K.lookup ib=some ⟨.type "tuple",none,.seq cb ec,fc⟩)
 (qD:K.lookup Xa=some ⟨.type "tuple",none,.seq hb ic,dc⟩)
 (GC:K.lookup Ta=some ⟨.type "tuple",none,.seq Pa bc,Zb⟩)
 (cD:K.lookup Ra=some ⟨.type "tuple",none,.seq Oa Qb,Yb⟩)
 (JC:K.lookup Ma=some ⟨.type "tuple",none,.seq La Tb,Nb⟩)
 (KC:K.lookup Sa=some ⟨.type "tuple",none,.seq Ka Ub,Sb⟩)
 (bD:K.lookup Qa=some ⟨.type "tuple",none,.seq Na Rb,Xb⟩)
 (lD:jb=hashStr w "high")
 (jD:ab=hashStr w "low")
 (gD:iN cb.toList=some [ra,ta,xa,Da,ma])
 (iD:Nat.ble cb.size 1000=true)
 (mD:iN hb.toList=some [qa,Ca,pa,Ga,za])
 (pD:Nat.ble hb.size 1000=true)
 (fD:cW ([160,191]:e7) Pa.toList=true)
 (aD:Nat.ble Pa.size 1000=true)
 (dD:cW ([128,159]:e7) Oa.toList=true)
 (yC:Nat.ble Oa.size 1000=true)
 (ZC:cW ([128,187]:e7) La.toList=true)
 (XC:Nat.ble La.size 1000=true)
 (YC:cW ([144,191]:e7) Ka.toList=true)
 (RC:Nat.ble Ka.size 1000=true)
 (QC:cW ([128,143]:e7) Na.toList=true)
 (LC:Nat.ble Na.size 1000=true)
 (uC:K.lookup ra=some ⟨.type "tuple",none,.seq Ha Eb,Cb⟩)
 (rB:K.lookup ta=some ⟨.type "tuple",none,.seq la vb,xb⟩)
 (tC:K.lookup xa=some ⟨.type "tuple",none,.seq Ia tb,Mb⟩)
 (zB:K.lookup Da=some ⟨.type "tuple",none,.seq Fa Bb,ub⟩)
 (JB:K.lookup ma=some ⟨.type "tuple",none,.seq na Jb,Ib⟩)
 (iC:K.lookup qa=some ⟨.type "tuple",none,.seq ya Fb,Hb⟩)
 (rC:K.lookup Ca=some ⟨.type "tuple",none,.seq Ea Lb,zb⟩)
 (lB:K.lookup pa=some ⟨.type "tuple",none,.seq Ba sb,yb⟩)
 (tB:K.lookup Ga=some ⟨.type "tuple",none,.seq sa Kb,Ab⟩)
 (VB:K.lookup za=some ⟨.type "tuple",none,.seq ua rb,Db⟩)
 (PB:cW ([]:e7) Ha.toList=true)
 (QB:Nat.ble Ha.size 1000=true)
 (qC:cW ([0]:e7) la.toList=true)
 (mC:Nat.ble la.size 1000=true)
 (dC:cW ([0,0]:e7) Ia.toList=true)
 (HB:Nat.ble Ia.size 1000=true)
 (NB:cW ([220,0]:e7) Fa.toList=true)
 (YB:Nat.ble Fa.size 1000=true)
 (pC:cW ([0,220,0]:e7) na.toList=true)
 (bC:Nat.ble na.size 1000=true)
 (jB:cW ([]:e7) ya.toList=true)
 (aC:Nat.ble ya.size 1000=true)
 (gC:cW ([0]:e7) Ea.toList=true)
 (jC:Nat.ble Ea.size 1000=true)
 (pB:cW ([220]:e7) Ba.toList=true)
 (cC:Nat.ble Ba.size 1000=true)
 (uB:cW ([0,0]:e7) sa.toList=true)
 (RB:Nat.ble sa.size 1000=true)
 (lC:cW ([0,220]:e7) ua.toList=true)
 (fC:Nat.ble ua.size 1000=true):∃t,Txt w K mg t:=by
  exact⟨⟨a0,f0,a1,f1,a2,f2,a3,f3,a4,f4,a5,f5,a6,f6,a7,f7,a8,f8,a9,f9,vc,He,xc,We,Kc,pe,tc,fe,Ua,oc,Te,mc,Mf,kc,ke,nc,Ee,pc,Yd,lc,yf,sc,Re,qd,Be,qc,Lf,Zc,hf,Za,Hc,Ue,zc,ye,sd,Nf,mb,cd,af,kd,Tf,Jd,If,Md,ze,md,De,Fc,ff,fd,se,od,Pe,Cd,he,Od,oe,Gd,de,Rd,xe,Dd,df,Dc,Se,Nd,ue,rd,ae,Gc,jf,lb,Vc,zf,kb,Ad,xf,eb,gc,Bf,cc,Df,qb,Fd,sf,Sc,je,Bd,be,db,Mc,Gf,yd,Ye,ud,Rf,td,Pf,Ud,Le,fb,Wc,Ae,Wa,bd,Ve,Ya,ld,bf,ed,lf,Td,Jf,Hd,cf,Jc,pf,Ed,ie,Ac,Vf,nb,Vd,gf,gd,Ef,bb,Cc,Ze,pb,uc,mf,Id,ee,Pd,Hf,Ld,me,dd,Sf,Xc,uf,Va,Kd,Uf,ob,ad,tf,gb,jd,Oe,Tc,ce,Uc,te,hd,Qe,yc,Ke,Bc,Ge,Lc,Ff,xd,Zd,Rc,Xd,Oc,Je,pd,wf,Yc,kf,Sd,nf,Ec,Xe,Qc,Fe,Wd,Ce,Pc,qe,ha,ea,ka,Ja,aa,ja,fa,da,ba,ca,ga,ia,u0,u1,jc,jb,ib,ra,ta,xa,Da,ma,ab,Xa,qa,Ca,pa,Ga,za,u3,u4,u5,u6,u7,u8,u9,Me,ef,Cf,Af,Wb,Ie,Of,Kf,Gb,Ta,Ra,Ma,Sa,Qa,Vb⟩,⟨F0,bT F0 (λ_ _ _ _ _ _ _=>rfl),W.mg_of X G HJ,F1,bT F1 (λ_ _ _ _ _ _ _=>rfl),W.mg_of X G FJ,F2,bT F2 (λ_ _ _ _ _ _ _=>rfl),W.mg_of X G PJ,F3,bT F3 (λ_ _ _ _ _ _ _=>rfl),W.mg_of X G dK,F4,bT F4 (λ_ _ _ _ _ _ _=>rfl),W.mg_of X G MJ,F5,bT F5 (λ_ _ _ _ _ _ _=>rfl),W.mg_of X G xJ,F6,bT F6 (λ_ _ _ _ _ _ _=>rfl),W.mg_of X G aK,F7,GH F7 (λ_ _ _ _ _ _ _ _ _ _=>rfl),F8,ig F8 (λ_ _ _ _ _ _ _ _ _=>rfl),W.mg_of X G TJ,F9,cn F9 (λ_ _ _ _ _ _ _ _=>rfl),W.mg_of X G BJ,lG,cn lG (λ_ _ _ _ _ _ _ _=>rfl),rI,ig rI (λ_ _ _ _ _ _ _ _ _=>rfl),kI,cn kI (λ_ _ _ _ _ _ _ _=>rfl),W.mg_of X G ZD,aG,pY aG (λ_ _ _ _ _ _ _ _ _=>⟨_,rfl,rfl⟩),fO aG (λ_ _ _ _ _ _ _ _ _ _=>⟨_,rfl,rfl⟩),xG,bT xG (λ_ _ _ _ _ _ _=>rfl),qH,bT qH (λ_ _ _ _ _ _ _=>rfl),cG,cn cG (λ_ _ _ _ _ _ _ _=>rfl),VG,bT VG (λ_ _ _ _ _ _ _=>rfl),rJ,cn rJ (λ_ _ _ _ _ _ _ _=>rfl),JH,bT JH (λ_ _ _ _ _ _ _=>rfl),gJ,bT gJ (λ_ _ _ _ _ _ _=>rfl),eH,ig eH (λ_ _ _ _ _ _ _ _ _=>rfl),tH,ig tH (λ_ _ _ _ _ _ _ _ _=>rfl),rG,pY rG (λ_ _ _ _ _ _ _ _ _=>⟨_,rfl,rfl⟩),bJ,cn bJ (λ_ _ _ _ _ _ _ _=>rfl),mG,cn mG (λ_ _ _ _ _ _ _ _=>rfl),iH,fO iH (λ_ _ _ _ _ _ _ _ _ _=>⟨_,rfl,rfl⟩),UG,ig UG (λ_ _ _ _ _ _ _ _ _=>rfl),uG,cn uG (λ_ _ _ _ _ _ _ _=>rfl),W.mg_of X G xF,pI,cn pI (λ_ _ _ _ _ _ _ _=>rfl),qJ,cn qJ (λ_ _ _ _ _ _ _ _=>rfl),vI,bT vI (λ_ _ _ _ _ _ _=>rfl),lJ,bT lJ (λ_ _ _ _ _ _ _=>rfl),uI,cn uI (λ_ _ _ _ _ _ _ _=>rfl),W.mg_of X G yD,qG,ig qG (λ_ _ _ _ _ _ _ _ _=>rfl),W.mg_of X G GF,bH,cn bH (λ_ _ _ _ _ _ _ _=>rfl),W.mg_of X G YD,XH,bT XH (λ_ _ _ _ _ _ _=>rfl),W.mg_of X G yE,bI,bT bI (λ_ _ _ _ _ _ _=>rfl),W.mg_of X G cF,pG,bT pG (λ_ _ _ _ _ _ _=>rfl),W.mg_of X G uE,mH,cn mH (λ_ _ _ _ _ _ _ _=>rfl),W.mg_of X G jF,QG,bT QG (λ_ _ _ _ _ _ _=>rfl),W.mg_of X G WF,sH,bT sH (λ_ _ _ _ _ _ _=>rfl),W.mg_of X G qF,TG,bT TG (λ_ _ _ _ _ _ _=>rfl),W.mg_of X G yF,uH,fO uH (λ_ _ _ _ _ _ _ _ _ _=>⟨_,rfl,rfl⟩),pH,fO pH (λ_ _ _ _ _ _ _ _ _ _=>⟨_,rfl,rfl⟩),ZF,pY ZF (λ_ _ _ _ _ _ _ _ _=>⟨_,rfl,rfl⟩),fO ZF (λ_ _ _ _ _ _ _ _ _ _=>⟨_,rfl,rfl⟩),dG,bT dG (λ_ _ _ _ _ _ _=>rfl),yI,fO yI (λ_ _ _ _ _ _ _ _ _ _=>⟨_,rfl,rfl⟩),aJ,bT aJ (λ_ _ _ _ _ _ _=>rfl),W.mg_of X G HD,iI,bT iI (λ_ _ _ _ _ _ _=>rfl),W.mg_of X G QF,QH,pY QH (λ_ _ _ _ _ _ _ _ _=>⟨_,rfl,rfl⟩),cI,bT cI (λ_ _ _ _ _ _ _=>rfl),ZG,cn ZG (λ_ _ _ _ _ _ _ _=>rfl),YH,cn YH (λ_ _ _ _ _ _ _ _=>rfl),sG,cn sG (λ_ _ _ _ _ _ _ _=>rfl),lH,fO lH (λ_ _ _ _ _ _ _ _ _ _=>⟨_,rfl,rfl⟩),jH,fO jH (λ_ _ _ _ _ _ _ _ _ _=>⟨_,rfl,rfl⟩),bG,pY bG (λ_ _ _ _ _ _ _ _ _=>⟨_,rfl,rfl⟩),fO bG (λ_ _ _ _ _ _ _ _ _ _=>⟨_,rfl,rfl⟩),DG,cn DG (λ_ _ _ _ _ _ _ _=>rfl),W.mg_of X G kE,KH,cn KH (λ_ _ _ _ _ _ _ _=>rfl),W.mg_of X G tD,JG,cn JG (λ_ _ _ _ _ _ _ _=>rfl),W.mg_of X G tE,jJ,cn jJ (λ_ _ _ _ _ _ _ _=>rfl),W.mg_of X G lE,dJ,ig dJ (λ_ _ _ _ _ _ _ _ _=>rfl),yH,cn yH (λ_ _ _ _ _ _ _ _=>rfl),iG,fO iG (λ_ _ _ _ _ _ _ _ _ _=>⟨_,rfl,rfl⟩),tG,ig tG (λ_ _ _ _ _ _ _ _ _=>rfl),VH,fO VH (λ_ _ _ _ _ _ _ _ _ _=>⟨_,rfl,rfl⟩),fG,fO fG (λ_ _ _ _ _ _ _ _ _ _=>⟨_,rfl,rfl⟩),pJ,bT pJ (λ_ _ _ _ _ _ _=>rfl),W.mg_of X G eF,HH,cn HH (λ_ _ _ _ _ _ _ _=>rfl),W.mg_of X G gF,dI,bT dI (λ_ _ _ _ _ _ _=>rfl),W.mg_of X G XF,fH,cn fH (λ_ _ _ _ _ _ _ _=>rfl),xH,ig xH (λ_ _ _ _ _ _ _ _ _=>rfl),cJ,fO cJ (λ_ _ _ _ _ _ _ _ _ _=>⟨_,rfl,rfl⟩),eG,fO eG (λ_ _ _ _ _ _ _ _ _ _=>⟨_,rfl,rfl⟩),yG,fO yG (λ_ _ _ _ _ _ _ _ _ _=>⟨_,rfl,rfl⟩),cH,cn cH (λ_ _ _ _ _ _ _ _=>rfl),W.mg_of X G GD,rH,bT rH (λ_ _ _ _ _ _ _=>rfl),W.mg_of X G VF,fJ,bT fJ (λ_ _ _ _ _ _ _=>rfl),W.mg_of X G dF,CG,GH CG (λ_ _ _ _ _ _ _ _ _ _=>rfl),W.mg_of X G JD,jG,cn jG (λ_ _ _ _ _ _ _ _=>rfl),W.mg_of X G MF,dH,bT dH (λ_ _ _ _ _ _ _=>rfl),W.mg_of X G uF,RG,bT RG (λ_ _ _ _ _ _ _=>rfl),W.mg_of X G pF,gG,cn gG (λ_ _ _ _ _ _ _ _=>rfl),W.mg_of X G aF,aH,ig aH (λ_ _ _ _ _ _ _ _ _=>rfl),W.mg_of X G mF,uJ,ig uJ (λ_ _ _ _ _ _ _ _ _=>rfl),W.mg_of X G YF,YG,ig YG (λ_ _ _ _ _ _ _ _ _=>rfl),W.mg_of X G rF,mJ,cn mJ (λ_ _ _ _ _ _ _ _=>rfl),W.mg_of X G lF,sI,cn sI (λ_ _ _ _ _ _ _ _=>rfl),W.mg_of X G JF,iJ,bT iJ (λ_ _ _ _ _ _ _=>rfl),W.mg_of X G nF,gH,bT gH (λ_ _ _ _ _ _ _=>rfl),W.mg_of X G rD,sJ,TD sJ (λ_ _ _ _ _ _ _ _ _ _ _ _=>rfl),W.mg_of X G uD,qI,bT qI (λ_ _ _ _ _ _ _=>rfl),W.mg_of X G KD,W.mg_of X G zT,zF,oN,nS,ji,W.mg_of X G zV,zH,oQ,n6,oa,n5,og,nV,lX,nY,nZ,nW,jk,iV,kH,nk,nj,ni,jj,W.mg_of X G zW,zI,oR,oh,lV,W.mg_of X G zU,zG,xr,nU,W.mg_of X G Aa,zN,oW,oJ,cA,nA,zA,rA,aA,bA,jA,nH,nG,nE,nC,nB,ny,nr,lW,W.mg_of X G zZ,zL,oU,oH,oG,oI,jT,W.mg_of X G zY,zK,xt,oE,oC,oF,bB,aB,W.mg_of X G zX,zJ,oS,om,oo,ow,oj,oq,oi,oz,uA,kJ,W.mg_of X G zS,zE,oM,nQ,nN,nO,nM,nR,lA,gA,jS,iA,jR,W.mg_of X G zR,zD,oK,nL,nJ,nI,nK,oA,pA,kG,jQ,kF,qf,W.mg_of X G mh,W.mg_of X G ph,jE,dB,kY,pW,pV,pO,pN,iB,fB,gB,OD,TF,rE,W.mg_of X G k0,W.mg_of X G k1,W.mg_of X G k2,⟨⟨_,_,bK,RJ⟩,ZN.mpr ⟨lD,ZN.mpr ⟨jD,λ_ z=>nomatch z⟩⟩,(show List.Nodup (["high", "low"]:List Str) by decide +kernel),GJ⟩,BR nD gD (WX iD),eh uC PB (WX QB),eh rB qC (WX mC),eh tC dC (WX HB),eh zB NB (WX YB),eh JB pC (WX bC),BR qD mD (WX pD),eh iC jB (WX aC),eh rC gC (WX jC),eh lB pB (WX cC),eh tB uB (WX RB),eh VB lC (WX fC),W.mg_of X G k3,W.mg_of X G k4,W.mg_of X G k5,W.mg_of X G k6,W.mg_of X G k7,W.mg_of X G k8,W.mg_of X G k9,W.mg_of X G SJ,W.mg_of X G CJ,W.mg_of X G VJ,W.mg_of X G KJ,W.mg_of X G yJ,eh XD eE (WX RD),W.mg_of X G OJ,W.mg_of X G QJ,W.mg_of X G YJ,W.mg_of X G fK,⟨⟨_,_,bF,WD⟩,(show List.Nodup ([224,237,238,240,244]:e7) by decide),VD⟩,eh GC fD (WX aD),eh cD dD (WX yC),eh JC ZC (WX XC),eh KC YC (WX RC),eh bD QC (WX LC),W.mg_of X G ZJ,eh QD sE (WX HF),W.mg_none_of X G z0,W.mg_none_of X G z1,W.mg_none_of X G z2,W.mg_none_of X G z3,W.mg_none_of X G z4,W.mg_none_of X G z5,W.mg_none_of X G z6,W.mg_none_of X G z7,W.mg_none_of X G z8,W.mg_none_of X G z9,W.mg_none_of X G XJ,W.mg_none_of X G UJ⟩⟩
def walk {l:PySem.W.OpenLaw} {q:Program} {b:List Str} {D:(Str->Option Value)->Heap->Prop} {j:World->Heap->Prop} {d:DefRec} {K:Params->PySem.W.Frag} (m:l.most=some 63) (i:d.params.defaults=[]) (g:d.name = "law")
 (hY:∀(w:World) (h:Heap),j w h->(K w.params).In h)
 (F:∀(w:World) (mg:Str->Option Value) (h:Heap),(K w.params).In h->h.Ns mainGlobals mg->∃t,Txt w (K w.params) mg t) :
 PySem.W.WalkO q b D j l.row.toRowW d [] (λf vs=>PySem.call f vs):=by
 refine L2.walk_of (n:=63) (k:=18) (x := "_law_script") (CX:=λ_=>bK) (sp:=λw=>uK (K w.params)) m (by decide) i ⟨rfl,by decide,by decide⟩ hY (λw mg M h r G c=>?_) (λ_ _ a ns B _ hS=>⟨a,rfl,ns,hS,B,λ_=>rfl⟩) λ_ _ _ _ _ z=>z;obtain⟨t,T⟩:=F w mg h r G;rw[g]at c;have e:=c.symm.trans T.FJ;cases e;obtain⟨O,N,kV,p,L,J,v,ct,C,y,I,o⟩:=T.BF.ex;refine⟨t.sj,λs u=>?_,λbase _ _=>(Qh (P:=l.prog) (w:=w) (base:=base) T).ok⟩;rw[y];exact .of_eq Z
end My
theorem PySem.W.Fast.tw10015740915612917125:True:=⟨⟩
theorem PySem.W.Fast.tw10025636834556984270:True:=⟨⟩
theorem PySem.W.Fast.tw10027943210610210879:True:=⟨⟩
theorem PySem.W.Fast.tw1003663088887636006:True:=⟨⟩
theorem PySem.W.Fast.tw10054369804767877914:True:=⟨⟩
theorem PySem.W.Fast.tw10067114407898385934:True:=⟨⟩
theorem PySem.W.Fast.tw10086295695619675921:True:=⟨⟩
theorem PySem.W.Fast.tw10092219426803207160:True:=⟨⟩
theorem PySem.W.Fast.tw10093080856229975652:True:=⟨⟩
theorem PySem.W.Fast.tw10109410274878248076:True:=⟨⟩
theorem PySem.W.Fast.tw10123947747768499686:True:=⟨⟩
theorem PySem.W.Fast.tw10132524061142193071:True:=⟨⟩
theorem PySem.W.Fast.tw10222709313528636534:True:=⟨⟩
theorem PySem.W.Fast.tw10240699057008839545:True:=⟨⟩
theorem PySem.W.Fast.tw10248853270369846167:True:=⟨⟩
theorem PySem.W.Fast.tw10261802974208534595:True:=⟨⟩
theorem PySem.W.Fast.tw10263734734539409222:True:=⟨⟩
theorem PySem.W.Fast.tw10305785221812485729:True:=⟨⟩
theorem PySem.W.Fast.tw10326476900549280519:True:=⟨⟩
theorem PySem.W.Fast.tw10353576288749436171:True:=⟨⟩
theorem PySem.W.Fast.tw10364388055388331327:True:=⟨⟩
theorem PySem.W.Fast.tw10401997408904319041:True:=⟨⟩
theorem PySem.W.Fast.tw10413167530929004271:True:=⟨⟩
theorem PySem.W.Fast.tw10441658970451323799:True:=⟨⟩
theorem PySem.W.Fast.tw10493961027183010375:True:=⟨⟩
theorem PySem.W.Fast.tw10501776871031046494:True:=⟨⟩
theorem PySem.W.Fast.tw10514823844570067248:True:=⟨⟩
theorem PySem.W.Fast.tw10522701777887662990:True:=⟨⟩
theorem PySem.W.Fast.tw10533440825010660824:True:=⟨⟩
theorem PySem.W.Fast.tw10561338617482508279:True:=⟨⟩
theorem PySem.W.Fast.tw10566926224630826960:True:=⟨⟩
theorem PySem.W.Fast.tw10612832847695659037:True:=⟨⟩
theorem PySem.W.Fast.tw10616196211750904007:True:=⟨⟩
theorem PySem.W.Fast.tw10653044633762570493:True:=⟨⟩
theorem PySem.W.Fast.tw10783202667190571736:True:=⟨⟩
theorem PySem.W.Fast.tw10810583707516012499:True:=⟨⟩
theorem PySem.W.Fast.tw1082879535544615751:True:=⟨⟩
theorem PySem.W.Fast.tw10829687588646927978:True:=⟨⟩
theorem PySem.W.Fast.tw10947674420479460888:True:=⟨⟩
theorem PySem.W.Fast.tw10961782664640107324:True:=⟨⟩
theorem PySem.W.Fast.tw10978852007219294924:True:=⟨⟩
theorem PySem.W.Fast.tw110091708471678503:True:=⟨⟩
theorem PySem.W.Fast.tw11010000497838325511:True:=⟨⟩
theorem PySem.W.Fast.tw11030615858581618571:True:=⟨⟩
theorem PySem.W.Fast.tw11065957293425954643:True:=⟨⟩
theorem PySem.W.Fast.tw11070670609699468563:True:=⟨⟩
theorem PySem.W.Fast.tw11079623397902950068:True:=⟨⟩
theorem PySem.W.Fast.tw11090253446462816701:True:=⟨⟩
theorem PySem.W.Fast.tw11121488975431291512:True:=⟨⟩
theorem PySem.W.Fast.tw11131397953221492666:True:=⟨⟩
theorem PySem.W.Fast.tw11135775978788379888:True:=⟨⟩
theorem PySem.W.Fast.tw11136488996705514031:True:=⟨⟩
theorem PySem.W.Fast.tw11136827182578528826:True:=⟨⟩
theorem PySem.W.Fast.tw11164299222707962604:True:=⟨⟩
theorem PySem.W.Fast.tw11197562890578936641:True:=⟨⟩
theorem PySem.W.Fast.tw11209467869849863812:True:=⟨⟩
theorem PySem.W.Fast.tw11228201342393012356:True:=⟨⟩
theorem PySem.W.Fast.tw11238232759328128702:True:=⟨⟩
theorem PySem.W.Fast.tw11247543288372058922:True:=⟨⟩
theorem PySem.W.Fast.tw11266194687182756668:True:=⟨⟩
theorem PySem.W.Fast.tw1126904404726135197:True:=⟨⟩
theorem PySem.W.Fast.tw11308843381038624627:True:=⟨⟩
theorem PySem.W.Fast.tw11325872500025278546:True:=⟨⟩
theorem PySem.W.Fast.tw11331899948487795346:True:=⟨⟩
theorem PySem.W.Fast.tw11369760162807033650:True:=⟨⟩
theorem PySem.W.Fast.tw11386295356354844636:True:=⟨⟩
theorem PySem.W.Fast.tw11396438995079958937:True:=⟨⟩
theorem PySem.W.Fast.tw1144464898065767930:True:=⟨⟩
theorem PySem.W.Fast.tw11452749306852714048:True:=⟨⟩
theorem PySem.W.Fast.tw11543818159474864490:True:=⟨⟩
theorem PySem.W.Fast.tw11549903859280273046:True:=⟨⟩
theorem PySem.W.Fast.tw11582686641987178490:True:=⟨⟩
theorem PySem.W.Fast.tw11602288210978980122:True:=⟨⟩
theorem PySem.W.Fast.tw11619095826175291199:True:=⟨⟩
theorem PySem.W.Fast.tw11633337125649809192:True:=⟨⟩
theorem PySem.W.Fast.tw11650820116587597570:True:=⟨⟩
theorem PySem.W.Fast.tw11656641802400935276:True:=⟨⟩
theorem PySem.W.Fast.tw11658950579524542316:True:=⟨⟩
theorem PySem.W.Fast.tw11707272735007303496:True:=⟨⟩
theorem PySem.W.Fast.tw11719558098973710453:True:=⟨⟩
theorem PySem.W.Fast.tw11725170561035665447:True:=⟨⟩
theorem PySem.W.Fast.tw11735858281974134153:True:=⟨⟩
theorem PySem.W.Fast.tw11826215675021208378:True:=⟨⟩
theorem PySem.W.Fast.tw11838541366013366806:True:=⟨⟩
theorem PySem.W.Fast.tw11872183985439663496:True:=⟨⟩
theorem PySem.W.Fast.tw11893136813016606746:True:=⟨⟩
theorem PySem.W.Fast.tw11905470424465698218:True:=⟨⟩
theorem PySem.W.Fast.tw11912230681386917442:True:=⟨⟩
theorem PySem.W.Fast.tw11939595158218024809:True:=⟨⟩
theorem PySem.W.Fast.tw1193990429942974931:True:=⟨⟩
theorem PySem.W.Fast.tw11968495999518321204:True:=⟨⟩
theorem PySem.W.Fast.tw11973780780067402922:True:=⟨⟩
theorem PySem.W.Fast.tw11988233048531749461:True:=⟨⟩
theorem PySem.W.Fast.tw12066155501800977657:True:=⟨⟩
theorem PySem.W.Fast.tw12082673961651520542:True:=⟨⟩
theorem PySem.W.Fast.tw12111816034132671304:True:=⟨⟩
theorem PySem.W.Fast.tw1211589833722629887:True:=⟨⟩
theorem PySem.W.Fast.tw12145768545977786919:True:=⟨⟩
theorem PySem.W.Fast.tw12180682791705152523:True:=⟨⟩
theorem PySem.W.Fast.tw12193803388506477431:True:=⟨⟩
theorem PySem.W.Fast.tw12226795537767768132:True:=⟨⟩
theorem PySem.W.Fast.tw1223435342075034410:True:=⟨⟩
theorem PySem.W.Fast.tw12237399198656112484:True:=⟨⟩
theorem PySem.W.Fast.tw12258210227903968665:True:=⟨⟩
theorem PySem.W.Fast.tw12262783866746829399:True:=⟨⟩
theorem PySem.W.Fast.tw12276978021243642525:True:=⟨⟩
theorem PySem.W.Fast.tw12290645615549645601:True:=⟨⟩
theorem PySem.W.Fast.tw122960341037598143:True:=⟨⟩
theorem PySem.W.Fast.tw12297758744887908137:True:=⟨⟩
theorem PySem.W.Fast.tw1230826076339862285:True:=⟨⟩
theorem PySem.W.Fast.tw12326871939550792068:True:=⟨⟩
theorem PySem.W.Fast.tw12360845310831725679:True:=⟨⟩
theorem PySem.W.Fast.tw12369289852266520596:True:=⟨⟩
theorem PySem.W.Fast.tw12417537727573165433:True:=⟨⟩
theorem PySem.W.Fast.tw12429848471203238700:True:=⟨⟩
theorem PySem.W.Fast.tw12434744606679077823:True:=⟨⟩
theorem PySem.W.Fast.tw12490072859521236255:True:=⟨⟩
theorem PySem.W.Fast.tw12639281526699342969:True:=⟨⟩
theorem PySem.W.Fast.tw12645784245383252318:True:=⟨⟩
theorem PySem.W.Fast.tw12666682274172675181:True:=⟨⟩
theorem PySem.W.Fast.tw12676198531464753468:True:=⟨⟩
theorem PySem.W.Fast.tw12692643807529999262:True:=⟨⟩
theorem PySem.W.Fast.tw1274365504619112488:True:=⟨⟩
theorem PySem.W.Fast.tw12751983641736374331:True:=⟨⟩
theorem PySem.W.Fast.tw12758139797142943191:True:=⟨⟩
theorem PySem.W.Fast.tw12779788909210932910:True:=⟨⟩
theorem PySem.W.Fast.tw12782698584740146446:True:=⟨⟩
theorem PySem.W.Fast.tw12831799648321204754:True:=⟨⟩
theorem PySem.W.Fast.tw12842931532574692062:True:=⟨⟩
theorem PySem.W.Fast.tw12860010689082818036:True:=⟨⟩
theorem PySem.W.Fast.tw12871361890517380910:True:=⟨⟩
theorem PySem.W.Fast.tw12906293855371647935:True:=⟨⟩
theorem PySem.W.Fast.tw12906499402736373122:True:=⟨⟩
theorem PySem.W.Fast.tw12916720114927899359:True:=⟨⟩
theorem PySem.W.Fast.tw12930734442127012197:True:=⟨⟩
theorem PySem.W.Fast.tw12933299471462793100:True:=⟨⟩
theorem PySem.W.Fast.tw12967196861719514247:True:=⟨⟩
theorem PySem.W.Fast.tw13010014574671029124:True:=⟨⟩
theorem PySem.W.Fast.tw13028116431440767555:True:=⟨⟩
theorem PySem.W.Fast.tw13036511502172011099:True:=⟨⟩
theorem PySem.W.Fast.tw13124587263790565091:True:=⟨⟩
theorem PySem.W.Fast.tw13133117816471721279:True:=⟨⟩
theorem PySem.W.Fast.tw13157986704018349993:True:=⟨⟩
theorem PySem.W.Fast.tw13157994463660196982:True:=⟨⟩
theorem PySem.W.Fast.tw13221963667130461538:True:=⟨⟩
theorem PySem.W.Fast.tw13246411644838044057:True:=⟨⟩
theorem PySem.W.Fast.tw13256152582511249416:True:=⟨⟩
theorem PySem.W.Fast.tw13285453001203823896:True:=⟨⟩
theorem PySem.W.Fast.tw13288618219353132931:True:=⟨⟩
theorem PySem.W.Fast.tw13296265714085915707:True:=⟨⟩
theorem PySem.W.Fast.tw13296330772406191912:True:=⟨⟩
theorem PySem.W.Fast.tw13329135686379950274:True:=⟨⟩
theorem PySem.W.Fast.tw13333105532057561832:True:=⟨⟩
theorem PySem.W.Fast.tw13369670041285767432:True:=⟨⟩
theorem PySem.W.Fast.tw13392352292195185363:True:=⟨⟩
theorem PySem.W.Fast.tw13397798918408539847:True:=⟨⟩
theorem PySem.W.Fast.tw13442643912635428186:True:=⟨⟩
theorem PySem.W.Fast.tw1345432200418978711:True:=⟨⟩
theorem PySem.W.Fast.tw13491403685143895564:True:=⟨⟩
theorem PySem.W.Fast.tw13494805724034609597:True:=⟨⟩
theorem PySem.W.Fast.tw1353109146895863054:True:=⟨⟩
theorem PySem.W.Fast.tw13578867410653079380:True:=⟨⟩
theorem PySem.W.Fast.tw13589703875325229866:True:=⟨⟩
theorem PySem.W.Fast.tw13600683526575681054:True:=⟨⟩
theorem PySem.W.Fast.tw13640852546130315451:True:=⟨⟩
theorem PySem.W.Fast.tw13642311174038900168:True:=⟨⟩
theorem PySem.W.Fast.tw1369891901048375493:True:=⟨⟩
theorem PySem.W.Fast.tw13705792337672211149:True:=⟨⟩
theorem PySem.W.Fast.tw13709393029051463561:True:=⟨⟩
theorem PySem.W.Fast.tw13728366659280327509:True:=⟨⟩
theorem PySem.W.Fast.tw13740949695922090190:True:=⟨⟩
theorem PySem.W.Fast.tw13753362006738946248:True:=⟨⟩
theorem PySem.W.Fast.tw1382283287677134515:True:=⟨⟩
theorem PySem.W.Fast.tw138352376798260865:True:=⟨⟩
theorem PySem.W.Fast.tw13848441249894517669:True:=⟨⟩
theorem PySem.W.Fast.tw13848535444625844652:True:=⟨⟩
theorem PySem.W.Fast.tw13865978149982784076:True:=⟨⟩
theorem PySem.W.Fast.tw13941957705775274854:True:=⟨⟩
theorem PySem.W.Fast.tw13947623404749758137:True:=⟨⟩
theorem PySem.W.Fast.tw14003642426696690379:True:=⟨⟩
theorem PySem.W.Fast.tw14067677701557746656:True:=⟨⟩
theorem PySem.W.Fast.tw14069116613414837109:True:=⟨⟩
theorem PySem.W.Fast.tw14082470286265471156:True:=⟨⟩
theorem PySem.W.Fast.tw1411249449211914463:True:=⟨⟩
theorem PySem.W.Fast.tw14124132004923053803:True:=⟨⟩
theorem PySem.W.Fast.tw14126856426788357314:True:=⟨⟩
theorem PySem.W.Fast.tw14128781906409768330:True:=⟨⟩
theorem PySem.W.Fast.tw14148155059193940514:True:=⟨⟩
theorem PySem.W.Fast.tw14161626568235896781:True:=⟨⟩
theorem PySem.W.Fast.tw14180981914364538230:True:=⟨⟩
theorem PySem.W.Fast.tw14206236965769763284:True:=⟨⟩
theorem PySem.W.Fast.tw14226789306078929080:True:=⟨⟩
theorem PySem.W.Fast.tw14291906550530320159:True:=⟨⟩
theorem PySem.W.Fast.tw14312132850540808014:True:=⟨⟩
theorem PySem.W.Fast.tw14339587797737996171:True:=⟨⟩
theorem PySem.W.Fast.tw14348003257558747160:True:=⟨⟩
theorem PySem.W.Fast.tw14353425363923492455:True:=⟨⟩
theorem PySem.W.Fast.tw14372418304305233293:True:=⟨⟩
theorem PySem.W.Fast.tw14457741987657804233:True:=⟨⟩
theorem PySem.W.Fast.tw14485303954340324716:True:=⟨⟩
theorem PySem.W.Fast.tw14490699562186474119:True:=⟨⟩
theorem PySem.W.Fast.tw14505129988243049843:True:=⟨⟩
theorem PySem.W.Fast.tw14548321436804704565:True:=⟨⟩
theorem PySem.W.Fast.tw14576461890064777700:True:=⟨⟩
theorem PySem.W.Fast.tw14642179231576234310:True:=⟨⟩
theorem PySem.W.Fast.tw14643909172162199200:True:=⟨⟩
theorem PySem.W.Fast.tw14652110747934265798:True:=⟨⟩
theorem PySem.W.Fast.tw14667698608214250561:True:=⟨⟩
theorem PySem.W.Fast.tw146719557193699421:True:=⟨⟩
theorem PySem.W.Fast.tw14683302614005472009:True:=⟨⟩
theorem PySem.W.Fast.tw14726281042910796365:True:=⟨⟩
theorem PySem.W.Fast.tw14795608433557682410:True:=⟨⟩
theorem PySem.W.Fast.tw14797328466467616122:True:=⟨⟩
theorem PySem.W.Fast.tw14799107938269332689:True:=⟨⟩
theorem PySem.W.Fast.tw14830848176151528328:True:=⟨⟩
theorem PySem.W.Fast.tw1483947823383746599:True:=⟨⟩
theorem PySem.W.Fast.tw14888653901970553818:True:=⟨⟩
theorem PySem.W.Fast.tw14935342536149610444:True:=⟨⟩
theorem PySem.W.Fast.tw14955167237680993279:True:=⟨⟩
theorem PySem.W.Fast.tw14963027909568985273:True:=⟨⟩
theorem PySem.W.Fast.tw14993032377550090835:True:=⟨⟩
theorem PySem.W.Fast.tw15011522248262584933:True:=⟨⟩
theorem PySem.W.Fast.tw1502047791334942683:True:=⟨⟩
theorem PySem.W.Fast.tw15026480337016791194:True:=⟨⟩
theorem PySem.W.Fast.tw15027229466314420044:True:=⟨⟩
theorem PySem.W.Fast.tw15059153838726470006:True:=⟨⟩
theorem PySem.W.Fast.tw15067488670959667920:True:=⟨⟩
theorem PySem.W.Fast.tw15098924534017012774:True:=⟨⟩
theorem PySem.W.Fast.tw15103924864176958986:True:=⟨⟩
theorem PySem.W.Fast.tw15118760225788433973:True:=⟨⟩
theorem PySem.W.Fast.tw15137906430127884447:True:=⟨⟩
theorem PySem.W.Fast.tw15149028600147489327:True:=⟨⟩
theorem PySem.W.Fast.tw15178155513717704551:True:=⟨⟩
theorem PySem.W.Fast.tw15187464371851242364:True:=⟨⟩
theorem PySem.W.Fast.tw15202468435253305117:True:=⟨⟩
theorem PySem.W.Fast.tw15214713784554922855:True:=⟨⟩
theorem PySem.W.Fast.tw15237811554498254153:True:=⟨⟩
theorem PySem.W.Fast.tw1525395558214647429:True:=⟨⟩
theorem PySem.W.Fast.tw15257179030613726840:True:=⟨⟩
theorem PySem.W.Fast.tw15257620919557504772:True:=⟨⟩
theorem PySem.W.Fast.tw15275571213624757802:True:=⟨⟩
theorem PySem.W.Fast.tw15295225625971561705:True:=⟨⟩
theorem PySem.W.Fast.tw153188488304746303:True:=⟨⟩
theorem PySem.W.Fast.tw15352147853367854163:True:=⟨⟩
theorem PySem.W.Fast.tw1536397450352257844:True:=⟨⟩
theorem PySem.W.Fast.tw15366567261636827440:True:=⟨⟩
theorem PySem.W.Fast.tw15374174358054592065:True:=⟨⟩
theorem PySem.W.Fast.tw15406829131439150726:True:=⟨⟩
theorem PySem.W.Fast.tw15408212628098740072:True:=⟨⟩
theorem PySem.W.Fast.tw15496580730849713854:True:=⟨⟩
theorem PySem.W.Fast.tw15514989347025559049:True:=⟨⟩
theorem PySem.W.Fast.tw15559839530038704258:True:=⟨⟩
theorem PySem.W.Fast.tw15633838890570462703:True:=⟨⟩
theorem PySem.W.Fast.tw15639144567446228349:True:=⟨⟩
theorem PySem.W.Fast.tw15686458062110531639:True:=⟨⟩
theorem PySem.W.Fast.tw15724731198927861920:True:=⟨⟩
theorem PySem.W.Fast.tw15751850163993963106:True:=⟨⟩
theorem PySem.W.Fast.tw15752338534490177869:True:=⟨⟩
theorem PySem.W.Fast.tw15795690987506698317:True:=⟨⟩
theorem PySem.W.Fast.tw15858768163832886164:True:=⟨⟩
theorem PySem.W.Fast.tw15879200233741883695:True:=⟨⟩
theorem PySem.W.Fast.tw158800609228438096:True:=⟨⟩
theorem PySem.W.Fast.tw15883663601484625648:True:=⟨⟩
theorem PySem.W.Fast.tw15895323636420996116:True:=⟨⟩
theorem PySem.W.Fast.tw1593194186119466010:True:=⟨⟩
theorem PySem.W.Fast.tw16073302893305880508:True:=⟨⟩
theorem PySem.W.Fast.tw16122917020679910622:True:=⟨⟩
theorem PySem.W.Fast.tw16230427442610113243:True:=⟨⟩
theorem PySem.W.Fast.tw16232547124475063176:True:=⟨⟩
theorem PySem.W.Fast.tw1632374959027916212:True:=⟨⟩
theorem PySem.W.Fast.tw16363576014146738701:True:=⟨⟩
theorem PySem.W.Fast.tw16369421532082251546:True:=⟨⟩
theorem PySem.W.Fast.tw16374170771954227825:True:=⟨⟩
theorem PySem.W.Fast.tw16437631541296556436:True:=⟨⟩
theorem PySem.W.Fast.tw16442190559177501530:True:=⟨⟩
theorem PySem.W.Fast.tw16492594639098485523:True:=⟨⟩
theorem PySem.W.Fast.tw16516514283370260730:True:=⟨⟩
theorem PySem.W.Fast.tw16642148153652113986:True:=⟨⟩
theorem PySem.W.Fast.tw16647527873367642075:True:=⟨⟩
theorem PySem.W.Fast.tw16678502062717974106:True:=⟨⟩
theorem PySem.W.Fast.tw16686161279608073744:True:=⟨⟩
theorem PySem.W.Fast.tw16692198332318830013:True:=⟨⟩
theorem PySem.W.Fast.tw167103844302135014:True:=⟨⟩
theorem PySem.W.Fast.tw16734248313429957195:True:=⟨⟩
theorem PySem.W.Fast.tw16768899608162308793:True:=⟨⟩
theorem PySem.W.Fast.tw16825420566326708466:True:=⟨⟩
theorem PySem.W.Fast.tw1683638617990341679:True:=⟨⟩
theorem PySem.W.Fast.tw168579991918903359:True:=⟨⟩
theorem PySem.W.Fast.tw16898053340080937311:True:=⟨⟩
theorem PySem.W.Fast.tw16990953574347363397:True:=⟨⟩
theorem PySem.W.Fast.tw17031687480539328480:True:=⟨⟩
theorem PySem.W.Fast.tw17034098342215460670:True:=⟨⟩
theorem PySem.W.Fast.tw17070529270050010560:True:=⟨⟩
theorem PySem.W.Fast.tw17101922735113121573:True:=⟨⟩
theorem PySem.W.Fast.tw17159587273832372433:True:=⟨⟩
theorem PySem.W.Fast.tw1717371092099711190:True:=⟨⟩
theorem PySem.W.Fast.tw17195094171246628241:True:=⟨⟩
theorem PySem.W.Fast.tw17201256968021762281:True:=⟨⟩
theorem PySem.W.Fast.tw17208033197620365422:True:=⟨⟩
theorem PySem.W.Fast.tw17215596276922863446:True:=⟨⟩
theorem PySem.W.Fast.tw17219954570101031058:True:=⟨⟩
theorem PySem.W.Fast.tw17294397835409552226:True:=⟨⟩
theorem PySem.W.Fast.tw17315296909164027338:True:=⟨⟩
theorem PySem.W.Fast.tw1735637560339279160:True:=⟨⟩
theorem PySem.W.Fast.tw1737649016891592720:True:=⟨⟩
theorem PySem.W.Fast.tw17410318109446255498:True:=⟨⟩
theorem PySem.W.Fast.tw17475693088279172589:True:=⟨⟩
theorem PySem.W.Fast.tw17485675267165497782:True:=⟨⟩
theorem PySem.W.Fast.tw17511902067455213993:True:=⟨⟩
theorem PySem.W.Fast.tw17628516653613449988:True:=⟨⟩
theorem PySem.W.Fast.tw17637471806149425111:True:=⟨⟩
theorem PySem.W.Fast.tw17656695202227446629:True:=⟨⟩
theorem PySem.W.Fast.tw17661251832744686100:True:=⟨⟩
theorem PySem.W.Fast.tw1766320690956285594:True:=⟨⟩
theorem PySem.W.Fast.tw17664144639825749342:True:=⟨⟩
theorem PySem.W.Fast.tw17746508516346611030:True:=⟨⟩
theorem PySem.W.Fast.tw17751268358974108857:True:=⟨⟩
theorem PySem.W.Fast.tw17753672185913105732:True:=⟨⟩
theorem PySem.W.Fast.tw17756495664971665653:True:=⟨⟩
theorem PySem.W.Fast.tw17846030867718730376:True:=⟨⟩
theorem PySem.W.Fast.tw17853450070650896112:True:=⟨⟩
theorem PySem.W.Fast.tw17888699611360306624:True:=⟨⟩
theorem PySem.W.Fast.tw17922775113644367172:True:=⟨⟩
theorem PySem.W.Fast.tw17930746029490495731:True:=⟨⟩
theorem PySem.W.Fast.tw17932667703869701300:True:=⟨⟩
theorem PySem.W.Fast.tw18009296842583026934:True:=⟨⟩
theorem PySem.W.Fast.tw18013521993834857589:True:=⟨⟩
theorem PySem.W.Fast.tw18020799709664891367:True:=⟨⟩
theorem PySem.W.Fast.tw18027389534618482954:True:=⟨⟩
theorem PySem.W.Fast.tw18034871118226792271:True:=⟨⟩
theorem PySem.W.Fast.tw1810628256176611042:True:=⟨⟩
theorem PySem.W.Fast.tw1812455453322654681:True:=⟨⟩
theorem PySem.W.Fast.tw18139330310202004013:True:=⟨⟩
theorem PySem.W.Fast.tw18144933908240477918:True:=⟨⟩
theorem PySem.W.Fast.tw18153736502833507901:True:=⟨⟩
theorem PySem.W.Fast.tw18174221293268955834:True:=⟨⟩
theorem PySem.W.Fast.tw18194002845618601106:True:=⟨⟩
theorem PySem.W.Fast.tw18194300862689019058:True:=⟨⟩
theorem PySem.W.Fast.tw1824106193224430970:True:=⟨⟩
theorem PySem.W.Fast.tw18253815558035014327:True:=⟨⟩
theorem PySem.W.Fast.tw18265445263394409990:True:=⟨⟩
theorem PySem.W.Fast.tw18310879655933518174:True:=⟨⟩
theorem PySem.W.Fast.tw18345912771516631609:True:=⟨⟩
theorem PySem.W.Fast.tw18416814697762602993:True:=⟨⟩
theorem PySem.W.Fast.tw1842976004900758256:True:=⟨⟩
theorem PySem.W.Fast.tw1853414570642914703:True:=⟨⟩
theorem PySem.W.Fast.tw1887810865076118306:True:=⟨⟩
theorem PySem.W.Fast.tw1888410527725649522:True:=⟨⟩
theorem PySem.W.Fast.tw203556391516132639:True:=⟨⟩
theorem PySem.W.Fast.tw2040836843815271804:True:=⟨⟩
theorem PySem.W.Fast.tw2117753041792153919:True:=⟨⟩
theorem PySem.W.Fast.tw2130964535058697919:True:=⟨⟩
theorem PySem.W.Fast.tw2138118128055957079:True:=⟨⟩
theorem PySem.W.Fast.tw2160474822563892871:True:=⟨⟩
theorem PySem.W.Fast.tw2164271202888284548:True:=⟨⟩
theorem PySem.W.Fast.tw2174911509142040567:True:=⟨⟩
theorem PySem.W.Fast.tw2177257780718958072:True:=⟨⟩
theorem PySem.W.Fast.tw2184513373699386141:True:=⟨⟩
theorem PySem.W.Fast.tw2244441522822340550:True:=⟨⟩
theorem PySem.W.Fast.tw2245174755629351793:True:=⟨⟩
theorem PySem.W.Fast.tw2261008099946204946:True:=⟨⟩
theorem PySem.W.Fast.tw2378116106935086440:True:=⟨⟩
theorem PySem.W.Fast.tw2385352951161765197:True:=⟨⟩
theorem PySem.W.Fast.tw2414451923757710236:True:=⟨⟩
theorem PySem.W.Fast.tw2420384873677403920:True:=⟨⟩
theorem PySem.W.Fast.tw2437622713061923865:True:=⟨⟩
theorem PySem.W.Fast.tw2468472896046818531:True:=⟨⟩
theorem PySem.W.Fast.tw2510381186068667040:True:=⟨⟩
theorem PySem.W.Fast.tw2519625744700369463:True:=⟨⟩
theorem PySem.W.Fast.tw2520515705835641055:True:=⟨⟩
theorem PySem.W.Fast.tw2536939132087813388:True:=⟨⟩
theorem PySem.W.Fast.tw2542756942528150097:True:=⟨⟩
theorem PySem.W.Fast.tw2549248947628753441:True:=⟨⟩
theorem PySem.W.Fast.tw2590427433278855155:True:=⟨⟩
theorem PySem.W.Fast.tw259370973002187862:True:=⟨⟩
theorem PySem.W.Fast.tw2598546420038394313:True:=⟨⟩
theorem PySem.W.Fast.tw2599482953176547643:True:=⟨⟩
theorem PySem.W.Fast.tw2616738047515037012:True:=⟨⟩
theorem PySem.W.Fast.tw2645442410955297631:True:=⟨⟩
theorem PySem.W.Fast.tw2680722031504668601:True:=⟨⟩
theorem PySem.W.Fast.tw2711372742397062532:True:=⟨⟩
theorem PySem.W.Fast.tw2789158278095009565:True:=⟨⟩
theorem PySem.W.Fast.tw2811160233942555353:True:=⟨⟩
theorem PySem.W.Fast.tw2826537090256420395:True:=⟨⟩
theorem PySem.W.Fast.tw2849572543036108852:True:=⟨⟩
theorem PySem.W.Fast.tw2880017948205808009:True:=⟨⟩
theorem PySem.W.Fast.tw2963698560785447865:True:=⟨⟩
theorem PySem.W.Fast.tw3051874360688261956:True:=⟨⟩
theorem PySem.W.Fast.tw3057733005141272453:True:=⟨⟩
theorem PySem.W.Fast.tw3068001906219530884:True:=⟨⟩
theorem PySem.W.Fast.tw3073090462059674840:True:=⟨⟩
theorem PySem.W.Fast.tw3088316570194561651:True:=⟨⟩
theorem PySem.W.Fast.tw3114361615075830072:True:=⟨⟩
theorem PySem.W.Fast.tw3150718965096003275:True:=⟨⟩
theorem PySem.W.Fast.tw3163774593675311352:True:=⟨⟩
theorem PySem.W.Fast.tw3178048653838730979:True:=⟨⟩
theorem PySem.W.Fast.tw3185978968095915379:True:=⟨⟩
theorem PySem.W.Fast.tw3191365084599746285:True:=⟨⟩
theorem PySem.W.Fast.tw3234759461411696219:True:=⟨⟩
theorem PySem.W.Fast.tw3255641641642768515:True:=⟨⟩
theorem PySem.W.Fast.tw3260639194191507693:True:=⟨⟩
theorem PySem.W.Fast.tw3270771620662335108:True:=⟨⟩
theorem PySem.W.Fast.tw3285238925414737664:True:=⟨⟩
theorem PySem.W.Fast.tw3294286715374620006:True:=⟨⟩
theorem PySem.W.Fast.tw3330575465991755296:True:=⟨⟩
theorem PySem.W.Fast.tw3341166490403391768:True:=⟨⟩
theorem PySem.W.Fast.tw3357678745975766243:True:=⟨⟩
theorem PySem.W.Fast.tw3389119983587934903:True:=⟨⟩
theorem PySem.W.Fast.tw3416124313765608347:True:=⟨⟩
theorem PySem.W.Fast.tw3417862589567835388:True:=⟨⟩
theorem PySem.W.Fast.tw3423114575817960222:True:=⟨⟩
theorem PySem.W.Fast.tw3434204663591263019:True:=⟨⟩
theorem PySem.W.Fast.tw3456905253801161172:True:=⟨⟩
theorem PySem.W.Fast.tw3482984954492747791:True:=⟨⟩
theorem PySem.W.Fast.tw3539271882784767253:True:=⟨⟩
theorem PySem.W.Fast.tw3642705616634281336:True:=⟨⟩
theorem PySem.W.Fast.tw3645458483747454419:True:=⟨⟩
theorem PySem.W.Fast.tw3661852925441324930:True:=⟨⟩
theorem PySem.W.Fast.tw3670865223815925958:True:=⟨⟩
theorem PySem.W.Fast.tw3696738888573861166:True:=⟨⟩
theorem PySem.W.Fast.tw3704309948514523787:True:=⟨⟩
theorem PySem.W.Fast.tw370891020242422128:True:=⟨⟩
theorem PySem.W.Fast.tw3727711031289141698:True:=⟨⟩
theorem PySem.W.Fast.tw3740280010230456813:True:=⟨⟩
theorem PySem.W.Fast.tw3756653657770830358:True:=⟨⟩
theorem PySem.W.Fast.tw3804716088585479392:True:=⟨⟩
theorem PySem.W.Fast.tw3843440515924043563:True:=⟨⟩
theorem PySem.W.Fast.tw3852277259548195952:True:=⟨⟩
theorem PySem.W.Fast.tw3866756862291149105:True:=⟨⟩
theorem PySem.W.Fast.tw3869260205350320219:True:=⟨⟩
theorem PySem.W.Fast.tw3892621462549740688:True:=⟨⟩
theorem PySem.W.Fast.tw3919096216019017845:True:=⟨⟩
theorem PySem.W.Fast.tw3930575655131526506:True:=⟨⟩
theorem PySem.W.Fast.tw3951848127197705088:True:=⟨⟩
theorem PySem.W.Fast.tw3995277523992031446:True:=⟨⟩
theorem PySem.W.Fast.tw4031377535183981846:True:=⟨⟩
theorem PySem.W.Fast.tw4047352708809447648:True:=⟨⟩
theorem PySem.W.Fast.tw4050521895165746444:True:=⟨⟩
theorem PySem.W.Fast.tw4062918760781335520:True:=⟨⟩
theorem PySem.W.Fast.tw4074635209907688816:True:=⟨⟩
theorem PySem.W.Fast.tw4084601691016350047:True:=⟨⟩
theorem PySem.W.Fast.tw4185806524298063409:True:=⟨⟩
theorem PySem.W.Fast.tw4217657298183976269:True:=⟨⟩
theorem PySem.W.Fast.tw42533918420782512:True:=⟨⟩
theorem PySem.W.Fast.tw431817278382849782:True:=⟨⟩
theorem PySem.W.Fast.tw4323986707276843402:True:=⟨⟩
theorem PySem.W.Fast.tw4335855872769517105:True:=⟨⟩
theorem PySem.W.Fast.tw4347020353337374569:True:=⟨⟩
theorem PySem.W.Fast.tw4354260885465896969:True:=⟨⟩
theorem PySem.W.Fast.tw4366415187838634936:True:=⟨⟩
theorem PySem.W.Fast.tw4375213900310155677:True:=⟨⟩
theorem PySem.W.Fast.tw439235099789661535:True:=⟨⟩
theorem PySem.W.Fast.tw4421498836884558871:True:=⟨⟩
theorem PySem.W.Fast.tw4435254569483803682:True:=⟨⟩
theorem PySem.W.Fast.tw4468066909761030561:True:=⟨⟩
theorem PySem.W.Fast.tw4468081385633691496:True:=⟨⟩
theorem PySem.W.Fast.tw450358724911590777:True:=⟨⟩
theorem PySem.W.Fast.tw4630789148486759935:True:=⟨⟩
theorem PySem.W.Fast.tw4645834118926090527:True:=⟨⟩
theorem PySem.W.Fast.tw4661799898553984057:True:=⟨⟩
theorem PySem.W.Fast.tw4682593312848197375:True:=⟨⟩
theorem PySem.W.Fast.tw4727286298210003894:True:=⟨⟩
theorem PySem.W.Fast.tw4757021611020087116:True:=⟨⟩
theorem PySem.W.Fast.tw4757699053132041512:True:=⟨⟩
theorem PySem.W.Fast.tw4762267011999251380:True:=⟨⟩
theorem PySem.W.Fast.tw4771577344852112487:True:=⟨⟩
theorem PySem.W.Fast.tw4772041353554205091:True:=⟨⟩
theorem PySem.W.Fast.tw4775236145466676886:True:=⟨⟩
theorem PySem.W.Fast.tw4783053237076555503:True:=⟨⟩
theorem PySem.W.Fast.tw4860208314265693958:True:=⟨⟩
theorem PySem.W.Fast.tw48783930848573467:True:=⟨⟩
theorem PySem.W.Fast.tw4884305954809817800:True:=⟨⟩
theorem PySem.W.Fast.tw4945022749481025321:True:=⟨⟩
theorem PySem.W.Fast.tw4953027641040915950:True:=⟨⟩
theorem PySem.W.Fast.tw4955356674592914663:True:=⟨⟩
theorem PySem.W.Fast.tw4973886776905449376:True:=⟨⟩
theorem PySem.W.Fast.tw5066815622033104120:True:=⟨⟩
theorem PySem.W.Fast.tw5087052859745866075:True:=⟨⟩
theorem PySem.W.Fast.tw5208013180176805940:True:=⟨⟩
theorem PySem.W.Fast.tw5232747063633076176:True:=⟨⟩
theorem PySem.W.Fast.tw5277810618942940883:True:=⟨⟩
theorem PySem.W.Fast.tw5283005333767151388:True:=⟨⟩
theorem PySem.W.Fast.tw5317962646514243527:True:=⟨⟩
theorem PySem.W.Fast.tw5354178400199040360:True:=⟨⟩
theorem PySem.W.Fast.tw5410275138487654266:True:=⟨⟩
theorem PySem.W.Fast.tw5524650071562478095:True:=⟨⟩
theorem PySem.W.Fast.tw5525963385036619528:True:=⟨⟩
theorem PySem.W.Fast.tw5535194874337890521:True:=⟨⟩
theorem PySem.W.Fast.tw5582871796938696080:True:=⟨⟩
theorem PySem.W.Fast.tw561445605064034597:True:=⟨⟩
theorem PySem.W.Fast.tw5653927160921712783:True:=⟨⟩
theorem PySem.W.Fast.tw5665935920529374506:True:=⟨⟩
theorem PySem.W.Fast.tw5688467654904740983:True:=⟨⟩
theorem PySem.W.Fast.tw5801966836626407053:True:=⟨⟩
theorem PySem.W.Fast.tw5815951577127176139:True:=⟨⟩
theorem PySem.W.Fast.tw5825933207307962132:True:=⟨⟩
theorem PySem.W.Fast.tw5875635605157088889:True:=⟨⟩
theorem PySem.W.Fast.tw5880161819800067151:True:=⟨⟩
theorem PySem.W.Fast.tw5915263142174272097:True:=⟨⟩
theorem PySem.W.Fast.tw6003524790914568756:True:=⟨⟩
theorem PySem.W.Fast.tw6014650480271860622:True:=⟨⟩
theorem PySem.W.Fast.tw6039736192347812322:True:=⟨⟩
theorem PySem.W.Fast.tw604727912710541608:True:=⟨⟩
theorem PySem.W.Fast.tw6058325205748854512:True:=⟨⟩
theorem PySem.W.Fast.tw6065383257975676427:True:=⟨⟩
theorem PySem.W.Fast.tw6071697062515588140:True:=⟨⟩
theorem PySem.W.Fast.tw6111304028578369171:True:=⟨⟩
theorem PySem.W.Fast.tw6225747008249838798:True:=⟨⟩
theorem PySem.W.Fast.tw6247824615560741779:True:=⟨⟩
theorem PySem.W.Fast.tw6271620028150088524:True:=⟨⟩
theorem PySem.W.Fast.tw6277300651836473732:True:=⟨⟩
theorem PySem.W.Fast.tw6321307995268057603:True:=⟨⟩
theorem PySem.W.Fast.tw6343939596134834285:True:=⟨⟩
theorem PySem.W.Fast.tw634990033183138106:True:=⟨⟩
theorem PySem.W.Fast.tw6391367112616643810:True:=⟨⟩
theorem PySem.W.Fast.tw6412218519113453001:True:=⟨⟩
theorem PySem.W.Fast.tw6432043270554117514:True:=⟨⟩
theorem PySem.W.Fast.tw644574352374808084:True:=⟨⟩
theorem PySem.W.Fast.tw6494850516147252860:True:=⟨⟩
theorem PySem.W.Fast.tw6516443910211951108:True:=⟨⟩
theorem PySem.W.Fast.tw6528244063637576681:True:=⟨⟩
theorem PySem.W.Fast.tw6556319205538934154:True:=⟨⟩
theorem PySem.W.Fast.tw6561175431532633567:True:=⟨⟩
theorem PySem.W.Fast.tw6633951357640559797:True:=⟨⟩
theorem PySem.W.Fast.tw6682970121368983651:True:=⟨⟩
theorem PySem.W.Fast.tw6687534463164132341:True:=⟨⟩
theorem PySem.W.Fast.tw6711428796962976487:True:=⟨⟩
theorem PySem.W.Fast.tw6758212700520159059:True:=⟨⟩
theorem PySem.W.Fast.tw6769954561845704619:True:=⟨⟩
theorem PySem.W.Fast.tw6786491573480019503:True:=⟨⟩
theorem PySem.W.Fast.tw681081887877042797:True:=⟨⟩
theorem PySem.W.Fast.tw6834842718344721734:True:=⟨⟩
theorem PySem.W.Fast.tw6848204973790434924:True:=⟨⟩
theorem PySem.W.Fast.tw6849643797314151194:True:=⟨⟩
theorem PySem.W.Fast.tw6864942285381122078:True:=⟨⟩
theorem PySem.W.Fast.tw6877584247107399241:True:=⟨⟩
theorem PySem.W.Fast.tw6879072597513746457:True:=⟨⟩
theorem PySem.W.Fast.tw6916430356670431768:True:=⟨⟩
theorem PySem.W.Fast.tw69188962550734093:True:=⟨⟩
theorem PySem.W.Fast.tw6934222587082344097:True:=⟨⟩
theorem PySem.W.Fast.tw693793125122943082:True:=⟨⟩
theorem PySem.W.Fast.tw6943803369539312885:True:=⟨⟩
theorem PySem.W.Fast.tw6985878405651533416:True:=⟨⟩
theorem PySem.W.Fast.tw7026089753251997484:True:=⟨⟩
theorem PySem.W.Fast.tw7096407986944964034:True:=⟨⟩
theorem PySem.W.Fast.tw7198659606717063232:True:=⟨⟩
theorem PySem.W.Fast.tw7201316043529236602:True:=⟨⟩
theorem PySem.W.Fast.tw7205637798312724399:True:=⟨⟩
theorem PySem.W.Fast.tw7300788437009823020:True:=⟨⟩
theorem PySem.W.Fast.tw7320361698320428340:True:=⟨⟩
theorem PySem.W.Fast.tw7396633135704208056:True:=⟨⟩
theorem PySem.W.Fast.tw7434208061724453702:True:=⟨⟩
theorem PySem.W.Fast.tw7435823479321596420:True:=⟨⟩
theorem PySem.W.Fast.tw7459178267520746195:True:=⟨⟩
theorem PySem.W.Fast.tw7459882461969656689:True:=⟨⟩
theorem PySem.W.Fast.tw7502513175855152415:True:=⟨⟩
theorem PySem.W.Fast.tw7514038729541779696:True:=⟨⟩
theorem PySem.W.Fast.tw7567224920449917029:True:=⟨⟩
theorem PySem.W.Fast.tw7577858325480837897:True:=⟨⟩
theorem PySem.W.Fast.tw7602592920461395111:True:=⟨⟩
theorem PySem.W.Fast.tw7619623099255624440:True:=⟨⟩
theorem PySem.W.Fast.tw7641054763574832922:True:=⟨⟩
theorem PySem.W.Fast.tw7714121681607856825:True:=⟨⟩
theorem PySem.W.Fast.tw7735221405538028154:True:=⟨⟩
theorem PySem.W.Fast.tw774289619697321869:True:=⟨⟩
theorem PySem.W.Fast.tw7763873369807215735:True:=⟨⟩
theorem PySem.W.Fast.tw7830496774681447002:True:=⟨⟩
theorem PySem.W.Fast.tw7851923423191902634:True:=⟨⟩
theorem PySem.W.Fast.tw7876014302463682129:True:=⟨⟩
theorem PySem.W.Fast.tw7919328107899989136:True:=⟨⟩
theorem PySem.W.Fast.tw7930328400455648090:True:=⟨⟩
theorem PySem.W.Fast.tw7939288153879527299:True:=⟨⟩
theorem PySem.W.Fast.tw7973249464534384909:True:=⟨⟩
theorem PySem.W.Fast.tw8017127109000891152:True:=⟨⟩
theorem PySem.W.Fast.tw8056091941215685716:True:=⟨⟩
theorem PySem.W.Fast.tw8074314208249340274:True:=⟨⟩
theorem PySem.W.Fast.tw812067775765244366:True:=⟨⟩
theorem PySem.W.Fast.tw8123959511637083730:True:=⟨⟩
theorem PySem.W.Fast.tw8160403172899959549:True:=⟨⟩
theorem PySem.W.Fast.tw8183139700217105651:True:=⟨⟩
theorem PySem.W.Fast.tw8227372426584762316:True:=⟨⟩
theorem PySem.W.Fast.tw822918044842529545:True:=⟨⟩
theorem PySem.W.Fast.tw8241191250575825090:True:=⟨⟩
theorem PySem.W.Fast.tw8335807134779875352:True:=⟨⟩
theorem PySem.W.Fast.tw8375648287957115552:True:=⟨⟩
theorem PySem.W.Fast.tw8385471840981739135:True:=⟨⟩
theorem PySem.W.Fast.tw8394155204698310854:True:=⟨⟩
theorem PySem.W.Fast.tw8402979023517879853:True:=⟨⟩
theorem PySem.W.Fast.tw8404684374412792133:True:=⟨⟩
theorem PySem.W.Fast.tw8427115447567258487:True:=⟨⟩
theorem PySem.W.Fast.tw8427160668257641542:True:=⟨⟩
theorem PySem.W.Fast.tw8441622897451168965:True:=⟨⟩
theorem PySem.W.Fast.tw8442726585745211008:True:=⟨⟩
theorem PySem.W.Fast.tw8449679280424038072:True:=⟨⟩
theorem PySem.W.Fast.tw8532125604982022963:True:=⟨⟩
theorem PySem.W.Fast.tw8537617420119469014:True:=⟨⟩
theorem PySem.W.Fast.tw8546055462444822087:True:=⟨⟩
theorem PySem.W.Fast.tw8600084904894998058:True:=⟨⟩
theorem PySem.W.Fast.tw8628875364703412788:True:=⟨⟩
theorem PySem.W.Fast.tw8668287534880069246:True:=⟨⟩
theorem PySem.W.Fast.tw8677396106722894512:True:=⟨⟩
theorem PySem.W.Fast.tw8690579625149299238:True:=⟨⟩
theorem PySem.W.Fast.tw8708876779439608871:True:=⟨⟩
theorem PySem.W.Fast.tw8725108720299052782:True:=⟨⟩
theorem PySem.W.Fast.tw8738128870135076350:True:=⟨⟩
theorem PySem.W.Fast.tw8787791031712101921:True:=⟨⟩
theorem PySem.W.Fast.tw878836279382351690:True:=⟨⟩
theorem PySem.W.Fast.tw8793759213551075238:True:=⟨⟩
theorem PySem.W.Fast.tw8828219236729829327:True:=⟨⟩
theorem PySem.W.Fast.tw8895527779776612973:True:=⟨⟩
theorem PySem.W.Fast.tw8895617202875604587:True:=⟨⟩
theorem PySem.W.Fast.tw8956856010096298063:True:=⟨⟩
theorem PySem.W.Fast.tw9114627801232724183:True:=⟨⟩
theorem PySem.W.Fast.tw913876425670710911:True:=⟨⟩
theorem PySem.W.Fast.tw9141925372607335433:True:=⟨⟩
theorem PySem.W.Fast.tw9147768844795145522:True:=⟨⟩
theorem PySem.W.Fast.tw9150271253292926321:True:=⟨⟩
theorem PySem.W.Fast.tw9185026410413552498:True:=⟨⟩
theorem PySem.W.Fast.tw9189531995909958851:True:=⟨⟩
theorem PySem.W.Fast.tw9200604217190233881:True:=⟨⟩
theorem PySem.W.Fast.tw9208924146836528273:True:=⟨⟩
theorem PySem.W.Fast.tw923080531912218385:True:=⟨⟩
theorem PySem.W.Fast.tw9316554514920170505:True:=⟨⟩
theorem PySem.W.Fast.tw9318858033742313955:True:=⟨⟩
theorem PySem.W.Fast.tw9337609890822521026:True:=⟨⟩
theorem PySem.W.Fast.tw9348468469670267985:True:=⟨⟩
theorem PySem.W.Fast.tw9381503253511002656:True:=⟨⟩
theorem PySem.W.Fast.tw9414000781275570526:True:=⟨⟩
theorem PySem.W.Fast.tw9467500499039883103:True:=⟨⟩
theorem PySem.W.Fast.tw9593795668233090533:True:=⟨⟩
theorem PySem.W.Fast.tw9602409356437640832:True:=⟨⟩
theorem PySem.W.Fast.tw9625203334777302621:True:=⟨⟩
theorem PySem.W.Fast.tw963285031388658907:True:=⟨⟩
theorem PySem.W.Fast.tw9698217777595633004:True:=⟨⟩
theorem PySem.W.Fast.tw9706232528386208792:True:=⟨⟩
theorem PySem.W.Fast.tw9776687097522164104:True:=⟨⟩
theorem PySem.W.Fast.tw9797073943321309103:True:=⟨⟩
theorem PySem.W.Fast.tw9818810387109560507:True:=⟨⟩
theorem PySem.W.Fast.tw9822830658883716640:True:=⟨⟩
theorem PySem.W.Fast.tw983273991816554679:True:=⟨⟩
theorem PySem.W.Fast.tw9835657270673916362:True:=⟨⟩
theorem PySem.W.Fast.tw9857986442329424877:True:=⟨⟩
theorem PySem.W.Fast.tw9871934252650990726:True:=⟨⟩
theorem PySem.W.Fast.tw9909284504717067254:True:=⟨⟩
theorem PySem.W.Fast.tw9924009001391672517:True:=⟨⟩
theorem PySem.W.Fast.tw9942508562856434933:True:=⟨⟩
theorem PySem.W.Fast.tw9952116440645236630:True:=⟨⟩
namespace My
theorem cu_look{x y z d:Type}{f:x->z}{g:y->z}{as:List x}{ks:List y}{n:Nat}{u v:d}(h:((as.take n).map f,u)=((ks.take n).map g,v))(k:u=v->(as.drop n).map f=(ks.drop n).map g):as.map f=ks.map g:=by
  have e1:=(Prod.mk.inj h).1
  have e2:=k (Prod.mk.inj h).2
  have a:=congrArg (List.map f) (List.take_append_drop n as)
  have b:=congrArg (List.map g) (List.take_append_drop n ks)
  rw [List.map_append] at a b
  rw [<-a,<-b,e1,e2]
end My
open PySem PySem.W PyProof.Rows
local macro_rules
  | `(tactic| refine $f ($n1 := $a1) ($n2 := $a2) ($n3 := $a3) ($n4 := $a4) ($n5 := $o ($h $k $a $e)) ($n6 := $a6) ($n7 := $a7) ($n8 := $a8) $hl $of $r*) => `(tactic| refine $f ($n1 := $a1) ($n2 := $a2) ($n3 := $a3) ($n4 := $a4) ($n5 := fun s=>((List.take 350 $a).map s.heap.get?,(List.drop 350 $a).map s.heap.get?)) ($n6 := fun w=>((List.take 350 ($k w.params)).map (fun p=>some p.2),(List.drop 350 ($k w.params)).map (fun p=>some p.2))) ($n7 := $a7) ($n8 := $a8) $hl (fun w s h=>$of w s (My.cu_look h fun h=>h)) $r*)
set_option maxRecDepth 100000 in
set_option maxHeartbeats 0 in
theorem PySem.Challenge.cw_bytetongue_k95_whole_any_bytes_in_all_holds : PySem.Challenge.rw_bytetongue_k95_whole_any_bytes_in_all.Holds := by
 w_on;o_law;k_head;(case hw=>w_witness2)
 k_fill
 refine My.walk (l:=PySem.Challenge.rw_bytetongue_k95_whole_any_bytes_in_all) Z Z Z (λw h Y=>PySem.W.kIn_of Y) ?F
 case F =>
  intro w mg h KX G
  refine' My.txt_mk KX G ?mh ?ph ?zT ?zV ?zW ?zU ?Aa ?zZ ?zY ?zX ?zS ?zR ?pW ?pV ?pO ?pN ?iB ?fB ?gB ?OD ?TF ?rE ?HJ ?FJ ?PJ ?dK ?MJ ?xJ ?aK ?TJ ?BJ ?ZD ?xF ?yD ?GF ?YD ?yE ?cF ?uE ?jF ?WF ?qF ?yF ?HD ?QF ?kE ?tD ?tE ?lE ?eF ?gF ?XF ?GD ?VF ?dF ?JD ?MF ?uF ?pF ?aF ?mF ?YF ?rF ?lF ?JF ?nF ?rD ?uD ?KD ?k0 ?k1 ?k2 ?k3 ?k4 ?k5 ?k6 ?k7 ?k8 ?k9 ?SJ ?CJ ?VJ ?KJ ?yJ ?OJ ?QJ ?YJ ?fK ?ZJ ?z0 ?z1 ?z2 ?z3 ?z4 ?z5 ?z6 ?z7 ?z8 ?z9 ?XJ ?UJ ?jE ?zF ?oN ?nS ?zH ?oQ ?n6 ?oa ?n5 ?og ?nV ?lX ?nY ?nZ ?nW ?zI ?oR ?oh ?zG ?xr ?nU ?zN ?oW ?oJ ?cA ?cB ?nA ?zA ?rA ?aA ?bA ?jA ?zL ?oU ?oH ?oG ?oI ?zK ?xt ?oE ?oC ?oF ?bB ?aB ?zJ ?oS ?om ?oo ?ow ?oj ?oq ?oi ?oz ?uA ?zE ?oM ?nQ ?nN ?nO ?nM ?nR ?lA ?gA ?zD ?oK ?nL ?nJ ?nI ?nK ?oA ?pA ?qf ?dB ?kY ?ji ?jk ?iV ?kH ?nk ?nj ?ni ?jj ?lV ?nH ?nG ?nE ?nC ?nB ?ny ?nr ?lW ?jT ?kJ ?jS ?iA ?jR ?kG ?jQ ?kF ?F0 ?F1 ?F2 ?F3 ?F4 ?F5 ?F6 ?F7 ?F8 ?F9 ?lG ?rI ?kI ?xG ?qH ?cG ?VG ?rJ ?JH ?gJ ?eH ?tH ?bJ ?mG ?UG ?uG ?pI ?qJ ?vI ?lJ ?uI ?qG ?bH ?XH ?bI ?pG ?mH ?QG ?sH ?TG ?dG ?aJ ?iI ?cI ?ZG ?YH ?sG ?DG ?KH ?JG ?jJ ?dJ ?yH ?tG ?pJ ?HH ?dI ?fH ?xH ?cH ?rH ?fJ ?CG ?jG ?dH ?RG ?gG ?aH ?uJ ?YG ?mJ ?sI ?iJ ?gH ?sJ ?qI ?aG ?rG ?iH ?uH ?pH ?ZF ?yI ?QH ?lH ?jH ?bG ?iG ?VH ?fG ?cJ ?eG ?yG ?bK ?XD ?bF ?QD ?RJ ?GJ ?eE ?RD ?WD ?VD ?sE ?HF ?nD ?qD ?GC ?cD ?JC ?KC ?bD ?lD ?jD ?gD ?iD ?mD ?pD ?fD ?aD ?dD ?yC ?ZC ?XC ?YC ?RC ?QC ?LC ?uC ?rB ?tC ?zB ?JB ?iC ?rC ?lB ?tB ?VB ?PB ?QB ?qC ?mC ?dC ?HB ?NB ?YB ?pC ?bC ?jB ?aC ?gC ?jC ?pB ?cC ?uB ?RB ?lC ?fC
  case mh|ph|zT|zV|zW|zU|Aa|zZ|zY|zX|zS|zR|pW|pV|pO|pN|iB|fB|gB|OD|TF|rE|HJ|FJ|PJ|dK|MJ|xJ|aK|TJ|BJ|ZD|xF|yD|GF|YD|yE|cF|uE|jF|WF|qF|yF|HD|QF|kE|tD|tE|lE|eF|gF|XF|GD|VF|dF|JD|MF|uF|pF|aF=>k_is
  case mF|YF|rF|lF|JF|nF|rD|uD|KD|k0|k1|k2|k3|k4|k5|k6|k7|k8|k9|SJ|CJ|VJ|KJ|yJ|OJ|QJ|YJ|fK|ZJ|z0|z1|z2|z3|z4|z5|z6|z7|z8|z9|XJ|UJ=>k_is
  case jE|zF|oN|nS|zH|oQ|n6|oa|n5|og|nV|lX|nY|nZ|nW|zI|oR|oh|zG|xr|nU|zN|oW|oJ|cA|cB|nA|zA|rA|aA|bA|jA|zL|oU|oH|oG|oI|zK|xt|oE|oC|oF|bB|aB|zJ|oS|om|oo|ow|oj|oq|oi|oz|uA|zE|oM|nQ|nN|nO|nM=>constructor<;>k_is
  case nR|lA|gA|zD|oK|nL|nJ|nI|nK|oA|pA|qf=>constructor<;>k_is
  (case dB=>kts_exm)
  (case kY=>kernel_rfl)
  (case ji=>unfold L2.NoAttr;k_is)
  (case jk=>unfold L2.NoAttr;k_is)
  (case iV=>unfold L2.NoAttr;k_is)
  (case kH=>unfold L2.NoAttr;k_is)
  (case nk=>unfold L2.NoAttr;k_is)
  (case nj=>unfold L2.NoAttr;k_is)
  (case ni=>unfold L2.NoAttr;k_is)
  (case jj=>unfold L2.NoAttr;k_is)
  (case lV=>unfold L2.NoAttr;k_is)
  (case nH=>unfold L2.NoAttr;k_is)
  (case nG=>unfold L2.NoAttr;k_is)
  (case nE=>unfold L2.NoAttr;k_is)
  (case nC=>unfold L2.NoAttr;k_is)
  (case nB=>unfold L2.NoAttr;k_is)
  (case ny=>unfold L2.NoAttr;k_is)
  (case nr=>unfold L2.NoAttr;k_is)
  (case lW=>unfold L2.NoAttr;k_is)
  (case jT=>unfold L2.NoAttr;k_is)
  (case kJ=>unfold L2.NoAttr;k_is)
  (case jS=>unfold L2.NoAttr;k_is)
  (case iA=>unfold L2.NoAttr;k_is)
  (case jR=>unfold L2.NoAttr;k_is)
  (case kG=>unfold L2.NoAttr;k_is)
  (case jQ=>unfold L2.NoAttr;k_is)
  (case kF=>unfold L2.NoAttr;k_is)
  case F0|F1|F2|F3|F4|F5|F6|F7|F8|F9|lG|rI|kI|xG|qH|cG|VG|rJ|JH|gJ|eH|tH|bJ|mG|UG|uG|pI|qJ|vI|lJ|uI|qG|bH|XH|bI|pG|mH|QG|sH|TG|dG|aJ|iI|cI|ZG|YH|sG|DG|KH|JG|jJ|dJ|yH|tG|pJ|HH|dI|fH|xH|cH=>exact L2.fun_mk (by k_is) (by k_is) (by k_is)
  case rH|fJ|CG|jG|dH|RG|gG|aH|uJ|YG|mJ|sI|iJ|gH|sJ|qI=>exact L2.fun_mk (by k_is) (by k_is) (by k_is)
  case aG|rG|iH|uH|pH|ZF|yI|QH|lH|jH|bG|iG|VH|fG|cJ|eG|yG=>exact L2.funD_mk (by k_is) (by k_is) (by k_is) (by k_is)
  case bK|XD|bF|QD=>k_is
  case RJ|GJ|eE|RD|WD|VD|sE|HF=>rfl
  case nD|qD|GC|cD|JC|KC|bD=>k_is
  case lD|jD|gD|iD|mD|pD|fD|aD|dD|yC|ZC|XC|YC|RC|QC|LC=>rfl
  case uC|rB|tC|zB|JB|iC|rC|lB|tB|VB=>k_is
  case PB|QB|qC|mC|dC|HB|NB|YB|pC|bC|jB|aC|gC|jC|pB|cC|uB|RB|lC|fC=>rfl
