import PyProof.Rows.All
import Wide.All
import Wide.FinOn
import KE.KDictOf
import KE.RegKIsAll
import KE.KEqDeep
import KE.KRevIter
import KE.KEqDict
import KE.RegKTryMore
import KE.KItem
import KE.KTurns
import KE.KFromBytes
import KE.KEqText
import PySem.Challenge.RW_bytetongue_k94_whole_one_text_through_al
set_option Elab.async false
set_option linter.all false
set_option maxRecDepth 100000
def Yl:=@List.length_map
def Ym:=@Nat.le_refl
def Yn:=@Nat.lt_of_lt_of_le
def Yo:=@List.length_append
def Yp:=@List.length_take
def Yq:=@PySem.boot_len
def Yr:=@List.getElem?_eq_some_iff
def Ys:=@PySem.Heap.lt_size
def Yt:=@List.getElem?_map
def Yu:=@Nat.lt_succ_self
def Yv:=@List.size_toArray
def Yw:=@List.map_append
def Yx:=@List.mem_append
def Yy:=@List.take_length
def Yz:=@List.mem_cons
def YA:=@PySem.Heap.get?_push_of_some
def YB:=@Nat.ne_of_lt
def YC:=@Bool.false_ne_true
def YD:=@List.mem_of_getElem?
def YE:=@List.mem_range
def YF:=@List.mem_append_right
def YG:=@Int.pow_add
def YH:=@List.mem_singleton
def YI:=@Nat.le_of_ble_eq_true
def YJ:=@PySem.F.plainAttrs_list
def YK:=@Nat.le_trans
def YL:=@Option.some.inj
def YM:=@List.getElem?_eq_getElem
def YN:=@Int.le_of_lt
def YO:=@List.map_cons
def YQ:=@PySem.W.ke_shaped_ints
def YR:=@PySem.Heap.get?_push_size
def YS:=@Nat.zero_le
def YT:=@Bool.and_eq_true
def YU:=@List.append_assoc
def YV:=@List.take_append_drop
def YW:=@List.take_of_length_le
def YX:=@List.mem_of_mem_drop
def YY:=@List.length_drop
def YZ:=@List.getD_eq_getElem?_getD
def Y0:=@List.not_mem_nil
def Y1:=@List.mem_append_left
def Y2:=@List.find?_cons
def Y3:=@List.mem_map
def Y4:=@PyProof.Rows.boot_list
def Y5:=@Nat.lt_irrefl
def Y6:=@List.mem_cons_of_mem
def Y7:=@List.length_cons
def Y8:=@List.append_nil
def Y9:=@Option.map_some
def Za:=@List.replicate_succ
def Zb:=@List.getElem?_eq_none
def Zc:=@List.range_succ
def Zd:=@List.lookup_cons
def Ze:=@List.getElem?_range
def Zf:=@List.mem_of_mem_take
def Zg:=@PySem.F.slot_list_extend
def Zh:=@PySem.F.type_list_extend
def Zi:=@List.getElem?_append_right
def Zj:=@List.getElem?_append_left
def Zk:=@Option.map_eq_some_iff
def Zl:=@Int.mul_assoc
def Zm:=@Nat.not_lt_zero
def Zn:=@Int.natCast_add
def Zo:=@List.mem_cons_self
def Zp:=@Int.add_mul
def Zq:=@Int.zero_add
def Zr:=@Nat.zero_lt_one
def Zs:=@PyProof.Rows.callWith_type1
def Zt:=@List.getElem?_take_of_lt
def Zu:=@List.flatten_cons
def Zv:=@List.nil_append
def Zw:=@Int.toNat_natCast
def Zx:=@List.map_take
def Zy:=@List.map_drop
def Zz:=@Nat.min_eq_left
def ZA:=@Nat.mul_succ
def ZB:=@Int.ne_of_gt
def ZC:=@Int.ediv_ediv_of_nonneg
def ZD:=@PySem.F.slot_list_append
def ZE:=@PySem.F.type_list_append
def ZF:=@Bool.eq_iff_iff
def ZG:=@PySem.Heap.size_push
def ZH:=@List.length_replicate
def ZI:=@List.any_cons
def ZJ:=@PyProof.Rows.slot_tuple_getitem
def ZK:=@Int.emod_nonneg
def ZL:=@Int.emod_lt_of_pos
def ZM:=@Int.add_comm
def ZN:=@List.drop_of_length_le
def ZO:=@List.length_range
def ZP:=@Nat.le_of_eq
def ZQ:=@Nat.le_succ
def ZR:=@List.nodup_cons
def ZS:=@PySem.mem_of_lookup
def ZT:=@PySem.F.slot_dict_get
def ZU:=@List.foldl_cons
def ZV:=@List.all_eq_true
def ZW:=@Nat.add_sub_cancel_left
def ZX:=@List.drop_zero
def ZY:=@List.ext_getElem?
def ZZ:=@Int.toNat_of_nonneg
def Z0:=@Int.add_mul_ediv_right
def Z1:=@List.map_congr_left
def Z2:=@Option.bind_eq_some_iff
def Z3:=@List.map_map
def Z4:=@PyProof.Rows.boot_isinstance
def Z5:=@List.pairwise_iff_getElem
def Z6:=@Nat.mod_lt
def Z7:=@Nat.succ.inj
def Z8:=@Array.length_toList
def Z9:=@Nat.ne_of_gt
def a0a:=@List.getElem?_replicate
def a0b:=@Option.isSome_map
def a0c:=@List.take_take
def a0d:=@Int.mul_comm
def a0e:=@Int.mul_nonneg
def a0f:=@Int.mul_le_mul_of_nonneg_right
def a0g:=@Int.one_mul
def a0h:=@List.take_add_one
def a0i:=@Int.ediv_nonneg
def a0j:=@List.eq_of_mem_replicate
def a0k:=@List.drop_append
def a0l:=@List.getElem_mem
def a0m:=@List.flatMap_cons
def a0n:=@List.length_eq_zero_iff
def a0o:=@List.mem_iff_getElem
def a0p:=@PyProof.Rows.boot_tuple
def a0q:=@Nat.lt_or_ge
def a0r:=@Int.natCast_emod
def a0s:=@Nat.le_of_lt
def a0t:=@List.filterMap_cons
def a0u:=@List.of_mem_zip
def a0v:=@PySem.F.entry_dict_get
def a0w:=@Option.getD_none
def a0x:=@PySem.Heap.get?_update_other
def a0y:=@List.length_reverse
def a0z:=@Bool.false_eq_true
def a1a:=@Nat.min_eq_right
def a1b:=@List.take_nil
def a1c:=@List.drop_eq_nil_of_le
def a1d:=@Array.getElem?_eq_getElem
def a1e:=@Nat.div_le_self
def a1f:=@Nat.ble_eq_true_of_le
def a1g:=@List.foldl_append
def a1h:=@Int.ediv_eq_zero_of_lt
def a1i:=@List.drop_append_of_le_length
def a1j:=@List.getElem?_take
def a1k:=@PySem.F.slot_list_index
def a1l:=@Int.natAbs_of_nonneg
def a1m:=@Int.natCast_pow
def a1n:=@Int.ofNat_lt
def a1o:=@List.mem_flatMap
def a1p:=@List.flatMap_append
def a1q:=@Int.zero_lt_one
def a1r:=@List.take_add
def a1s:=@List.pairwise_map
def a1t:=@List.nodup_range
def a1u:=@PySem.Heap.get?_none_of_le
def a1v:=@List.getElem?_set_self
def a1w:=@List.getElem?_set_ne
def a1x:=@Int.fdiv_eq_ediv_of_nonneg
def a1y:=@PyProof.noPylong_small
def a1z:=@Option.isSome_iff_exists
def a2a:=@PySem.F.slot_dict_getitem
def a2b:=@PySem.F.args_dict_get_2
def a2c:=@PySem.F.plainAttrs_dict
def a2d:=@PySem.F.type_dict_get
def a2e:=@Array.getElem?_eq_some_iff
def a2f:=@List.append_cancel_left
def a2g:=@List.getElem?_reverse
def a2h:=@Int.mul_lt_mul_of_pos_right
def a2i:=@Int.ediv_lt_of_lt_mul
def a2j:=@PySem.F.slot_tuple_index
def a2k:=@List.take_append_of_le_length
def a2l:=@Array.mem_toList_iff
def a2m:=@List.getElem?_of_mem
def a2n:=@PyProof.Rows.boot_int
def a2o:=@List.filter_eq_nil_iff
def a2p:=@List.getElem?_eq_none_iff
def a2q:=@Nat.mod_two_eq_zero_or_one
def a2r:=@List.Nodup.length_le_of_subset
def a2s:=@PySem.F.type_list_index
def a2t:=@PySem.F.slot_list_insert
def a2u:=@PySem.F.type_list_insert
def a2v:=@List.Sublist.append
def a2w:=@List.sublist_append_left
def a2x:=@List.forall_mem_cons
def kb:=@PySem.wpAny_bind
def no:=@PySem.wpAny_pure
def on:=@if_neg
def aaa:=@if_pos
def aab:=@absurd
def aac:=@of_decide_eq_true
def aad:=@decide_eq_true
def aae:=@decide_eq_false
abbrev f6:=List Int
abbrev g0:=PySem.Shared
namespace L2
open PySem PySem.Spec PyProof.Rows
abbrev aU:=Sum Int Str
def mM:aU->Value->Bool
 | .inl k,v=>Value.isInt k v
 | .inr x,v=>Value.isStrOf x v
def Pt(w:World):aU->Int
 | .inl k=>hashInt k
 | .inr x=>hashStr w x
theorem iu:∀ {k:aU} {v:Value},mM k v=true->(∃i t,k=Sum.inl i/\v=Value.int i t)\/(∃x t,k=Sum.inr x/\v=Value.str x t)
 | .inl i,v,h=>by
  obtain⟨t,e⟩:=Value.isInt_shape (k:=i) (v:=v) h;exact .inl ⟨i,t,rfl,e⟩
 | .inr x,v,h=>by
  obtain⟨t,e⟩:=Value.isStrOf_shape (x:=x) (v:=v) h;exact .inr ⟨x,t,rfl,e⟩
def Ps(i:Int)(t:Tok):mM (.inl i) (.int i t)=true:=by simp[mM,Value.isInt]
def Pr(x:Str)(t:Tok):mM (.inr x) (.str x t)=true:=by simp[mM,Value.isStrOf]
def Pq(a b:Int):decide ((Sum.inl a:aU)=Sum.inl b)=(a == b):=by
 by_cases e:a=b
 ·subst e;simp
 ·have h:¬(Sum.inl a:aU)=Sum.inl b:=λq=>e (Sum.inl.inj q);rw[aae h];exact (beq_eq_false_iff_ne.mpr e).symm
def Pl(a b:Str):decide ((Sum.inr a:aU)=Sum.inr b)=decide (a=b):=by
 by_cases e:a=b
 ·subst e;simp
 ·have h:¬(Sum.inr a:aU)=Sum.inr b:=λq=>e (Sum.inr.inj q);rw[aae h,aae e]
def Pp(a:Int)(b:Str):decide ((Sum.inl a:aU)=Sum.inr b)=false:=aae (λq=>nomatch q)
def Pn(a:Str)(b:Int):decide ((Sum.inr a:aU)=Sum.inl b)=false:=aae (λq=>nomatch q)
def cy(prog:Program)(w:World):PySem.KeyKind prog w aU where
 is:=mM
 hash:=Pt w
 inj:=λv a b f hb=>by
  rcases iu f with ⟨i,t,rfl,rfl⟩|⟨x,t,rfl,rfl⟩
  ·rcases iu hb with ⟨j,u,rfl,e⟩|⟨y,u,rfl,e⟩
   ·injection e with e1 _;rw[e1]
   ·exact nomatch e
  ·rcases iu hb with ⟨j,u,rfl,e⟩|⟨y,u,rfl,e⟩
   ·exact nomatch e
   ·injection e with e1 _;rw[e1]
 byValue:=λk v h=>by
  rcases iu h with ⟨i,t,rfl,rfl⟩|⟨x,t,rfl,rfl⟩<;>rfl
 pyHash:=λc h=>by
  rcases iu c with ⟨i,t,rfl,rfl⟩|⟨x,t,rfl,rfl⟩
  ·exact wpAny_pyHash_int h
  ·exact wpAny_pyHash_str h
 eqBool:=λd c h=>by
  rcases iu d with ⟨i,t,rfl,rfl⟩|⟨x,t,rfl,rfl⟩
  ·rcases iu c with ⟨j,u,rfl,rfl⟩|⟨y,u,rfl,rfl⟩
   ·rw[Pq]at h;exact wpAny_eqBool_int h
   ·rw[Pp]at h;exact SeqAt.EqAt.int_str i t y u _ _ _ _ h
  ·rcases iu c with ⟨j,u,rfl,rfl⟩|⟨y,u,rfl,rfl⟩
   ·rw[Pn]at h;exact SeqAt.EqAt.str_int x t j u _ _ _ _ h
   ·rw[Pl]at h;exact wpAny_eqBool_str h
 «strs»:=λk x t v h=>by
  rcases iu h with ⟨i,u,rfl,e⟩|⟨y,u,rfl,e⟩
  ·exact nomatch e
  ·injection e with e1 _
   subst e1;cases v<;>rfl
def DT(prog:Program)(w:World)(i:Int)(t:Tok):(cy prog w).is (.inl i) (.int i t)=true:=Ps i t
def DS(prog:Program)(w:World)(x:Str)(t:Tok):(cy prog w).is (.inr x) (.str x t)=true:=Pr x t
inductive V where
 | non|bl (b:Bool)|int (i:Int)|str (x:Str)|byt (b:Array UInt8)|flt (b:UInt64)|ref (a:Addr)|ty (n:String)
 deriving DecidableEq
def aT:V->Value->Prop
 | .non,u=>u=Value.none
 | .bl b,u=>u=Value.bool b
 | .int i,u=>∃t,u=Value.int i t
 | .str x,u=>∃t,u=Value.str x t
 | .byt b,u=>∃t,u=Value.bytes b t
 | .flt b,u=>∃t,u=Value.float b t
 | .ref a,u=>u=Value.ref a
 | .ty n,u=>u=Value.type n
abbrev aM:List V->List Value->Prop:=Paired aT
def aM.length{xs:List V}{us:List Value}(r:aM xs us):xs.length=us.length:=Paired.length r
theorem aM.get:∀ {xs:List V} {us:List Value} {i:Nat} {x:V},aM xs us->xs[i]? = some x->∃u,us[i]? = some u/\aT x u
 | _,_,_,_,.nil,e=>by simp at e
 | _,_,0,_,.cons r _,e=>by simp at e;subst e;exact⟨_,rfl,r⟩
 | _,_,i+1,x,.cons _ t,e=>by
  obtain⟨u,b,a⟩:=aM.get (i:=i) (x:=x) t (by simpa using e);exact⟨u,by simpa using b,a⟩
theorem aM.append:∀ {xs ys:List V} {us a:List Value},aM xs us->aM ys a->aM (xs++ys) (us++a)
 | _,_,_,_,.nil,s=>s
 | _,_,_,_,.cons r t,s=>.cons r (aM.append t s)
theorem aM.take:∀ {xs:List V} {us:List Value} (n:Nat),aM xs us->aM (xs.take n) (us.take n)
 | _,_,0,_=>.nil
 | _,_,_+1,.nil=>.nil
 | _,_,n+1,.cons r t=>.cons r (aM.take n t)
theorem aM.drop:∀ {xs:List V} {us:List Value} (n:Nat),aM xs us->aM (xs.drop n) (us.drop n)
 | _,_,0,r=>r
 | _,_,_+1,.nil=>.nil
 | _,_,n+1,.cons _ t=>aM.drop n t
def dP:Option V->Option Value->Prop
 | some v,some u=>aT v u
 | none,none=>True
 | _,_=>False
def KV{κ:Type}:List (κ × V)->List (κ × Value)->Prop:=Paired λ(p:κ × V) (q:κ × Value)=>p.1=q.1/\aT p.2 q.2
def kV:aU->V
 | .inl i=>.int i
 | .inr x=>.str x
inductive HO where
 | lst (xs:List V)
 | tup (xs:List V)
 | dK (kvs:List (aU × V))|dT (kvs:List (List aU × V))
 | set (S:Int->Bool) (n:Nat)
 | ins (C dx:Addr) (fs:List (Str × V))
 | own (x:Addr)
 | xd (fs:List (Str × V))
 | met (f x:Addr)
 | rng (lo hi:Int)
 | frz (o:Obj) (u:HO)
 | tbl (ps:Array Value)
 | ext (φ:Heap->Prop)
abbrev Hp:=Addr->Option HO
def upd(H:Hp)(a:Addr)(o:HO):Hp:=λb=>if b=a then some o else H b
def aJ{H:Hp}{a:Addr}{o:HO}:upd H a o a=some o:=by unfold upd;rw[aaa rfl]
def ay{H:Hp}{a b:Addr}{o:HO}(h:b≠a):upd H a o b=H b:=by unfold upd;rw[on h]
def NK{H:Hp}{a b:Addr}{o u:HO}(h:H a=some o)(h':H b=some u)(d:o≠u):a≠b:=by
 intro e;subst e;rw[h]at h';exact d (YL h')
def aI{H:Hp}{a b:Addr}{o:HO}(h:H a=some o)(h':H b=none):a≠b:=by
 intro e;subst e;rw[h]at h';cases h'
section
variable (P:Program)(w:World)
def ci(H:Hp)(h:Heap)(a:Addr):HO->Prop
 | .lst xs=>xs.length<=sizeLine/\∃(b:List Value) (n:Nat),aM xs b/\h.get? a=some { cls:=.type "list",data:=.seq b.toArray n }
 | .tup xs=>xs.length<=sizeLine/\∃b:List Value,aM xs b/\IsTup h a b.toArray
 | .dK kvs=>kvs.length<=sizeLine/\(a == sysModules)=false/\∃vs,KV kvs vs/\h.DictOf (cy P w) a vs
 | .dT kvs=>kvs.length<=sizeLine/\(a == sysModules)=false/\∃xs:List (List aU × Addr × Value),
  Paired (λ(p:List aU × V) (q:List aU × Addr × Value)=>p.1=q.1/\H q.2.1=some (.tup (p.1.map kV))/\aT p.2 q.2.2) kvs xs /\
  ∃o es ep,h.get? a=some o/\o.ExactDict/\o.data=.dict es ep/\es.toList=xs.map (entryOfKey (tupleKind (cy P w)))/\(xs.map (·.1)).Nodup
 | .set S n=>h.SetOf (intKind P w) a S n
 | .ins C dx fs=>H dx=some (.own a)/\fs.length<=1000/\dx≠a/\h.get? a=some (W.instObj C dx) /\
  ∃mA,h.Ns1 dx mA/\(∀f,dP (fs.lookup f) (mA f))/\PySem.Within mA (fs.map (·.1))
 | .own _=>∃o,h.get? a=some o
 | .xd fs=>∃mA,h.Ns1 a mA/\∀f,dP (fs.lookup f) (mA f)
 | .rng lo hi=>∃t u v,h.get? a=some { cls:=.type "range",data:=.fields #[.int lo t,.int hi u,.int 1 v] }
 | .frz o u=>h.get? a=some o/\ci H h a u
 | .tbl ps=>h.get? a=some { cls:=.none,data:=.fields ps }
 | .met f x=>h.get? a=some (W.methodObj (.ref f) (.ref x))
 | .ext φ=>φ h/\(∃o,h.get? a=some o)/\∀h1 h2:Heap,φ h1->(∀o,h1.get? a=some o->h2.get? a=some o)->φ h2
def bT(H:Hp)(h:Heap):Prop:=∀a o,H a=some o->ci P w H h a o
end
section
variable {P:Program}{w:World}{H H':Hp}{h h':Heap}{a:Addr}{o:HO}
def ci.lt(x:ci P w H h a o):a<h.objs.size:=by
 cases o with
 | lst xs=>obtain⟨_,_,_,_,e⟩:=x;exact Ys e
 | tup xs=>obtain⟨_,_,_,p⟩:=x;exact p.lt
 | dK kvs=>obtain⟨_,_,_,_,o,_,_,e,_⟩:=x;exact Ys e
 | dT kvs=>obtain⟨_,_,_,_,o,_,_,e,_⟩:=x;exact Ys e
 | set S n=>obtain⟨o,_,_,_,e,_⟩:=x;exact Ys e
 | ins C dx fs=>obtain⟨_,_,_,e,_⟩:=x;exact Ys e
 | own y=>obtain⟨_,e⟩:=x;exact Ys e
 | xd fs=>obtain⟨_,⟨_,_,_,e,_⟩,_⟩:=x;exact Ys e
 | rng lo hi=>obtain⟨_,_,_,e⟩:=x;exact Ys e
 | frz ob u=>obtain⟨e,_⟩:=x;exact Ys e
 | tbl ps=>exact Ys (show h.get? a=some _ from x)
 | met f y=>exact Ys (show h.get? a=some _ from x)
 | ext φ=>obtain⟨_,⟨_,e⟩,_⟩:=x;exact Ys e
theorem Paired.mapP{α β:Type}{F G:α->β->Prop}:∀ {l₁:List α} {l₂:List β},Paired F l₁ l₂->(∀a b,F a b->G a b)->Paired G l₁ l₂
 | _,_,.nil,_=>.nil
 | _,_,.cons r t,f=>.cons (f _ _ r) (Paired.mapP t f)
def ci.stay(x:ci P w H h a o)(k:∀b u,(b=a\/H b=some (.own a))->h.get? b=some u->h'.get? b=some u)
 (s:∀b,H b=some (.own a)->H' b=some (.own a)) (D:∀b xs,H b=some (.tup xs)->H' b=some (.tup xs)):ci P w H' h' a o:=by
 induction o with
 | lst xs=>obtain⟨z,l,n,r,e⟩:=x;exact⟨z,l,n,r,k _ _ (.inl rfl) e⟩
 | tup xs=>obtain⟨z,l,r,g,e,c⟩:=x;exact⟨z,l,r,g,k _ _ (.inl rfl) e,c⟩
 | dK kvs=>obtain⟨z,y,vs,r,g,i,j,e,c⟩:=x;exact⟨z,y,vs,r,g,i,j,k _ _ (.inl rfl) e,c⟩
 | dT kvs =>
  obtain⟨z,y,xs,r,g,i,j,e,c⟩:=x;exact⟨z,y,xs,Paired.mapP r λp q z=>⟨z.1,D _ _ z.2.1,z.2.2⟩,g,i,j,k _ _ (.inl rfl) e,c⟩
 | set S n=>obtain⟨g,i,j,t,e,c⟩:=x;exact⟨g,i,j,t,k _ _ (.inl rfl) e,c⟩
 | ins C dx fs =>
  obtain⟨d,z,ne,e,mA,⟨m,i,j,B,c⟩,r⟩:=x;exact⟨s _ d,z,ne,k _ _ (.inl rfl) e,mA,⟨m,i,j,k _ _ (.inr d) B,c⟩,r⟩
 | own y=>obtain⟨g,e⟩:=x;exact⟨g,k _ _ (.inl rfl) e⟩
 | xd fs=>obtain⟨mA,⟨m,i,j,e,c⟩,r⟩:=x;exact⟨mA,⟨m,i,j,k _ _ (.inl rfl) e,c⟩,r⟩
 | rng lo hi=>obtain⟨t,u,v,e⟩:=x;exact⟨t,u,v,k _ _ (.inl rfl) e⟩
 | frz g u ih=>obtain⟨e,q⟩:=x;exact⟨k _ _ (.inl rfl) e,ih q⟩
 | tbl ps =>
  have e:h.get? a=some { cls:=.none,data:=.fields ps }:=x;show h'.get? a=some { cls:=.none,data:=.fields ps };exact k a _ (.inl rfl) e
 | met f y =>
  have e:h.get? a=some (W.methodObj (.ref f) (.ref y)):=x;show h'.get? a=some (W.methodObj (.ref f) (.ref y));exact k a _ (.inl rfl) e
 | ext φ=>obtain⟨p,⟨o,e⟩,st⟩:=x;exact⟨st _ _ p λo q=>k _ _ (.inl rfl) q,⟨o,k _ _ (.inl rfl) e⟩,st⟩
def bT.lt(x:bT P w H h)(e:H a=some o):a<h.objs.size:=(x a o e).lt
def bT.fresh(x:bT P w H h)(e:h.objs.size<=a):H a=none:=by
 cases q:H a with
 | none=>rfl
 | some u=>exact aab (Yn (x.lt q) e) (Y5 _)
def bT.kept(x:bT P w H h)(k:∀b u,h.get? b=some u->h'.get? b=some u):bT P w H h':=λa o e =>
 (x a o e).stay (λb u _ q=>k b u q) (λ_ q=>q) λ_ _ q=>q
def bT.laid(x:bT P w H h)(k:∀b u,h.get? b=some u->h'.get? b=some u)(f:h.objs.size<=a)(new:ci P w (upd H a o) h' a o):bT P w (upd H a o) h':=λb u e=>by
 have d:=x.fresh f;by_cases hb:b=a
 ·subst hb;rw[aJ]at e;cases e;exact new
 ·rw[ay hb]at e;exact (x b u e).stay (λc v _ q=>k c v q) (λc q=>by rw[ay (aI q d)];exact q) λc xs q=>by rw[ay (aI q d)];exact q
end
def Rd(H:Hp)(a:Addr)(u:HO):Prop:=H a=some u\/∃o,H a=some (.frz o u)
def Rd.ok{P:Program}{w:World}{H:Hp}{h:Heap}{a:Addr}{u:HO}(r:Rd H a u)(x:bT P w H h):ci P w H h a u:=by
 rcases r with r|⟨o,r⟩
 ·exact x a u r
 ·obtain⟨_,q⟩:=x a _ r;exact q
def pF:Option HO->Prop
 | some (.lst _)=>True
 | some (.dK _)=>True
 | some (.dT _)=>True
 | some (.set _ _)=>True
 | some (.ins _ _ _)=>True
 | some (.ext _)=>True
 | _=>False
section
variable {P:Program}{w:World}{H:Hp}{h h':Heap}{x e:Addr}{o':HO}
def bT.write(ok:bT P w H h)(f:pF (H x))(he:e=x\/H e=some (.own x))(k:∀b u,b≠e->h.get? b=some u->h'.get? b=some u)(i:∃u,h'.get? e=some u)
 (new:ci P w (upd H x o') h' x o'):bT P w (upd H x o') h':=λb u q=>by
 have a:∀c y,H c=some (.own y)->c≠x:=λc y r z=>by subst z;rw[r]at f;exact f
 have d:∀c xs,H c=some (.tup xs)->c≠x:=λc xs r z=>by subst z;rw[r]at f;exact f
 by_cases hb:b=x
 ·subst hb;rw[aJ]at q;cases q;exact new
 ·rw[ay hb]at q;by_cases hbe:b=e
  ·have j:H b=some (.own x):=by
    rcases he with z|z
    ·exact aab (hbe.trans z) hb
    ·rw[hbe];exact z
   rw[q]at j;cases j;obtain⟨v,l⟩:=i;exact⟨v,by rw[hbe];exact l⟩
  ·refine (ok b u q).stay (λc v g r=>k c v ?_ r) (λc r=>by rw[ay (a c b r)];exact r) λc xs r=>by rw[ay (d c xs r)];exact r
   rcases g with rfl|g
   ·exact hbe
   ·rintro rfl;rcases he with z|z
    ·exact a c b g z
    ·rw[g]at z;cases z;exact hb rfl
end
structure Un (fs ex:List Addr) (H H':Hp) (h h':Heap):Prop where
 keep:∀b o,h.get? b=some o->H b=none->b∉fs->b∉ex->h'.get? b=some o
 slot:∀b o,h.get? b=some o->H b=none->b∈fs->b∉ex->∃sl,h'.get? b=some { o with slots:=sl }
 free:∀b o,h.get? b=some o->H b=none->b∉ex->H' b=none
 there:∀b o,h.get? b=some o->b∉ex->∃o',h'.get? b=some o'
 tups:∀b xs,H b=some (.tup xs)->H' b=some (.tup xs)
 frzs:∀b o u,H b=some (.frz o u)->H' b=some (.frz o u)
 tbls:∀b ps,H b=some (.tbl ps)->∃more,H' b=some (.tbl (ps++more))
section
variable {fs fs' ex ex':List Addr}{H H1 H2:Hp}{h h1 h2 h':Heap}{a x e:Addr}{o:HO}
def Un.any(u:Un fs ex H H1 h h1){b:Addr}{a:Obj}(q:h.get? b=some a)(n:H b=none)(hx:b∉ex):∃sl,h1.get? b=some { a with slots:=sl }:=by
 by_cases hb:b∈fs
 ·exact u.slot b a q n hb hx
 ·exact⟨a.slots,u.keep b a q n hb hx⟩
def Un.kept(k:∀b u,h.get? b=some u->h'.get? b=some u):Un fs ex H H h h' :=
 ⟨λb a q _ _ _=>k b a q,λb a q _ _ _=>⟨a.slots,k b a q⟩,λ_ _ _ n _=>n,λb a q _=>⟨a,k b a q⟩,λ_ _ q=>q,λ_ _ _ q=>q,λ_ ps q=>⟨#[],by rw[q];simp⟩⟩
def Un.refl:Un fs ex H H h h:=Un.kept λ_ _ q=>q
def Un.laid(k:∀b u,h.get? b=some u->h'.get? b=some u)(d:h.objs.size<=a)(c:H a=none):Un fs ex H (upd H a o) h h' where
 keep:=λb u q _ _ _=>k b u q
 slot:=λb u q _ _ _=>⟨u.slots,k b u q⟩
 free:=λb u q n _=>by rw[ay (YB (Yn (Ys q) d))];exact n
 there:=λb u q _=>⟨u,k b u q⟩
 tups:=λb xs q=>by rw[ay (aI q c)];exact q
 frzs:=λb u xs q=>by rw[ay (aI q c)];exact q
 tbls:=λb ps q=>⟨#[],by rw[ay (aI q c),q];simp⟩
def Un.write(a:pF (H x))(he:e=x\/H e=some (.own x))(k:∀b u,b≠e->h.get? b=some u->h'.get? b=some u)(c:∃u,h'.get? e=some u):Un fs ex H (upd H x o) h h':=by
 have hx:∀b,H b=none->b≠x:=λb n z=>by subst z;rw[n]at a;exact a
 have hb:∀b,H b=none->b≠e:=λb n z=>by
  subst z;rcases he with r|r
  ·exact hx b n r
  ·rw[n]at r;cases r
 have hm:∀b u,H b=some u->¬pF (some u)->b≠x:=λb u q d z=>by subst z;rw[q]at a;exact d a
 refine⟨λb u q n _ _=>k b u (hb b n) q,λb u q n _ _=>⟨u.slots,k b u (hb b n) q⟩,λb u q n _=>by rw[ay (hx b n)];exact n,λb u q _=>?_,
  λb xs q=>by rw[ay (hm b _ q λz=>z)];exact q,λb u xs q=>by rw[ay (hm b _ q λz=>z)];exact q,λb ps q=>⟨#[],by rw[ay (hm b _ q λz=>z),q];simp⟩⟩
 by_cases hbe:b=e
 ·subst hbe;exact c
 ·exact⟨u,k b u hbe q⟩
end
def pM(h:Heap)(H:Hp):List Addr:=(List.range h.objs.size).filter λa=>(H a).isSome
def ix(h:Heap)(H:Hp):Heap:=W.hideAll h (pM h H)
def PX(h:Heap)(H:Hp):(ix h H).objs.size=h.objs.size:=W.hideAll_size _ _
def PY{h:Heap}{H:Hp}{b:Addr}{o:Obj}(e:h.get? b=some o)(n:H b=none):(ix h H).get? b=some o :=
 W.hideAll_get _ e λhm=>by
  have q:(H b).isSome=true:=(List.mem_filter.mp hm).2;rw[n]at q;simp at q
def NJ{h:Heap}{H:Hp}{b:Addr}{o:Obj}(e:(ix h H).get? b=some o):h.get? b=some o/\H b=none:=by
 have e':h.get? b=some o:=W.of_hideAll (pM h H) e;refine⟨e',?_⟩;cases q:H b with
 | none=>rfl
 | some x =>
  have hm:b∈pM h H:=List.mem_filter.mpr ⟨YE.mpr (Ys e'),by simp[q]⟩;have z:(ix h H).get? b=none:=W.hideAll_none (pM h H) hm;rw[z]at e;cases e
def VY(g h:Heap)(L:Addr):List (Addr × Obj):=(List.range h.objs.size).filterMap λa=>if a=L\/(g.get? a).isSome=true then none else (h.get? a).map λo=>(a,o)
def bL(g h:Heap)(L d:Addr):List (Addr × Obj):=(VY g h L).filter λp=>decide (p.1≠d)
structure Mod (K:W.Frag) (mg:Str->Option Value) (base:Heap):Prop where
 kin:K.In base
 glob:base.Ns mainGlobals mg
 blt:∃mb,base.Ns builtinsNs mb/\∀x:Str,x ≠ "__name__"->mb x=bootBuiltins x
 nolimit:base.NoLimit
structure Cx where
 prog:Program
 w:World
 K:W.Frag
 mg:Str->Option Value
 base:Heap
 A:Around
 N:List Str
 s₀:g0
 H₀:Hp
 env:Env
 outer:List Env
 stack:List Env
 ex:List Addr
 fn:Str->Bool
 calm:Bool
 pn:List (Addr × Obj)
 xe:Value->g0->Prop
def dJ(l:List Env):List Addr:=l.filterMap (·.frame)
abbrev Cx.fs(X:Cx):List Addr:=dJ X.outer
def tQ(a:Scope)(x:Str):Prop:=a.names.lookup x=some .local\/a.names.lookup x=some .cell\/a.names.lookup x=some .free
def i7(a:Scope)(x:Str):Prop:=a.names.lookup x=some .local\/a.names.lookup x=some .cell
def We(env:Env)(h:Heap)(m:Str->Option Value)(x:Str)(u:Value):Prop :=
 (env.kindOf x=some .local/\m x=some u)\/((env.kindOf x=some .cell\/env.kindOf x=some .free)/\∃c,env.cells.lookup x=some c/\h.IsCell c (some u))
structure Cx.Ok (X:Cx):Prop where
 mod:Mod X.K X.mg X.base
 kind:X.env.scope.kind=.function
 glob:X.env.globals=mainGlobals
 blt:X.env.builtins=builtinsNs
 above:X.s₀.heap.objs.size<=X.env.locals
 inj:∀x y c,X.env.cells.lookup x=some c->X.env.cells.lookup y=some c->x=y
 has:∀x,(X.env.kindOf x=some .cell\/X.env.kindOf x=some .free)->∃c,X.env.cells.lookup x=some c
 cab:∀x c,X.fn x=true->X.env.cells.lookup x=some c->X.s₀.heap.objs.size<=c
 hd:X.calm=true->X.A.handled=none
 frames:X.A.frames=some X.stack
 stk:X.stack=X.outer\/(X.stack=X.env::X.outer/\X.env.frame=some X.env.locals)
 exf:∀b∈X.ex,b≠X.env.locals/\∀x c,X.env.cells.lookup x=some c->c≠b
 bs:∀b o,X.base.get? b=some o->X.s₀.heap.get? b=some o/\X.H₀ b=none
 bsz:X.base.objs.size<=X.s₀.heap.objs.size
 noex:∀b o,X.base.get? b=some o->b∉X.ex
 exfs:∀b∈X.ex,b∉X.fs
 funs:X.s₀.heap.FunFrames X.base X.outer
 frf:∀b∈X.fs,X.H₀ b=none
structure ai (X:Cx) (pins:List (Addr × Obj)) (σ:List (Option V)) (H:Hp) (s:g0):Prop where
 ok:X.Ok
 os:s.os=X.s₀.os
 bare:AllBare s.gens
 base:Un X.fs X.ex X.H₀ H X.s₀.heap s.heap
 loc:∃m,s.heap.Ns X.env.locals m/\∀(i:Nat) (x:Str) (v:V),X.N[i]? = some x->σ[i]? = some (some v)->tQ X.env.scope x->∃u,aT v u/\We X.env s.heap m x u
 cell:∀x c,X.env.cells.lookup x=some c->∃v,s.heap.IsCell c v
 free:H X.env.locals=none
 freeC:∀x c,X.env.cells.lookup x=some c->H c=none
 pin:∀p∈X.pn++pins,s.heap.get? p.1=some p.2/\H p.1=none/\p.1≠X.env.locals/\p.1∉X.fs/\∀v,p.2.data ≠ .cell v
 hok:bT X.prog X.w H s.heap
 len:σ.length=X.N.length
section
variable {X:Cx}{pins:List (Addr × Obj)}{σ:List (Option V)}{H H':Hp}{s:g0}{h':Heap}
def Cx.Ok.nofr(ok:X.Ok){b:Addr}{o:Obj}(e:X.base.get? b=some o):b∉X.fs:=λhb=>by
 have:=(ok.funs.mem hb).1;rw[e]at this;cases this
def ai.bs(I:ai X pins σ H s):∀b o,X.base.get? b=some o->s.heap.get? b=some o/\H b=none:=λb o e =>
 ⟨I.base.keep b o (I.ok.bs b o e).1 (I.ok.bs b o e).2 (I.ok.nofr e) (I.ok.noex b o e),I.base.free b o (I.ok.bs b o e).1 (I.ok.bs b o e).2 (I.ok.noex b o e)⟩
def ai.bk(I:ai X pins σ H s):∀b o,X.base.get? b=some o->s.heap.get? b=some o:=λb o e=>(I.bs b o e).1
def ai.mod(I:ai X pins σ H s):Mod X.K X.mg X.base:=I.ok.mod
def ai.kIn(I:ai X pins σ H s):X.K.In s.heap:=I.ok.mod.kin.keeps I.bk
def ai.lt(I:ai X pins σ H s):X.env.locals<s.heap.objs.size:=let ⟨_,hn,_⟩:=I.loc;hn.lt
def ai.sz(I:ai X pins σ H s):X.s₀.heap.objs.size<=s.heap.objs.size:=YK I.ok.above (a0s I.lt)
def ai.nofs(I:ai X pins σ H s){a:Addr}(h:s.heap.objs.size<=a):a∉X.fs:=λhb=>by
 obtain⟨_,o,b,_⟩:=I.ok.funs.mem hb;exact aab (Yn (Ys b) (YK I.sz h)) (Y5 _)
def ai.cne(I:ai X pins σ H s):∀x c,X.env.cells.lookup x=some c->c≠X.env.locals:=λx c e z=>by
 obtain⟨v,o,d,hd⟩:=I.cell x c e;obtain⟨m,⟨f,g,h,b,a,_⟩,_⟩:=I.loc;rw[z,b]at d;cases d;rw[a]at hd;cases hd
def ai.funs(I:ai X pins σ H s):s.heap.FunFrames X.base X.outer:=by
 have all:∀(l:List Env),(∀b∈dJ l,b∈X.fs)->X.s₀.heap.FunFrames X.base l->s.heap.FunFrames X.base l:=by
  intro l
  induction l with
  | nil=>intro _ _;trivial
  | cons env r ih =>
   intro hs hl;obtain⟨f,⟨L,o,a,c,d,hd⟩,hr⟩:=hl;have hL:L∈X.fs:=hs L (by unfold dJ;rw[a0t,a];exact Zo);obtain⟨g,e⟩:=I.base.slot L o d (I.ok.frf L hL) hL λz=>I.ok.exfs L z hL;exact⟨f,⟨L,_,a,c,e,hd⟩,ih (λb hb=>hs b (by unfold dJ;rw[a0t,a];exact Y6 _ hb)) hr⟩
 exact all X.outer (λ_ hb=>hb) I.ok.funs
def ai.stack(I:ai X pins σ H s):s.heap.FunFrames X.base X.stack:=by
 rcases I.ok.stk with e|⟨e,hf⟩
 ·rw[e];exact I.funs
 ·rw[e];obtain⟨m,a,_⟩:=I.loc;refine .cons (by rw[I.ok.kind];decide) hf a ?_ I.funs;exact a1u (YK I.ok.bsz I.ok.above)
def ai.stkSub(I:ai X pins σ H s):∀b∈dJ X.stack,b∈X.env.locals::X.fs:=λb hb=>by
 rcases I.ok.stk with e|⟨e,hf⟩
 ·rw[e]at hb;exact Y6 _ hb
 ·rw[e]at hb;unfold dJ at hb;rw[a0t,hf]at hb;exact hb
def ai.stkFree(I:ai X pins σ H s):∀b∈dJ X.stack,H b=none:=λb hb=>by
 rcases Yz.mp (I.stkSub b hb) with e|hb
 ·rw[e];exact I.free
 ·obtain⟨_,o,a,_⟩:=I.ok.funs.mem hb;exact I.base.free b o a (I.ok.frf b hb) λz=>I.ok.exfs b z hb
def ai.step{g':Array GenState}{t':Nat}{d':Drawn}{ch:List Addr}(I:ai X pins σ H s)
 (f:∀b∈ch,(b∈X.ex\/X.s₀.heap.objs.size<=b)/\b≠X.env.locals/\(∀x c,X.env.cells.lookup x=some c->c≠b)/\∀p∈X.pn++pins,p.1≠b)
 (keep:∀b o,b≠X.env.locals->b∉X.fs->b∉ch->s.heap.get? b=some o->H b=none->h'.get? b=some o)
 (slot:∀b o,b≠X.env.locals->b∈X.fs->b∉ch->s.heap.get? b=some o->H b=none->∃B,h'.get? b=some { o with slots:=B }) (free:∀b o,b∉ch->s.heap.get? b=some o->H b=none->H' b=none)
 (there:∀b o,b∉ch->s.heap.get? b=some o->∃j,h'.get? b=some j)
 (tups:∀b xs,H b=some (.tup xs)->H' b=some (.tup xs)) (frzs:∀b o u,H b=some (.frz o u)->H' b=some (.frz o u)) (tbls:∀b ps,H b=some (.tbl ps)->∃more,H' b=some (.tbl (ps++more)))
 (ns:∀m,s.heap.Ns X.env.locals m->h'.Ns X.env.locals m) (hok:bT X.prog X.w H' h') (M:AllBare g') :
 ai X pins σ H' { s with heap:=h',gens:=g',drawn:=d',toks:=t' }:=by
 have neL:∀b o,X.s₀.heap.get? b=some o->b≠X.env.locals:=λb o e=>YB (Yn (Ys e) I.ok.above);have neC:∀b o,X.s₀.heap.get? b=some o->b∉X.ex->b∉ch:=λb o e hx hb=>by
  rcases (f b hb).1 with z|z
  ·exact hx z
  ·exact aab (Yn (Ys e) z) (Y5 _)
 have cellK:∀x c,X.env.cells.lookup x=some c->∀v,s.heap.IsCell c v->h'.IsCell c v:=λx c e v ⟨o,h,hd⟩=>by
  have a:c∉ch:=λz=>(f c z).2.2.1 x c e rfl;by_cases hc:c∈X.fs
  ·obtain⟨B,q⟩:=slot c o (I.cne x c e) hc a h (I.freeC x c e);exact⟨_,q,hd⟩
  ·exact⟨o,keep c o (I.cne x c e) hc a h (I.freeC x c e),hd⟩
 refine⟨I.ok,I.os,M,⟨λb o e n hb hx=>?_,λb o e n hb hx=>?_,λb o e n hx=>?_,λb o e hx=>?_,λb xs e=>tups b xs (I.base.tups b xs e),λb o xs e=>frzs b o xs (I.base.frzs b o xs e),λb ps e=>?_⟩,?_,λx c e=>?_,?_,λx c e=>?_,λp F=>?_,hok,I.len⟩
 ·exact keep b o (neL b o e) hb (neC b o e hx) (I.base.keep b o e n hb hx) (I.base.free b o e n hx)
 ·obtain⟨B,g⟩:=I.base.slot b o e n hb hx;obtain⟨C,y⟩:=slot b _ (neL b o e) hb (neC b o e hx) g (I.base.free b o e n hx);exact⟨C,y⟩
 ·obtain⟨j,g⟩:=I.base.there b o e hx;exact free b j (neC b o e hx) g (I.base.free b o e n hx)
 ·obtain⟨j,g⟩:=I.base.there b o e hx;exact there b j (neC b o e hx) g
 ·obtain⟨L,g⟩:=I.base.tbls b ps e;obtain⟨J,y⟩:=tbls b _ g;exact⟨L++J,by rw[y,Array.append_assoc]⟩
 ·obtain⟨m,G,hl⟩:=I.loc;refine⟨m,ns m G,λi x v g y N=>?_⟩;obtain⟨u,r,l⟩:=hl i x v g y N;refine⟨u,r,?_⟩;rcases l with l|⟨k,c,e,z⟩
  ·exact .inl l
  ·exact .inr ⟨k,c,e,cellK x c e _ z⟩
 ·obtain⟨v,z⟩:=I.cell x c e;exact⟨v,cellK x c e v z⟩
 ·obtain⟨m,⟨o,_,_,h,_⟩,_⟩:=I.loc;exact free _ o (λz=>(f _ z).2.1 rfl) h I.free
 ·obtain⟨v,o,h,hd⟩:=I.cell x c e;exact free c o (λz=>(f c z).2.2.1 x c e rfl) h (I.freeC x c e)
 ·obtain⟨e,n,ne,D,d⟩:=I.pin p F;have a:p.1∉ch:=λz=>(f p.1 z).2.2.2 p F rfl;exact⟨keep p.1 p.2 ne D a e n,free p.1 p.2 a e n,ne,D,d⟩
def ai.un{t':Nat}(I:ai X pins σ H s)(u:Un X.fs [] H H' s.heap h')(hok:bT X.prog X.w H' h'):ai X pins σ H' { s with heap:=h',toks:=t' }:=by
 obtain⟨m,⟨o,j,k,f,r⟩,_⟩:=id I.loc;obtain⟨i,hL⟩:=u.any f I.free (by simp);exact I.step (g':=s.gens) (d':=s.drawn) (ch:=[]) (λ_ z=>nomatch z) (λb o _ hb _ e n=>u.keep b o e n hb (by simp)) (λb o _ hb _ e n=>u.slot b o e n hb (by simp)) (λb o _ e n=>u.free b o e n (by simp)) (λb o _ e=>u.there b o e (by simp)) u.tups u.frzs u.tbls (λm' hm=>by
  obtain⟨h,c,d,a,g⟩:=hm;rw[f]at a;cases a;exact⟨_,c,d,hL,g⟩) hok I.bare
def ai.call{g':Array GenState}{t':Nat}{d':Drawn}{ch:List Addr}(I:ai X pins σ H s)(u:Un (dJ X.stack) ch H H' s.heap h')(hok:bT X.prog X.w H' h')(k:AllBare g')
 (f:∀b∈ch,(b∈X.ex\/X.s₀.heap.objs.size<=b)/\b≠X.env.locals/\(∀x c,X.env.cells.lookup x=some c->c≠b)/\∀p∈X.pn++pins,p.1≠b) :
 ai X pins σ H' { s with heap:=h',gens:=g',drawn:=d',toks:=t' }:=by
 obtain⟨m,⟨o,y,v,i,r⟩,_⟩:=id I.loc;obtain⟨q,hL⟩:=u.any i I.free λz=>(f _ z).2.1 rfl;exact I.step (ch:=ch) f (λb o hL hb a e n=>u.keep b o e n (λz=>(Yz.mp (I.stkSub b z)).elim hL hb) a) (λb o _ _ a e n=>u.any e n a) (λb o a e n=>u.free b o e n a) (λb o a e=>u.there b o e a) u.tups u.frzs u.tbls (λm' hm=>by
  obtain⟨l,g,h,d,j⟩:=hm;rw[i]at d;cases d;exact⟨_,g,h,hL,j⟩) hok k
def ai.turned{t':Nat}{it:Addr}(I:ai X pins σ H s)(k:∀b o,b≠it->s.heap.get? b=some o->h'.get? b=some o)(f:H it=none)(hL:it≠X.env.locals)
 (h:it∈X.ex\/X.s₀.heap.objs.size<=it) (g:∀x c,X.env.cells.lookup x=some c->c≠it) (y:∀p∈X.pn++pins,p.1≠it):ai X pins σ H { s with heap:=h',toks:=t' }:=by
 have d:∀b u,H b=some u->b≠it:=λb u e z=>by rw[z,f]at e;cases e
 refine I.step (g':=s.gens) (d':=s.drawn) (ch:=[it]) (λb hb=>?_) (λb o _ _ a e _=>k b o (λz=>a (by simp[z])) e) (λb o _ _ a e _=>⟨o.slots,k b o (λz=>a (by simp[z])) e⟩) (λ_ _ _ _ n=>n)
  (λb o a e=>⟨o,k b o (λz=>a (by simp[z])) e⟩) (λ_ _ e=>e) (λ_ _ _ e=>e) (λb ps e=>⟨#[],by rw[e];simp⟩) (λm hm=>?_) (λb u e=>?_) I.bare
 ·have e:b=it:=by simpa using hb
  subst e;exact⟨h,hL,g,y⟩
 ·obtain⟨o,j,l,i,r⟩:=hm;exact⟨o,j,l,k _ o (Ne.symm hL) i,r⟩
 ·refine (I.hok b u e).stay (λc v a q=>k c v ?_ q) (λ_ q=>q) λ_ _ q=>q;rcases a with z|z
  ·rw[z];exact d b u e
  ·exact d c _ z
def ai.tok(I:ai X pins σ H s)(t:Nat):ai X pins σ H { s with toks:=t }:=I.un (h':=s.heap) (t':=t) Un.refl I.hok
def ai.kept{t':Nat}(I:ai X pins σ H s)(k:∀b u,s.heap.get? b=some u->h'.get? b=some u):ai X pins σ H { s with heap:=h',toks:=t' }:=I.un (Un.kept k) (I.hok.kept k)
def ai.laid{a:Addr}{o:HO}{t':Nat}(I:ai X pins σ H s)(k:∀b u,s.heap.get? b=some u->h'.get? b=some u)(c:s.heap.objs.size<=a)(new:ci X.prog X.w (upd H a o) h' a o) :
 ai X pins σ (upd H a o) { s with heap:=h',toks:=t' }:=I.un (Un.laid k c (I.hok.fresh c)) (I.hok.laid k c new)
def ai.write{x e:Addr}{o:HO}{t':Nat}(I:ai X pins σ H s)(c:pF (H x))(he:e=x\/H e=some (.own x))(k:∀b u,b≠e->s.heap.get? b=some u->h'.get? b=some u)(a:∃u,h'.get? e=some u)
 (new:ci X.prog X.w (upd H x o) h' x o):ai X pins σ (upd H x o) { s with heap:=h',toks:=t' }:=I.un (Un.write c he k a) (I.hok.write c he k a new)
def ai.pins_of{a:List (Addr × Obj)}(I:ai X pins σ H s)(h:∀p∈a,s.heap.get? p.1=some p.2/\H p.1=none/\p.1≠X.env.locals/\p.1∉X.fs/\∀v,p.2.data ≠ .cell v):ai X a σ H s :=
 ⟨I.ok,I.os,I.bare,I.base,I.loc,I.cell,I.free,I.freeC,λp b=>(Yx.mp b).elim (λz=>I.pin p (Y1 _ z)) (h p),I.hok,I.len⟩
def DF{N:List Str}(hN:N.Nodup){i j:Nat}{x:Str}(a:N[i]? = some x)(b:N[j]? = some x):i=j:=by
 obtain⟨f,c⟩:=Yr.mp a;obtain⟨e,d⟩:=Yr.mp b;exact (List.getElem_inj hN).mp (c.trans d.symm)
def Ca{M:Model}{A:Around}{E:Value->g0->Prop}{i:Nat}{x:Str}{v:V}{u:Value}{Q:Unit->g0->Prop}(I:ai X pins σ H s)(hN:X.N.Nodup)(O:X.N[i]? = some x)(hx:i7 X.env.scope x)(r:aT v u)
 (h:∀s',ai X pins (σ.set i (some v)) H s'->(∃a,Heap.SameBut a s.heap s'.heap/\(a=X.env.locals\/X.env.cells.lookup x=some a))->Q () s') (hf:X.fn x=true\/X.env.scope.names.lookup x=some .local:=by first|exact .inl rfl|exact .inr rfl|assumption):wpAny M A (storeName X.env x u) Q E s:=by
 obtain⟨m,hn,hl⟩:=id I.loc;have J:(X.env.scope.kind == .class || (X.env.scope.kind == .module && X.env.locals != X.env.globals))=false:=by rw[I.ok.kind];rfl
 have R:i<σ.length:=by rw[I.len];exact (Yr.mp O).1
 have cne:=I.cne;have f:∀ {a:Addr} {h':Heap},(∃o,s.heap.get? a=some o/\H a=none)->Heap.SameBut a s.heap h'->bT X.prog X.w H h':=λ{a h'} ha hs b ob e=>by
  obtain⟨_,_,B⟩:=ha;refine (I.hok b ob e).stay (λc U l q=>(hs.2 c ?_).trans q) (λ_ q=>q) λ_ _ q=>q;rintro rfl;rcases l with rfl|l
  ·rw[B]at e;cases e
  ·rw[B]at l;cases l
 rcases hx with hk|hk
 ·refine wpAny_storeName_local hk hn (λh' a5 hs=>?_) J;obtain⟨oL,_,_,hoL,_⟩:=id hn;refine h _ ⟨I.ok,I.os,I.bare,⟨λb o e n hb hx=>?_,λb o e n hb hx=>?_,I.base.free,λb o e hx=>?_,I.base.tups,I.base.frzs,I.base.tbls⟩,⟨_,a5,λj y v' g C e3=>?_⟩,λy c e=>?_,I.free,I.freeC,λp W=>?_,f ⟨oL,hoL,I.free⟩ hs,by simpa using I.len⟩ ⟨_,hs,.inl rfl⟩
  ·exact (hs.2 b (YB (Yn (Ys e) I.ok.above))).trans (I.base.keep b o e n hb hx)
  ·obtain⟨Y,g⟩:=I.base.slot b o e n hb hx;exact⟨Y,(hs.2 b (YB (Yn (Ys e) I.ok.above))).trans g⟩
  ·obtain⟨o',g⟩:=I.base.there b o e hx;exact⟨o',(hs.2 b (YB (Yn (Ys e) I.ok.above))).trans g⟩
  ·by_cases hj:j=i
   ·subst hj;rw[O]at g;cases g;rw[a1v R]at C;cases C;exact⟨u,r,.inl ⟨hk,by simp⟩⟩
   ·rw[a1w (Ne.symm hj)]at C;obtain⟨u',r',q⟩:=hl j y v' g C e3;refine⟨u',r',?_⟩;rcases q with ⟨k,e⟩|⟨k,c,e,z⟩
    ·refine .inl ⟨k,?_⟩;have:y≠x:=λe=>hj (DF hN g (e ▸ O));simp[this,e]
    ·exact .inr ⟨k,c,e,z.sameBut hs (cne y c e)⟩
  ·obtain⟨U,z⟩:=I.cell y c e;exact⟨U,z.sameBut hs (cne y c e)⟩
  ·obtain⟨e,n,ne,nf,d⟩:=I.pin p W;exact⟨(hs.2 p.1 ne).trans e,n,ne,nf,d⟩
 ·have D:X.fn x=true:=by
   rcases hf with z|z
   ·exact z
   ·rw[z]at hk;cases hk
  obtain⟨c,l⟩:=I.ok.has x (.inl hk);obtain⟨U,z⟩:=I.cell x c l;refine wpAny_storeName_cell I.ok.kind hk l z (λh' F hs=>?_);obtain⟨oc,L,G⟩:=id z;refine h { s with heap:=h' } ⟨I.ok,I.os,I.bare,⟨λb o e n hb hx=>?_,λb o e n hb hx=>?_,I.base.free,λb o e hx=>?_,I.base.tups,I.base.frzs,I.base.tbls⟩,⟨m,hn.sameBut hs (Ne.symm (cne x c l)),λj y v' g C e3=>?_⟩,λy S e=>?_,I.free,I.freeC,λp W=>?_,f ⟨oc,L,I.freeC x c l⟩ hs,by simpa using I.len⟩ ⟨c,hs,.inr l⟩
  ·exact (hs.2 b (YB (Yn (Ys e) (I.ok.cab x c D l)))).trans (I.base.keep b o e n hb hx)
  ·obtain⟨Y,g⟩:=I.base.slot b o e n hb hx;exact⟨Y,(hs.2 b (YB (Yn (Ys e) (I.ok.cab x c D l)))).trans g⟩
  ·obtain⟨o',g⟩:=I.base.there b o e hx;exact⟨o',(hs.2 b (YB (Yn (Ys e) (I.ok.cab x c D l)))).trans g⟩
  ·by_cases hj:j=i
   ·subst hj;rw[O]at g;cases g;rw[a1v R]at C;cases C;exact⟨u,r,.inr ⟨.inl hk,c,l,F⟩⟩
   ·rw[a1w (Ne.symm hj)]at C;obtain⟨u',r',q⟩:=hl j y v' g C e3;refine⟨u',r',?_⟩;rcases q with q|⟨k,S,e,z'⟩
    ·exact .inl q
    ·refine .inr ⟨k,S,e,z'.sameBut hs ?_⟩;rintro rfl;exact hj (DF hN g (I.ok.inj _ _ _ e l ▸ O))
  ·by_cases hcc:S=c
   ·subst hcc;exact⟨_,F⟩
   ·obtain⟨w2,z2⟩:=I.cell y S e;exact⟨w2,z2.sameBut hs hcc⟩
  ·obtain⟨e,n,ne,nf,d⟩:=I.pin p W;refine⟨(hs.2 p.1 ?_).trans e,n,ne,nf,d⟩;intro q;rw[q,L]at e;have q':oc=p.2:=YL e;exact d U (by rw[<- q'];exact G)
def Cb{M:Model}{A:Around}{E:Value->g0->Prop}{i:Nat}{x:Str}{v:V}{u:Value}{Q:Unit->g0->Prop}(I:ai X pins σ H s)(hN:X.N.Nodup)(c:X.N[i]? = some x)(hx:i7 X.env.scope x)(r:aT v u)
 (h:∀a,ai X pins (σ.set i (some v)) H a->Q () a) (b:X.fn x=true\/X.env.scope.names.lookup x=some .local:=by first|exact .inl rfl|exact .inr rfl|assumption):wpAny M A (storeName X.env x u) Q E s :=
 Ca I hN c hx r (λa d _=>h a d) b
def ai.call'{a:g0}{ch:List Addr}(I:ai X pins σ H s)(g:a.os=s.os)(u:Un (dJ X.stack) ch H H' s.heap a.heap)(hok:bT X.prog X.w H' a.heap)(h:AllBare a.gens)
 (d:∀b∈ch,(b∈X.ex\/X.s₀.heap.objs.size<=b)/\b≠X.env.locals/\(∀x c,X.env.cells.lookup x=some c->c≠b)/\∀p∈X.pn++pins,p.1≠b):ai X pins σ H' a:=by
 obtain⟨h',g',d',t',f⟩:=a;have e:f=s.os:=g;subst e;exact I.call (g':=g') (t':=t') (d':=d') u hok h d
end
abbrev XK:=Value->Option Addr->Hp->Prop
abbrev St:=List (Option V)
abbrev VK:=V->Hp->Prop
abbrev TE:=St->Hp->VK->Prop
abbrev TT:=St->Hp->(Bool->Hp->Prop)->Prop
abbrev TA:=St->Hp->(List V->Hp->Prop)->Prop
structure fN where
 nx:St->Hp->Prop
 rt:VK
 bk:St->Hp->Prop:=λ_ _=>False
 ct:St->Hp->Prop:=λ_ _=>False
abbrev TS:=fN->St->Hp->Prop
def EP(X:Cx)(a:List (Addr × Obj))(σ:St)(Q:VK)(u:Value)(b:g0):Prop:=∃v H',ai X a σ H' b/\aT v u/\Q v H'
def TP(X:Cx)(a:List (Addr × Obj))(σ:St)(Q:Bool->Hp->Prop)(b:Bool)(c:g0):Prop:=∃H',ai X a σ H' c/\Q b H'
def AP(X:Cx)(a:List (Addr × Obj))(σ:St)(Q:List V->Hp->Prop)(us:List Value)(b:g0):Prop:=∃vs H',ai X a σ H' b/\aM vs us/\Q vs H'
def SP(X:Cx)(a:List (Addr × Obj))(D:fN)(f:Flow)(b:g0):Prop :=
 match f with
 | .next=>∃σ' H',ai X a σ' H' b/\D.nx σ' H'
 | .brk=>∃σ' H',ai X a σ' H' b/\D.bk σ' H'
 | .cont=>∃σ' H',ai X a σ' H' b/\D.ct σ' H'
 | .ret u=>∃v σ' H',ai X a σ' H' b/\aT v u/\D.rt v H'
def PE(X:Cx)(e:Expr)(t:TE):Prop :=
 ∀(a:List (Addr × Obj)) (s:g0) (σ:St) (H:Hp) (Q:VK),ai X a σ H s->t σ H Q->wpAny (model X.prog X.w) X.A (eval e X.env) (EP X a σ Q) X.xe s
def PT(X:Cx)(e:Expr)(t:TT):Prop :=
 ∀(a:List (Addr × Obj)) (s:g0) (σ:St) (H:Hp) (Q:Bool->Hp->Prop),ai X a σ H s->t σ H Q->wpAny (model X.prog X.w) X.A (isTrue e X.env (eval e X.env)) (TP X a σ Q) X.xe s
def PW(X:Cx)(e:Expr)(t:TT):Prop :=
 ∀(b:Sem Value) (a:List (Addr × Obj)) (s:g0) (σ:St) (H:Hp) (Q:Bool->Hp->Prop),ai X a σ H s->t σ H Q->wpAny (model X.prog X.w) X.A (isTrue e X.env b) (TP X a σ Q) X.xe s
def PW.pt{X:Cx}{e:Expr}{t:TT}(h:PW X e t):PT X e t:=h _
def PA(X:Cx)(b:List Expr)(t:TA):Prop :=
 ∀(pos:Pos) (a:List (Addr × Obj)) (s:g0) (σ:St) (H:Hp) (Q:List V->Hp->Prop),ai X a σ H s->t σ H Q->wpAny (model X.prog X.w) X.A (spliced (backTo pos (starEach b X.env))) (AP X a σ Q) X.xe s
def PS(X:Cx)(st:Stmt)(t:TS):Prop :=
 ∀(a:List (Addr × Obj)) (s:g0) (σ:St) (H:Hp) (D:fN),ai X a σ H s->t D σ H->wpAny (model X.prog X.w) X.A (exec st X.env) (SP X a D) X.xe s
def fo(X:Cx)(st:List Stmt)(t:TS):Prop :=
 ∀(a:List (Addr × Obj)) (s:g0) (σ:St) (H:Hp) (D:fN),ai X a σ H s->t D σ H->wpAny (model X.prog X.w) X.A (execs st X.env) (SP X a D) X.xe s
def aB{α:Type}{t:Sem α}{Q b:α->g0->Prop}{M:Model}{A:Around}{E:Value->g0->Prop}{s:g0}(h:wpAny M A t Q E s)(hQ:∀a s,Q a s->b a s):wpAny M A t b E s:=wpAny_mono h hQ λ_ _ x=>x
section
variable {X:Cx}
def IP(i:Nat):TE:=λσ H Q=>∃v,σ[i]? = some (some v)/\Q v H
def tC(v:V):TE:=λ_ H Q=>Q v H
def MK {i:Nat} {x:Str} {pos:Pos} (hN:X.N[i]? = some x) (f:tQ X.env.scope x) (hd:(x == ("__debug__" : Str))=false:=by decide) (b:(x == ("__classdict__" : Str))=false:=by decide):PE X (.Name x pos) (IP i):=by
 intro a s σ H Q I h;obtain⟨v,e,h⟩:=h;obtain⟨m,d,hl⟩:=I.loc;obtain⟨u,r,l⟩:=hl i x v hN e f;have fin:EP X a σ Q u s:=⟨v,H,I,r,h⟩;rcases l with ⟨hk,hm⟩|⟨hk,c,hc,hcell⟩
 ·exact wpAny_Name (wpAny_loadName_local I.ok.kind hk d hm fin) hd
 ·rcases hk with hk|hk
  ·exact wpAny_Name (wpAny_loadName_cell I.ok.kind hk hc hcell fin) hd
  ·exact wpAny_Name (wpAny_loadName_free I.ok.kind hk hc hcell fin b) hd
def qk{i j pos}:PE X (.Constant (.int i) j pos) (tC (.int i)):=λ_ _ _ H _ I h=>wpAny_Constant_int ⟨.int i,H,I.tok _,⟨_,rfl⟩,h⟩
def Ds{b j pos}:PE X (.Constant (.bool b) j pos) (tC (.bl b)):=λ_ _ _ H _ I h=>Constant_bool ⟨.bl b,H,I,rfl,h⟩
def Do{j pos}:PE X (.Constant .none j pos) (tC .non):=λ_ _ _ H _ I h=>Constant_none ⟨.non,H,I,rfl,h⟩
def Dn{x j pos}:PE X (.Constant (.str x) j pos) (tC (.str x)):=λ_ _ _ H _ I h=>Calls.Constant_str ⟨.str x,H,I.tok _,⟨_,rfl⟩,h⟩
def Gl(X:Cx)(x:Str):Prop:=X.env.kindOf x=some .globalImplicit
def nX{E:Value->g0->Prop}{a:List (Addr × Obj)}{s:g0}{σ:St}{H:Hp}{x:Str}{u:Value}{pos:Pos}{Q:Value->g0->Prop}(I:ai X a σ H s)(b:Gl X x)(hm:X.mg x=some u)(h:Q u s)
 (hd:(x == ("__debug__" : Str))=false:=by decide):wpAny (model X.prog X.w) X.A (eval (.Name x pos) X.env) Q E s :=
 Calls.Name_function_global I.ok.kind b (Calls.loadGlobal_global (by rw[I.ok.glob];exact I.mod.glob.keeps I.bk) hm h) hd
def ir{E:Value->g0->Prop}{a:List (Addr × Obj)}{s:g0}{σ:St}{H:Hp}{x:Str}{u:Value}{pos:Pos}{Q:Value->g0->Prop}(I:ai X a σ H s)(f:Gl X x)(hm:X.mg x=none)(e:bootBuiltins x=some u)(h:Q u s)
 (b:x ≠ "__name__":=by decide) (hd:(x == ("__debug__" : Str))=false:=by decide):wpAny (model X.prog X.w) X.A (eval (.Name x pos) X.env) Q E s:=by
 obtain⟨g,d,c⟩:=I.mod.blt;exact Calls.Name_function_global I.ok.kind f (Calls.loadGlobal_builtin (by rw[I.ok.glob];exact I.mod.glob.keeps I.bk) hm (by rw[I.ok.blt];exact d.keeps I.bk) ((c x b).trans e) h) hd
def Dq {x:Str} {v:V} {u:Value} {pos:Pos} (a:Gl X x) (hm:X.mg x=some u) (r:aT v u) (hd:(x == ("__debug__" : Str))=false:=by decide):PE X (.Name x pos) (tC v) :=
 λ_ _ _ H _ I h=>nX I a hm ⟨v,H,I,r,h⟩ hd
def M8 {x:Str} {v:V} {u:Value} {pos:Pos} (b:Gl X x) (hm:X.mg x=none) (c:bootBuiltins x=some u) (r:aT v u) (a:x ≠ "__name__":=by decide) (hd:(x == ("__debug__" : Str))=false:=by decide):PE X (.Name x pos) (tC v) :=
 λ_ _ _ H _ I h=>ir I b hm c ⟨v,H,I,r,h⟩ a hd
variable {a b:Expr}{ta tb:TE}{pos:Pos}
variable {tA tB':TT}{bL:List Expr}
def B7(t u:TT):TT:=λσ H Q=>t σ H λc a=>if c=true then u σ a Q else Q false a
def BT(t u:TT):TT:=λσ H Q=>t σ H λc a=>if c=true then Q true a else u σ a Q
def BU(t:TT):TT:=λσ H Q=>t σ H λc a=>Q (!c) a
def L4(d:PT X a tA):PW X (.BoolOp .And [a] pos) tA:=by
 intro f b s σ H Q I h;refine isTrue_and (aB (d b s σ H Q I h) λc s1 e=>?_);cases c with
 | true=>exact isTrue_and_nil e
 | false=>exact e
def L1(d:PT X a tA):PW X (.BoolOp .Or [a] pos) tA:=by
 intro f b s σ H Q I h;refine isTrue_or (aB (d b s σ H Q I h) λc s1 e=>?_);cases c with
 | false=>exact isTrue_or_nil e
 | true=>exact e
def L5(j:PT X a tA)(hb:PW X (.BoolOp .And (b::bL) pos) tB'):PW X (.BoolOp .And (a::b::bL) pos) (B7 tA tB'):=by
 intro i d s σ H Q I h;refine isTrue_and (aB (j d s σ H _ I h) λc s1 ⟨e,g,f⟩=>?_);cases c with
 | true=>exact hb i d s1 σ e Q g f
 | false=>exact⟨e,g,f⟩
def L3(j:PT X a tA)(hb:PW X (.BoolOp .Or (b::bL) pos) tB'):PW X (.BoolOp .Or (a::b::bL) pos) (BT tA tB'):=by
 intro i d s σ H Q I h;refine isTrue_or (aB (j d s σ H _ I h) λc s1 ⟨e,g,f⟩=>?_);cases c with
 | true=>exact⟨e,g,f⟩
 | false=>exact hb i d s1 σ e Q g f
def L9(e:PT X a tA):PT X (.UnaryOp .Not a pos) (BU tA):=by
 intro b s σ H Q I h;exact isTrue_not (e b s σ H (λc d=>Q (!c) d) I h)
def MO{op}{t:TE}(h:PE X a t):PE X (.BoolOp op [a] pos) t:=λb s σ H Q I hw=>BoolOp_one (h b s σ H Q I hw)
def BY(t:TT)(b tb:TE):TE:=λσ H Q=>t σ H λc a=>if c=true then b σ a Q else tb σ a Q
def MT{c:Expr}(k:PT X c tA)(j:PE X a ta)(hb:PE X b tb):PE X (.IfExp c a b pos) (BY tA ta tb):=by
 intro e s σ H Q I h;refine wpAny_IfExp (aB (k e s σ H _ I h) λd s1 ⟨f,i,g⟩=>?_);cases d with
 | true=>exact j e s1 σ f Q i g
 | false=>exact hb e s1 σ f Q i g
end
def aG(K:W.Frag)(H:Hp)(a:Addr)(xs:List V):Prop :=
 Rd H a (.lst xs) \/
  ∃(o:Obj) (b:Array Value) (n:Nat),K.lookup a=some o/\o.cls=.type "list"/\o.dict=none/\o.data=.seq b n/\b.size<=sizeLine/\aM xs b.toList
def bq(K:W.Frag)(H:Hp)(a:Addr)(xs:List V):Prop :=
 Rd H a (.tup xs) \/
  ∃(o:Obj) (b:Array Value) (n:Nat),K.lookup a=some o/\o.cls=.type "tuple"/\o.data=.seq b n/\b.size<=sizeLine/\aM xs b.toList
def V7:Value->Option V
 | .none=>some .non
 | .bool b=>some (.bl b)
 | .int i _=>some (.int i)
 | .str x _=>some (.str x)
 | .bytes b _=>some (.byt b)
 | .float b _=>some (.flt b)
 | .ref a=>some (.ref a)
 | .type n=>some (.ty n)
 | _=>none
def aT.abs{x:V}{u:Value}(r:aT x u):V7 u=some x:=by
 cases x with
 | non=>cases r;rfl
 | bl _=>cases r;rfl
 | int _=>obtain⟨t,rfl⟩:=r;rfl
 | str _=>obtain⟨t,rfl⟩:=r;rfl
 | byt _=>obtain⟨t,rfl⟩:=r;rfl
 | flt _=>obtain⟨t,rfl⟩:=r;rfl
 | ref _=>cases r;rfl
 | ty _=>cases r;rfl
def aT.inj{x y:V}{u:Value}(r:aT x u)(q:aT y u):x=y:=YL (r.abs.symm.trans q.abs)
theorem aM.inj:∀ {xs ys:List V} {us:List Value},aM xs us->aM ys us->xs=ys
 | _,_,_,.nil,.nil=>rfl
 | _,_,_,.cons r t,.cons r' t'=>by rw[r.inj r',aM.inj t t']
section
variable {X:Cx}{pins:List (Addr × Obj)}{σ:St}{H:Hp}{s:g0}{a:Addr}{xs ys:List V}
def aG.of{K:W.Frag}(h:H a=some (.lst xs)):aG K H a xs:=.inl (.inl h)
def bq.of{K:W.Frag}(h:H a=some (.tup xs)):bq K H a xs:=.inl (.inl h)
def ai.list(I:ai X pins σ H s)(h:aG X.K H a xs):∃b:List Value,aM xs b/\PlainL s.heap a b.toArray/\xs.length<=sizeLine:=by
 rcases h with h|⟨o,b,n,hk,hc,hd,hs,hz,r⟩
 ·obtain⟨z,b,n,r,e⟩:=h.ok I.hok;exact⟨b,r,⟨_,n,e,rfl,rfl,rfl⟩,z⟩
 ·refine⟨b.toList,r,⟨o,n,I.kIn a o hk,hc,hd,by simpa using hs⟩,?_⟩;have e:=r.length;simp only [Z8]at e;omega
def ai.tuple(I:ai X pins σ H s)(h:bq X.K H a xs):∃b:List Value,aM xs b/\IsTup s.heap a b.toArray/\xs.length<=sizeLine:=by
 rcases h with h|⟨o,b,n,hk,hc,hs,hz,r⟩
 ·obtain⟨z,b,r,p⟩:=h.ok I.hok;exact⟨b,r,p,z⟩
 ·refine⟨b.toList,r,⟨o,I.kIn a o hk,hc,n,by simpa using hs⟩,?_⟩;have e:=r.length;simp only [Z8]at e;omega
def ai.list_inj(I:ai X pins σ H s)(h:aG X.K H a xs)(h':aG X.K H a ys):xs=ys:=by
 obtain⟨b,r,⟨o,n,e,_,_,d⟩,_⟩:=I.list h;obtain⟨its',c,⟨g,f,e',_,_,d'⟩,_⟩:=I.list h';rw[e]at e';cases e';rw[d]at d'
 injection d' with d1 _
 have:b=its':=by simpa using congrArg Array.toList d1
 subst this;exact r.inj c
def ai.tuple_inj(I:ai X pins σ H s)(h:bq X.K H a xs)(h':bq X.K H a ys):xs=ys:=by
 obtain⟨b,r,⟨o,e,_,n,d⟩,_⟩:=I.tuple h;obtain⟨its',c,⟨g,e',_,f,d'⟩,_⟩:=I.tuple h';rw[e]at e';cases e';rw[d]at d'
 injection d' with d1 _
 have:b=its':=by simpa using congrArg Array.toList d1
 subst this;exact r.inj c
end
abbrev Cx.wish(X:Cx)(E:Value->g0->Prop):Cx:={ X with xe:=E }
abbrev Cx.nox(X:Cx):Cx:=X.wish λ_ _=>False
def Cx.Ok.wish{X:Cx}(ok:X.Ok)(E:Value->g0->Prop):(X.wish E).Ok :=
 ⟨ok.mod,ok.kind,ok.glob,ok.blt,ok.above,ok.inj,ok.has,ok.cab,ok.hd,ok.frames,ok.stk,ok.exf,ok.bs,ok.bsz,ok.noex,ok.exfs,ok.funs,ok.frf⟩
def Cx.Ok.unwish{X:Cx}{E:Value->g0->Prop}(ok:(X.wish E).Ok):X.Ok :=
 ⟨ok.mod,ok.kind,ok.glob,ok.blt,ok.above,ok.inj,ok.has,ok.cab,ok.hd,ok.frames,ok.stk,ok.exf,ok.bs,ok.bsz,ok.noex,ok.exfs,ok.funs,ok.frf⟩
section
variable {X:Cx}{pins:List (Addr × Obj)}{σ:St}{H:Hp}{s:g0}{E:Value->g0->Prop}
def ai.wish(I:ai X pins σ H s)(E:Value->g0->Prop):ai (X.wish E) pins σ H s:=⟨I.ok.wish E,I.os,I.bare,I.base,I.loc,I.cell,I.free,I.freeC,I.pin,I.hok,I.len⟩
def ai.unwish(I:ai (X.wish E) pins σ H s):ai X pins σ H s:=⟨I.ok.unwish,I.os,I.bare,I.base,I.loc,I.cell,I.free,I.freeC,I.pin,I.hok,I.len⟩
def SP.unwish{D:fN}{f:Flow}{c:g0}(h:SP (X.wish E) pins D f c):SP X pins D f c:=by
 cases f with
 | next=>obtain⟨a,b,I,q⟩:=h;exact⟨a,b,I.unwish,q⟩
 | brk=>obtain⟨a,b,I,q⟩:=h;exact⟨a,b,I.unwish,q⟩
 | cont=>obtain⟨a,b,I,q⟩:=h;exact⟨a,b,I.unwish,q⟩
 | ret u=>obtain⟨v,a,b,I,r,q⟩:=h;exact⟨v,a,b,I.unwish,r,q⟩
def fo.nox{st:List Stmt}{t:TS}(h:fo X.nox st t):fo X st t:=λa s σ H D I hw =>
 wpAny_mono (h a s σ H D (I.wish _) hw) (λ_ _ q=>q.unwish) λ_ _ z=>False.elim z
end
section
variable {X:Cx}{st:Stmt}{bL:List Stmt}{t u:TS}{e:Expr}{te:TE}{pos:Pos}
def nh:TS:=λD σ H=>D.nx σ H
def m9(t u:TS):TS:=λD σ H=>t { D with nx:=u D } σ H
def Mb:fo X [] nh:=λ_ _ σ H _ I h=>wpAny_execs_nil ⟨σ,H,I,h⟩
def Mc(g:PS X st t)(d:fo X bL u):fo X (st::bL) (m9 t u):=by
 intro a s σ H D I h;refine wpAny_execs_cons (aB (g a s σ H { D with nx:=u D } I h) λf s1 q=>?_);cases f with
 | next =>
  obtain⟨c,e,b,q⟩:=q;exact d a s1 c e D b q
 | ret v=>exact q
 | brk=>exact q
 | cont=>exact q
def Ma(b:PS X st t):fo X [st] t:=by
 intro a s σ H D I h;refine wpAny_execs_cons (aB (b a s σ H D I h) λf s1 q=>?_);cases f with
 | next=>exact wpAny_execs_nil q
 | ret v=>exact q
 | brk=>exact q
 | cont=>exact q
def B6:TS:=λD σ H=>D.bk σ H
def Mp:PS X (.Break pos) B6:=λ_ _ σ H _ I h=>wpAny_Break ⟨σ,H,I,h⟩
def ai.quiet{a:List (Addr × Obj)}{σ:St}{H:Hp}{s:g0}(I:ai X a σ H s):interactive X.env=false:=by simp[interactive,I.ok.kind]
def B1(b:TE):TS:=λD σ H=>b σ H λ_ a=>D.nx σ a
def Mn(he:PE X e te)(hs:swapsWith e none pos.line X.env=pure false:=by rfl):PS X (.Expr e pos) (B1 te):=by
 intro a s σ H D I h;exact wpAny_Expr_any (aB (he a s σ H _ I h) λv s1 ⟨x,b,d,f,c⟩=>⟨σ,b,d,c⟩) I.quiet hs
def BR(a:TE):TS:=λD σ H=>a σ H D.rt
def Mg(he:PE X e te):PS X (.Return (some e) pos) (BR te):=by
 intro a s σ H D I h;exact wpAny_Return_some (aB (he a s σ H _ I h) λv s1 ⟨x,b,f,d,c⟩=>⟨x,σ,b,f,d,c⟩)
def iG(c:TT)(t u:TS):TS:=λD σ H=>c σ H λb a=>if b=true then t D σ a else u D σ a
def Mi{c:Expr}{a b:List Stmt}{j:TT}(l:PT X c j)(k:fo X a t)(hb:fo X b u):PS X (.If c a b pos) (iG j t u):=by
 intro e s σ H D I h;refine wpAny_If (aB (l e s σ H _ I h) λd s1 ⟨f,i,g⟩=>?_);cases d with
 | true=>exact k e s1 σ f D i g
 | false=>exact hb e s1 σ f D i g
def BW:TS:=λ_ _ _=>False
def Mh:PS X st BW:=λ_ _ _ _ _ _ h=>h.elim
end
abbrev TG:=V->St->Hp->(St->Hp->Prop)->Prop
abbrev hZ:=List V->St->Hp->(St->Hp->Prop)->Prop
def PG(X:Cx)(a:Expr)(t:TG):Prop :=
 ∀(b:List (Addr × Obj)) (s:g0) (σ:St) (H:Hp) (v:V) (u:Value) (Q:St->Hp->Prop),ai X b σ H s->aT v u->t v σ H Q ->
  wpAny (model X.prog X.w) X.A (assign a X.env u) (λ_ c=>∃σ' H',ai X b σ' H' c/\Q σ' H') X.xe s
def pC(X:Cx)(ts:List Expr)(t:hZ):Prop :=
 ∀(a:List (Addr × Obj)) (s:g0) (σ:St) (H:Hp) (vs:List V) (us:List Value) (Q:St->Hp->Prop),ai X a σ H s->aM vs us->t vs σ H Q ->
  wpAny (model X.prog X.w) X.A (assignInOrder ((assignEach ts X.env).map (·.2)) us) (λ_ b=>∃σ' H',ai X a σ' H' b/\Q σ' H') X.xe s
section
variable {X:Cx}{pos:Pos}
def eB(i:Nat):TG:=λv σ H Q=>Q (σ.set i (some v)) H
def MJ{i:Nat}{x:Str}(hN:X.N.Nodup)(d:X.N[i]? = some x)(hx:i7 X.env.scope x)(b:X.fn x=true\/X.env.scope.names.lookup x=some .local:=by first|exact .inl rfl|exact .inr rfl|assumption):PG X (.Name x pos) (eB i):=by
 intro a s σ H v u Q I r h;exact wpAny_assign_Name (Cb I hN d hx r (λe c=>⟨_,H,c,h⟩) b)
def vK:hZ:=λvs σ H Q=>vs=[]/\Q σ H
def qT(t:TG)(u:hZ):hZ:=λvs σ H Q=>∃v r,vs=v::r/\t v σ H λa b=>u r a b Q
def MG:pC X [] vK:=by
 intro a s σ H vs us Q I r h;obtain⟨e,h⟩:=h;subst e;cases r;exact assignInOrder_nil ⟨σ,H,I,h⟩
def MH{e:Expr}{b:List Expr}{t:TG}{u:hZ}(g:PG X e t)(f:pC X b u)
 (hs:(assignEach (e::b) X.env).map (·.2)=assign e X.env::(assignEach b X.env).map (·.2):=by rfl):pC X (e::b) (qT t u):=by
 intro a s σ H vs us Q I r h;obtain⟨v,l,i,h⟩:=h;subst i;cases r with
 | cons r rr =>
  rw[hs];refine assignInOrder_cons (aB (g a s σ H _ _ _ I r h) λ_ s1 ⟨j,c,k,d⟩=>?_);exact f a s1 j c _ _ Q k rr d
def qP(K:W.Frag)(n:Nat)(t:hZ):TG:=λv σ H Q=>∃a xs,v=.ref a/\bq K H a xs/\xs.length=n/\t xs σ H Q
def MI{d:List Expr}{k:Nat}{t:hZ}{n:Nat}(j:X.calm=true)(h:pC X d t)
 (g:(assignEach d X.env).length=n:=by rfl) (hst:(assignEach d X.env).findIdx? (·.1)=none:=by rfl):PG X (.Tuple d k pos) (qP X.K n t):=by
 intro c s σ H v u Q I r hw;obtain⟨a,xs,m,p,hl,hw⟩:=hw;subst m;cases r;obtain⟨i,f,l,hz⟩:=I.tuple p;refine assign_Tuple_tuple (I.ok.hd j) l (by simp[g,<- hl,f.length]) hst λh' hx=>?_;have q:ai X c σ H { s with heap:=h' }:=I.kept (t':=s.toks) λb o e=>hx b o (YB (Ys e)) e;exact h c _ σ H xs _ Q q (by simpa using f) hw
def jO(b:TE)(g:TG):TS:=λD σ H=>b σ H λx a=>g x σ a D.nx
def Mq{tg e:Expr}{b:TE}{g:TG}(he:PE X e b)(j:PG X tg g)(hs:swapsWithSole [tg] e pos.line X.env=pure false:=by rfl)(hw:swappedStores [tg] e X.env=pure none:=by rfl)
 (i:(assignEach [tg] X.env).map (·.2)=[assign tg X.env]:=by rfl):PS X (.Assign [tg] e pos) (jO b g):=by
 intro a s σ H D I h;refine wpAny_Assign_stores (aB (he a s σ H _ I h) λv s1 ⟨x,c,k,f,d⟩=>?_) hs hw;rw[i];exact aB (j a s1 σ c x v _ k f d) λ_ l q=>q
def Mf{i:Nat}{x:Str}{e:Expr}{c:TE}{a:Pos}(hN:X.N.Nodup)(j:X.N[i]? = some x)(hx:i7 X.env.scope x)(he:PE X e c)(hs:swapsWith e (some (.Name x a)) pos.line X.env=pure false:=by rfl)(d:X.fn x=true\/X.env.scope.names.lookup x=some .local:=by first|exact .inl rfl|exact .inr rfl|assumption) :
 PS X (.Assign [.Name x a] e pos) (jO c (eB i)):=by
 intro b s σ H D I h;refine wpAny_Assign_Name (aB (he b s σ H _ I h) λv s1 ⟨y,f,m,k,g⟩=>?_) hs;exact Cb m hN j hx k (λn l=>⟨_,f,l,g⟩) d
end
section
variable {X:Cx}{pos:Pos}
def BN(c:TT)(tb:TS):TS:=λD σ H=>∃W:Nat->St->Hp->Prop,(∃m,W m σ H)/\∀m σ H,W m σ H ->
 c σ H λb a=>if b=true then ∃N:St->Hp->Prop,(∀σ' H',N σ' H'->∃m',m'<m/\W m' σ' H')/\tb { D with nx:=N,ct:=N,bk:=D.nx } σ a else D.nx σ a
def Md{c:Expr}{body:List Stmt}{u:TT}{tb:TS}(o:PassesOwn (model X.prog X.w) X.A X.env X.xe)(z:PT X c u)(hb:fo X body tb):PS X (.While c body [] pos) (BN u tb):=by
 intro a s σ H D I h;obtain⟨W,⟨B,C⟩,turn⟩:=h;refine wpAny_While (codeAny_whileLoop (λn G=>∃σ' H',ai X a σ' H' G/\W n σ' H') ?_ B ⟨σ,H,I,C⟩);rintro n s1 ⟨i,r,y,F⟩;refine wpAny_passesOwn o (aB (z a s1 i r _ y (turn n i r F)) λb x ⟨p,q,j⟩=>?_);cases b with
 | true =>
  obtain⟨N,hN,j⟩:=j;rw[aaa rfl];refine wpAny_passesOwn o (aB (hb a x i p _ q j) λf J g=>?_);cases f with
  | next =>
   obtain⟨d,e,k,m⟩:=g;obtain⟨m',hm,l⟩:=hN d e m;exact⟨m',hm,d,e,k,l⟩
  | cont =>
   obtain⟨d,e,k,m⟩:=g;obtain⟨m',hm,l⟩:=hN d e m;exact⟨m',hm,d,e,k,l⟩
  | brk=>exact g
  | ret v=>exact g
 | false =>
  rw[on YC];exact wpAny_execs_nil ⟨i,p,q,j⟩
end
structure It where
 go:Nat->Hp->Prop
 yld:Nat->Hp->V->Hp->Prop
 stop:Nat->Hp->Prop
def fM(X:Cx)(a:List (Addr × Obj))(H:Hp)(b:Addr):Prop :=
 H b=none/\b≠X.env.locals/\b∉X.fs/\(b∈X.ex\/X.s₀.heap.objs.size<=b)/\(∀x c,X.env.cells.lookup x=some c->c≠b)/\∀p∈X.pn++a,p.1≠b
def ai.fpOk{X:Cx}{a:List (Addr × Obj)}{σ:St}{H d:Hp}{s:g0}{b:Addr}(I:ai X a σ H s)(hb:s.heap.objs.size<=b)(f:d b=none):fM X a d b:=by
 refine⟨f,Z9 (Yn I.lt hb),I.nofs hb,.inr (YK I.sz hb),λx c e z=>?_,λp g z=>?_⟩
 ·obtain⟨v,q⟩:=I.cell x c e;exact aab (Yn q.lt (by rw[z];exact hb)) (Y5 _)
 ·exact aab (Yn (Ys (I.pin p g).1) (by rw[z];exact hb)) (Y5 _)
structure jE (P:Program) (w:World) (K:W.Frag) (tg:Expr) (J:It) (fp:List Addr) (it:Addr) (tn:Nat->Heap->Prop):Prop where
 mem:it∈fp
 obj:∀i h,tn i h->∀b∈fp,∃o,h.get? b=some o/\∀v,o.data ≠ .cell v
 keep:∀i h h',tn i h->(∀b∈fp,∀o,h.get? b=some o->h'.get? b=some o)->tn i h'
 item:∀(X:Cx),X.prog=P->X.w=w->X.K=K->X.calm=true->∀(i:Nat) (pins:List (Addr × Obj)) (s:g0) (σ:St) (H:Hp) (E:Value->g0->Prop),ai X pins σ H s->(∀b∈fp,fM X pins H b)->tn i s.heap->J.go i H ->
  wpAny (model P w) X.A (pyNext (.ref it)) (λr s1=>∃u,r=some u /\
   wpAny (model P w) X.A (letOwnedTupleGo tg (.ref it) u) (λ_ s2=>∃x H',ai X pins σ H' s2/\aT x u/\J.yld i H x H'/\tn (i+1) s2.heap/\∀b∈fp,H' b=none) E s1) E s
 done:∀(X:Cx),X.prog=P->X.w=w->X.K=K->X.calm=true->∀(i:Nat) (pins:List (Addr × Obj)) (s:g0) (σ:St) (H:Hp) (E:Value->g0->Prop),ai X pins σ H s->(∀b∈fp,fM X pins H b)->tn i s.heap->J.stop i H ->
  wpAny (model P w) X.A (pyNext (.ref it)) (λr s1=>r=none/\ai X pins σ H s1) E s
 self:∀(A:Around) (i:Nat) (s:g0) (Q:Value->g0->Prop) (E:Value->g0->Prop),tn i s.heap->Q (.ref it) s->wpAny (model P w) A (pyIter (.ref it)) Q E s
abbrev TI:=St->Hp->(It->Hp->Prop)->Prop
def Go(X:Cx)(a:List (Addr × Obj))(σ:St)(tg:Expr)(R:It->Hp->Prop)(d:Value)(e:g0):Prop :=
 ∃(it:Addr) (fp:List Addr) (tn:Nat->Heap->Prop) (J:It) (c:Hp),d=.ref it/\ai X a σ c e/\jE X.prog X.w X.K tg J fp it tn/\tn 0 e.heap/\(∀b∈fp,fM X a c b)/\R J c
def PI(X:Cx)(tg b:Expr)(c:TI):Prop :=
 ∀(a:List (Addr × Obj)) (s:g0) (σ:St) (H:Hp) (R:It->Hp->Prop),ai X a σ H s->c σ H R ->
  wpAny (model X.prog X.w) X.A (eval b X.env) (λv s1=>wpAny (model X.prog X.w) X.A (pyIter v) (Go X a σ tg R) X.xe s1) X.xe s
def qL{M:Model}{A:Around}{E:Value->g0->Prop}{s:g0}{tg:Expr}{it:Addr}{u:Value}{o:Obj}{n:String}{vs:Array Value}{Q:Unit->g0->Prop}(c:s.heap.get? it=some o)(b:o.cls=.type n)(hd:o.data=.fields vs)
 (a:["enumerate", "zip", "dict_itemiterator", "dict_reverseitemiterator", "odict_iterator", "itertools.zip_longest", "itertools.pairwise"].contains n=false) (hQ:Q () s):wpAny M A (letOwnedTupleGo tg (.ref it) u) Q E s:=by
 unfold letOwnedTupleGo;cases tg<;>first
  | exact no hQ
  | (cases u<;>first
      | exact no hQ
      | (refine kb (wpAny_load c ?_)
         rw[b,hd];show wpAny M A (if (["enumerate", "zip", "dict_itemiterator", "dict_reverseitemiterator", "odict_iterator", "itertools.zip_longest", "itertools.pairwise"].contains n && vs[0]? == some (rawInt _))=true then _ else _) Q E s;rw[on (by intro h;rw[a,Bool.false_and]at h;cases h)];exact no hQ))
def i9(K:W.Frag)(a:Addr):It :=
 ⟨λi H=>∃xs x,aG K H a xs/\xs[i]? = some x,λi H x b=>b=H/\∀xs,aG K H a xs->xs[i]? = some x,λi H=>∃xs,aG K H a xs/\xs.length<=i⟩
def pG(K:W.Frag)(a:Addr):It :=
 ⟨λi H=>∃xs x,bq K H a xs/\xs[i]? = some x,λi H x b=>b=H/\∀xs,bq K H a xs->xs[i]? = some x,λi H=>∃xs,bq K H a xs/\xs.length<=i⟩
def iC(lo:Int)(n:Nat):It:=⟨λi _=>i<n,λi H x a=>a=H/\x=.int (lo+i),λi _=>n<=i⟩
def Iy{P:Program}{w:World}{K:W.Frag}{tg:Expr}(a it:Addr):jE P w K tg (i9 K a) [it] it (λi h=>h.IsListIter it a i) where
 mem:=by simp
 obj:=λi h st b hb=>by
  have e:b=it:=by simpa using hb
  subst e;obtain⟨o,e,c,d⟩:=st;exact⟨o,e,λv z=>by rw[d]at z;cases z⟩
 keep:=λi h h' st k=>st.at λo e=>k it (by simp) o e
 item:=by
  intro X hP hw hK F i f s σ H E I j st D;subst hP hw hK;obtain⟨xs,x,l,hx⟩:=D;obtain⟨m,C,p,hz⟩:=I.list l;obtain⟨u,L,N⟩:=C.get hx;obtain⟨n,B,G,y,q,r⟩:=j it (by simp);refine wpAny_pyNext_list_item st p.isList (x:=u) (by simpa using L) λh' g sb=>?_;have J:ai X f σ H { s with heap:=h' }:=I.turned (t':=s.toks) (λb o hb e=>(sb.2 b hb).trans e) n B y q r;obtain⟨o,e,c,d⟩:=id g;exact⟨u,rfl,qL (s:={ s with heap:=h' }) e c d (by decide) ⟨x,H,J,N,⟨rfl,λys O=>by rw[I.list_inj O l];exact hx⟩,g,λb hb=>(j b hb).1⟩⟩
 done:=by
  intro X hP hw hK F i f s σ H E I j st D;subst hP hw hK;obtain⟨xs,l,hx⟩:=D;obtain⟨m,C,p,hz⟩:=I.list l;obtain⟨n,B,G,y,q,r⟩:=j it (by simp);have hl:=C.length;exact wpAny_pyNext_list_end (I.ok.hd F) st p.isList (by simp;omega) λh' M=>⟨rfl,I.turned (t':=s.toks) (λb o hb e=>M b o hb e) n B y q r⟩
 self:=λ_ _ _ _ _ st h=>wpAny_pyIter_listiter st h
def Iv{P:Program}{w:World}{K:W.Frag}{tg:Expr}(a it:Addr):jE P w K tg (pG K a) [it] it (λi h=>h.IsTupleIter it a i) where
 mem:=by simp
 obj:=λi h st b hb=>by
  have e:b=it:=by simpa using hb
  subst e;obtain⟨o,e,c,d⟩:=st;exact⟨o,e,λv z=>by rw[d]at z;cases z⟩
 keep:=λi h h' st k=>st.at λo e=>k it (by simp) o e
 item:=by
  intro X hP hw hK F i f s σ H E I l st D;subst hP hw hK;obtain⟨xs,x,m,hx⟩:=D;obtain⟨g,C,p,hz⟩:=I.tuple m;obtain⟨u,L,N⟩:=C.get hx;obtain⟨n,B,G,y,q,r⟩:=l it (by simp);refine wpAny_pyNext_tuple_item st (show s.heap.IsTuple a g.toArray from p) (x:=u) (by simpa using L) λh' j sb=>?_;have J:ai X f σ H { s with heap:=h' }:=I.turned (t':=s.toks) (λb o hb e=>(sb.2 b hb).trans e) n B y q r;obtain⟨o,e,c,d⟩:=id j;exact⟨u,rfl,qL (s:={ s with heap:=h' }) e c d (by decide) ⟨x,H,J,N,⟨rfl,λys O=>by rw[I.tuple_inj O m];exact hx⟩,j,λb hb=>(l b hb).1⟩⟩
 done:=by
  intro X hP hw hK F i f s σ H E I l st D;subst hP hw hK;obtain⟨xs,m,hx⟩:=D;obtain⟨g,C,p,hz⟩:=I.tuple m;obtain⟨n,B,G,y,q,r⟩:=l it (by simp);have hl:=C.length;exact wpAny_pyNext_tuple_end (I.ok.hd F) st (show s.heap.IsTuple a g.toArray from p) (by simp;omega) λh' M=>⟨rfl,I.turned (t':=s.toks) (λb o hb e=>M b o hb e) n B y q r⟩
 self:=λ_ _ _ _ _ st h=>wpAny_pyIter_tupleiter st h
def Ix{P:Program}{w:World}{K:W.Frag}{tg:Expr}(it:Addr)(lo:Int)(n:Nat):jE P w K tg (iC lo n) [it] it (λi h=>IsRangeIter h it (lo+(i:Nat)*1) ((n:Int)-(i:Nat)) 1) where
 mem:=by simp
 obj:=λi h st b hb=>by
  have e:b=it:=by simpa using hb
  subst e;exact⟨_,st,λv z=>by
   have B:Data.fields _=Data.cell v:=z;cases B⟩
 keep:=λi h h' st k=>k it (by simp) _ st
 item:=by
  intro X hP hw hK m i a s σ H E I d st q;subst hP hw hK;obtain⟨l,f,u,p,g,j⟩:=d it (by simp);have W:=Walks.range (prog:=X.prog) (w:=X.w) (I.ok.hd m) it lo 1 n;refine W.item i s _ _ q st λv h' r y c x=>?_;obtain⟨t,rfl⟩:=y;have D:ai X a σ H { s with heap:=h',toks:=r }:=I.turned (λb o hb e=>x b o (by simpa using hb) e) l f p g j;refine⟨_,rfl,qL (s:={ s with heap:=h',toks:=r }) (n := "range_iterator") c rfl rfl (by decide) ⟨.int (lo+i),H,D,⟨t,?_⟩,⟨rfl,rfl⟩,c,λb hb=>(d b hb).1⟩⟩;rw[Int.mul_one]
 done:=by
  intro X hP hw hK m i a s σ H E I d st q;subst hP hw hK;obtain⟨l,f,u,p,g,j⟩:=d it (by simp);exact wpAny_pyNext_range_end (I.ok.hd m) st (by have:n<=i:=q;omega) λh' C=>⟨rfl,I.turned (t':=s.toks) (λb o hb e=>C b o hb e) l f p g j⟩
 self:=λ_ _ _ _ _ st h=>wpAny_pyIter_rangeiter st h
section
variable {X:Cx}{tg:Expr}
def vx(K:W.Frag)(tl:TE):TI:=λσ H R=>tl σ H λx b=>∃a,x=.ref a/\(∃xs,aG K b a xs)/\R (i9 K a) b
def vw(K:W.Frag)(tl:TE):TI:=λσ H R=>tl σ H λx b=>∃a,x=.ref a/\(∃xs,bq K b a xs)/\R (pG K a) b
def ME{l:Expr}{tl:TE}(hl:PE X l tl):PI X tg l (vx X.K tl):=by
 intro c s σ H R I h;refine aB (hl c s σ H _ I h) λv s1 ⟨x,f,d,j,g⟩=>?_;obtain⟨a,e,⟨xs,k⟩,q⟩:=g;subst e;cases j;obtain⟨i,m,p,hz⟩:=d.list k;refine wpAny_pyIter_list p.isList ?_;refine⟨s1.heap.objs.size,[s1.heap.objs.size],_,_,f,rfl,d.kept (t':=s1.toks) λb o e=>YA _ e,Iy a _,⟨_,YR _ rfl,rfl,rfl⟩,λb hb=>?_,q⟩;have e:b=s1.heap.objs.size:=by simpa using hb
 subst e;exact d.fpOk (Ym _) (d.hok.fresh (Ym _))
def MA{l:Expr}{tl:TE}(hl:PE X l tl):PI X tg l (vw X.K tl):=by
 intro c s σ H R I h;refine aB (hl c s σ H _ I h) λv s1 ⟨x,g,d,j,i⟩=>?_;obtain⟨a,e,⟨xs,k⟩,q⟩:=i;subst e;cases j;obtain⟨f,m,p,hz⟩:=d.tuple k;refine wpAny_pyIter_tuple (show s1.heap.IsTuple a f.toArray from p) ?_;refine⟨s1.heap.objs.size,[s1.heap.objs.size],_,_,g,rfl,d.kept (t':=s1.toks) λb o e=>YA _ e,Iv a _,⟨_,YR _ rfl,rfl,rfl⟩,λb hb=>?_,q⟩;have e:b=s1.heap.objs.size:=by simpa using hb
 subst e;exact d.fpOk (Ym _) (d.hok.fresh (Ym _))
def C2{c:List (Addr × Obj)}{σ:St}{H:Hp}{s:g0}{R:It->Hp->Prop}{E:Value->g0->Prop}{lo a:Int}{t u v:Tok}{d:Nat}(I:ai X c σ H s)(i : -(2 ^ 62)<=lo)(g:lo<2 ^ 62)(l : -(2 ^ 62)<=a)(h:a<2 ^ 62)
 (q:R (iC lo (a-lo).toNat) H):wpAny (model X.prog X.w) X.A (pyIter (.ref s.heap.objs.size)) (Go X c σ tg R) E { s with heap:=s.heap.push { cls:=.type "range",data:=.fields #[.int lo t,.int a u,.int 1 v] },toks:=d }:=by
 refine wpAny_pyIter_range (IsRange.new ..) (small_one i g l h) ?_;have f:ai X c σ H { s with heap:=s.heap.push { cls:=.type "range",data:=.fields #[.int lo t,.int a u,.int 1 v] },toks:=d }:=I.kept λb o e=>YA _ e;refine⟨(s.heap.push { cls:=.type "range",data:=.fields #[.int lo t,.int a u,.int 1 v] }).objs.size,[(s.heap.push { cls:=.type "range",data:=.fields #[.int lo t,.int a u,.int 1 v] }).objs.size],_,_,H,rfl,
  f.kept (t':=d) λb o e=>YA _ e,Ix _ lo (a-lo).toNat,?_,λb hb=>?_,q⟩
 ·have k:lo+((0:Nat):Int)*1=lo:=by simp
  have j:(((a-lo).toNat:Nat):Int)-((0:Nat):Int)=Builtin.Range.rangeSize lo a 1:=by rw[rangeSize_one];split<;>omega
  show IsRangeIter _ _ (lo+((0:Nat):Int)*1) ((((a-lo).toNat:Nat):Int)-((0:Nat):Int)) 1;rw[k,j];exact YR _ rfl
 ·have e:b=(s.heap.push { cls:=.type "range",data:=.fields #[.int lo t,.int a u,.int 1 v] }).objs.size:=by simpa using hb
  subst e;exact f.fpOk (Ym _) (f.hok.fresh (Ym _))
def Er(a:TA):TI:=λσ H R=>a σ H λvs b=>∃j:Int,vs=[.int j]/\-(2 ^ 62)<=j/\j<2 ^ 62/\R (iC 0 j.toNat) b
def Ep(a:TA):TI:=λσ H R=>a σ H λvs b=>∃i j:Int,vs=[.int i,.int j]/\(-(2 ^ 62)<=i/\i<2 ^ 62/\-(2 ^ 62)<=j/\j<2 ^ 62)/\R (iC i (j-i).toNat) b
def MD {a:Expr} {d:TA} {p pos:Pos} (k:Gl X "range") (hm:X.mg "range" = none) (g:PA X [a] d) (hs:starEach [a] X.env=[(false,eval a X.env)]:=by rfl):PI X tg (.Call (.Name "range" p) [a] [] pos) (Er d):=by
 intro b s σ H R I h;refine Call_ (ir I k hm boot_range (Zs (aB (g pos b s σ H _ I h) λus s1 ⟨vs,m,l,f,c⟩=>?_) hs rfl));obtain⟨j,e,c,i,q⟩:=c;subst e;cases f with
 | cons r rr =>
  cases rr;obtain⟨t,rfl⟩:=r;exact call_range_1 (C2 l (by omega) (by omega) c i (by simpa using q))
def MC {a b:Expr} {g:TA} {p pos:Pos} (u:Gl X "range") (hm:X.mg "range" = none) (m:PA X [a,b] g) (hs:starEach [a,b] X.env=[(false,eval a X.env),(false,eval b X.env)]:=by rfl) (c:starEach [b] X.env=[(false,eval b X.env)]:=by rfl) :
 PI X tg (.Call (.Name "range" p) [a,b] [] pos) (Ep g):=by
 intro d s σ H R I h;refine Call_ (ir I u hm boot_range (Zs (aB (m pos d s σ H _ I h) λus s1 ⟨vs,x,v,l,f⟩=>?_) (by rw[hs,c]) (by rw[c];rfl)));obtain⟨i,j,e,⟨f,n,o,k⟩,q⟩:=f;subst e;cases l with
 | cons r rr =>
  cases rr with
  | cons r' rr =>
   cases rr;obtain⟨t,rfl⟩:=r;obtain⟨t',rfl⟩:=r';exact call_range_2 (C2 v f n o k q)
def BZ(d:TI)(g:TG)(tb:TS):TS:=λD σ H=>d σ H λJ c=>∃W:Nat->Nat->St->Hp->Prop,(∃m,W 0 m σ c)/\∀i m σ H,W i m σ H ->
 (J.stop i H/\D.nx σ H)\/(J.go i H/\∃N:St->Hp->Prop,(∀σ' H',N σ' H'->∃m',m'<m/\W (i+1) m' σ' H')/\∀x H',J.yld i H x H'->g x σ H' λa b=>tb { D with nx:=N,ct:=N,bk:=D.nx } a b)
def nN(fp:List Addr)(h:Heap):List (Addr × Obj):=fp.filterMap λb=>(h.get? b).map λo=>(b,o)
def qA{fp:List Addr}{h:Heap}{b:Addr}{o:Obj}(hb:b∈fp)(e:h.get? b=some o):(b,o)∈nN fp h:=List.mem_filterMap.mpr ⟨b,hb,by rw[e];rfl⟩
def NI{fp:List Addr}{h:Heap}{p:Addr × Obj}(a:p∈nN fp h):p.1∈fp/\h.get? p.1=some p.2:=by
 obtain⟨b,hb,e⟩:=List.mem_filterMap.mp a;cases q:h.get? b with
 | none=>rw[q]at e;cases e
 | some o =>
  rw[q]at e;have e':(b,o)=p:=YL e;subst e';exact⟨hb,q⟩
def ai.pinned{a:List (Addr × Obj)}{σ:St}{H:Hp}{s:g0}{fp:List Addr}(I:ai X a σ H s)(c:∀b∈fp,fM X a H b)(j:∀b∈fp,∃o,s.heap.get? b=some o/\∀v,o.data ≠ .cell v):ai X (a++nN fp s.heap) σ H s :=
 I.pins_of λp f=>(Yx.mp f).elim (λz=>I.pin p (YF _ z)) λz=>by
  obtain⟨hb,e⟩:=NI z;obtain⟨h,g,i,_⟩:=c p.1 hb;obtain⟨o,e',d⟩:=j p.1 hb;rw[e]at e';cases e';exact⟨e,h,g,i,d⟩
def ai.unpinned{a pl:List (Addr × Obj)}{σ:St}{H:Hp}{s:g0}(I:ai X (a++pl) σ H s):ai X a σ H s:=I.pins_of λp b=>I.pin p (YF _ (Y1 _ b))
def Mj{c:Expr}{body:List Stmt}{wi:TI}{g:TG}{tb:TS}{pos:Pos}(B:PassesOwn (model X.prog X.w) X.A X.env X.xe)(hc:X.calm=true)(hi:PI X tg c wi)(hg:PG X tg g)(hb:fo X body tb)
 (hs:∀x,foldedSetIterable c X.env x=pure x:=by intro _;rfl):PS X (.For tg c body [] pos) (BZ wi g tb):=by
 intro a s σ H D I h;refine wpAny_For (aB (hi a s σ H _ I h) λv s1 h1=>aB h1 λap s2 h2=>?_) hs;obtain⟨it,fp,tn,J,H2,e,I2,T,O,f2,W,⟨m0,w0⟩,turn⟩:=h2;subst e;have p:∀ {q:Hp},(∀b∈fp,q b=none)->∀b∈fp,fM X a q b:=λhn b hb=>⟨hn b hb,(f2 b hb).2⟩;refine codeAny_forLoop_any (λn s'=>∃i σ' q,ai X a σ' q s'/\tn i s'.heap/\(∀b∈fp,q b=none)/\W i n σ' q) ?_ m0 ⟨0,σ,H2,I2,O,λb hb=>(f2 b hb).1,w0⟩;rintro n s3 ⟨i,F,M,V,L,C,w3⟩;rcases turn i n F M w3 with ⟨stop,qn⟩|⟨go,N,hN,step⟩
 ·refine wpAny_passesOwn B (aB (T.done X rfl rfl rfl hc i a s3 F M X.xe V (p C) L stop) λr s4 ⟨hr,I4⟩=>?_);subst hr;exact wpAny_execs_nil ⟨F,M,I4,qn⟩
 ·refine wpAny_passesOwn B (aB (T.item X rfl rfl rfl hc i a s3 F M X.xe V (p C) L go) λr s4 ⟨u,hr,h4⟩=>?_);subst hr;refine wpAny_passesOwn B (aB h4 λ_ s5 ⟨x,Y,I5,r5,y5,z,R⟩=>?_);have S:=I5.pinned (p R) (T.obj _ _ z);refine wpAny_passesOwn B (aB (hg _ s5 F Y x u _ S r5 (step x Y y5)) λ_ s6 ⟨σ6,H6,I6,q6⟩=>?_);refine wpAny_passesOwn B (aB (hb _ s6 σ6 H6 _ I6 q6) λf U y=>?_);have again:∀ {j:St} {k:Hp},ai X (a++nN fp s5.heap) j k U->N j k->∃m,m<n/\∃i σ' q,ai X a σ' q U/\tn i U.heap/\(∀b∈fp,q b=none)/\W i m σ' q:=λ{j k} l G=>by
   obtain⟨m',hm,w7⟩:=hN j k G;refine⟨m',hm,i+1,j,k,l.unpinned,T.keep _ _ _ z λb hb o e=>(l.pin (b,o) (YF _ (YF _ (qA hb e)))).1,λb hb=>?_,w7⟩;obtain⟨o,e,d⟩:=T.obj _ _ z b hb;exact (l.pin (b,o) (YF _ (YF _ (qA hb e)))).2.1
  cases f with
  | next=>obtain⟨j,k,l,G⟩:=y;exact again l G
  | cont=>obtain⟨j,k,l,G⟩:=y;exact again l G
  | brk=>obtain⟨j,k,l,y⟩:=y;exact⟨j,k,l.unpinned,y⟩
  | ret v=>obtain⟨x7,j,k,l,r7,y⟩:=y;exact⟨x7,j,k,l.unpinned,r7,y⟩
end
def iy{K:W.Frag}{a:Addr}{xs:List V}{g:TG}{tb:TS}{D:fN}{σ:St}{H:Hp}(b:Nat->St->Hp->Prop)(l:b 0 σ H)(hl:∀i σ H,i<=xs.length->b i σ H->aG K H a xs)
 (hs:∀i x σ H,xs[i]? = some x->b i σ H->g x σ H λd h=>tb { D with nx:=b (i+1),ct:=b (i+1),bk:=D.nx } d h) (hd:∀σ H,b xs.length σ H->D.nx σ H) :
 ∃W:Nat->Nat->St->Hp->Prop,(∃m,W 0 m σ H)/\∀i m σ H,W i m σ H ->
  ((i9 K a).stop i H/\D.nx σ H)\/((i9 K a).go i H/\∃N:St->Hp->Prop,(∀f c,N f c->∃m',m'<m/\W (i+1) m' f c)/\∀x c,(i9 K a).yld i H x c->g x σ c λd h=>tb { D with nx:=N,ct:=N,bk:=D.nx } d h):=by
 refine⟨λi m σ H=>m=xs.length-i/\i<=xs.length/\b i σ H,⟨xs.length,by simp,YS _,l⟩,?_⟩;rintro i m σ H ⟨rfl,k,p⟩;have q:=hl i σ H k p;by_cases hlt:i<xs.length
 ·refine .inr ⟨⟨xs,xs[i],q,by simp[hlt]⟩,b (i+1),λf c j=>⟨xs.length-(i+1),by omega,rfl,hlt,j⟩,λx c y=>?_⟩;obtain⟨e,y⟩:=y;subst e;exact hs i x σ _ (y xs q) p
 ·have e:i=xs.length:=by omega
  subst e;exact .inl ⟨⟨xs,q,Ym _⟩,hd σ H p⟩
def Fk{K:W.Frag}{a:Addr}{xs:List V}{g:TG}{tb:TS}{D:fN}{σ:St}{H:Hp}(b:Nat->St->Hp->Prop)(l:b 0 σ H)(hl:∀i σ H,i<=xs.length->b i σ H->bq K H a xs)
 (hs:∀i x σ H,xs[i]? = some x->b i σ H->g x σ H λd h=>tb { D with nx:=b (i+1),ct:=b (i+1),bk:=D.nx } d h) (hd:∀σ H,b xs.length σ H->D.nx σ H) :
 ∃W:Nat->Nat->St->Hp->Prop,(∃m,W 0 m σ H)/\∀i m σ H,W i m σ H ->
  ((pG K a).stop i H/\D.nx σ H)\/((pG K a).go i H/\∃N:St->Hp->Prop,(∀f c,N f c->∃m',m'<m/\W (i+1) m' f c)/\∀x c,(pG K a).yld i H x c->g x σ c λd h=>tb { D with nx:=N,ct:=N,bk:=D.nx } d h):=by
 refine⟨λi m σ H=>m=xs.length-i/\i<=xs.length/\b i σ H,⟨xs.length,by simp,YS _,l⟩,?_⟩;rintro i m σ H ⟨rfl,k,p⟩;have q:=hl i σ H k p;by_cases hlt:i<xs.length
 ·refine .inr ⟨⟨xs,xs[i],q,by simp[hlt]⟩,b (i+1),λf c j=>⟨xs.length-(i+1),by omega,rfl,hlt,j⟩,λx c y=>?_⟩;obtain⟨e,y⟩:=y;subst e;exact hs i x σ _ (y xs q) p
 ·have e:i=xs.length:=by omega
  subst e;exact .inl ⟨⟨xs,q,Ym _⟩,hd σ H p⟩
def om{lo:Int}{n:Nat}{g:TG}{tb:TS}{D:fN}{σ:St}{H:Hp}(b:Nat->St->Hp->Prop)(j:b 0 σ H)
 (hs:∀i σ H,i<n->b i σ H->g (.int (lo+i)) σ H λc f=>tb { D with nx:=b (i+1),ct:=b (i+1),bk:=D.nx } c f) (hd:∀σ H,b n σ H->D.nx σ H) :
 ∃W:Nat->Nat->St->Hp->Prop,(∃m,W 0 m σ H)/\∀i m σ H,W i m σ H ->
  ((iC lo n).stop i H/\D.nx σ H)\/((iC lo n).go i H/\∃N:St->Hp->Prop,(∀d a,N d a->∃m',m'<m/\W (i+1) m' d a)/\∀x a,(iC lo n).yld i H x a->g x σ a λc f=>tb { D with nx:=N,ct:=N,bk:=D.nx } c f):=by
 refine⟨λi m σ H=>m=n-i/\i<=n/\b i σ H,⟨n,by simp,YS _,j⟩,?_⟩;rintro i m σ H ⟨rfl,k,p⟩;by_cases hlt:i<n
 ·refine .inr ⟨hlt,b (i+1),λd a h=>⟨n-(i+1),by omega,rfl,hlt,h⟩,λx a y=>?_⟩;obtain⟨e,y⟩:=y;subst e y;exact hs i σ _ hlt p
 ·have e:i=n:=by omega
  subst e;exact .inl ⟨Ym _,hd σ H p⟩
abbrev R2:=V->V->Hp->VK->Prop
def bb(X:Cx)(f:Value->Value->Sem Value)(r:R2):Prop :=
 ∀(a:List (Addr × Obj)) (s:g0) (σ:St) (H:Hp) (x y:V) (v u:Value) (Q:VK),ai X a σ H s->aT x v->aT y u->r x y H Q ->
  wpAny (model X.prog X.w) X.A (f v u) (EP X a σ Q) X.xe s
def pz(X:Cx)(f:Value->Sem Value)(r:V->Hp->VK->Prop):Prop :=
 ∀(a:List (Addr × Obj)) (s:g0) (σ:St) (H:Hp) (x:V) (v:Value) (Q:VK),ai X a σ H s->aT x v->r x H Q ->
  wpAny (model X.prog X.w) X.A (f v) (EP X a σ Q) X.xe s
def cG(X:Cx)(f:Value)(r:List V->Hp->VK->Prop):Prop :=
 ∀(a:List (Addr × Obj)) (s:g0) (σ:St) (H:Hp) (xs:List V) (us:List Value) (Q:VK),ai X a σ H s->aM xs us->r xs H Q ->
  wpAny (model X.prog X.w) X.A (call f us) (EP X a σ Q) X.xe s
def V9(X:Cx)(r:V->Hp->(Bool->Hp->Prop)->Prop):Prop :=
 ∀(a:List (Addr × Obj)) (s:g0) (σ:St) (H:Hp) (x:V) (v:Value) (Q:Bool->Hp->Prop),ai X a σ H s->aT x v->r x H Q ->
  wpAny (model X.prog X.w) X.A (truthy v) (TP X a σ Q) X.xe s
def iF(r:R2)(b tb:TE):TE:=λσ H Q=>b σ H λx c=>tb σ c λy a=>r x y a Q
def BO(r:V->Hp->VK->Prop)(a:TE):TE:=λσ H Q=>a σ H λx b=>r x b Q
def rI(C:Int->Int->Prop)(g:Int->Int->V):R2:=λx y H Q=>∃i j,x=.int i/\y=.int j/\C i j/\Q (g i j) H
def iK(g:Int->Int->V):R2:=λx y H Q=>∃i j,x=.int i/\y=.int j/\Q (g i j) H
def rU(g:Int->V):V->Hp->VK->Prop:=λx H Q=>∃i,x=.int i/\Q (g i) H
section
variable {X:Cx}{a b c:Expr}{ta tb tc:TE}{pos:Pos}
def zH(n:PE X a ta)(hb:PE X b tb){c:List (Addr × Obj)}{s:g0}{σ:St}{H:Hp}{R:V->V->Hp->Prop}(I:ai X c σ H s)
 (h:ta σ H λx g=>tb σ g λy d=>R x y d) {Q:Value->g0->Prop} {f:Value->Value->Sem Value}
 (i:∀v u e x y d,ai X c σ d e->aT x v->aT y u->R x y d->wpAny (model X.prog X.w) X.A (f v u) Q X.xe e) :
 wpAny (model X.prog X.w) X.A (eval a X.env) (λv k=>wpAny (model X.prog X.w) X.A (eval b X.env) (λu o=>wpAny (model X.prog X.w) X.A (f v u) Q X.xe o) X.xe k) X.xe s:=by
 refine aB (n c s σ H _ I h) λv s1 ⟨x,g,q,l,j⟩=>?_;refine aB (hb c s1 σ g _ q j) λu e ⟨y,d,m,r,p⟩=>?_;exact i v u e x y d m l r p
def MN{d:Operator}{r:R2}(l:bb X (binaryOp d) r)(j:PE X a ta)(hb:PE X b tb):PE X (.BinOp a d b pos) (iF r ta tb):=by
 intro c s σ H Q I h;exact wpAny_BinOp (zH j hb I h λv u e x y k i f g q=>l c e σ k x y v u Q i f g q)
def ML{c:UnaryOp}{r:V->Hp->VK->Prop}(i:pz X (unaryOp c) r)(g:PE X a ta):PE X (.UnaryOp c a pos) (BO r ta):=by
 intro b s σ H Q I h;exact UnaryOp_ (aB (g b s σ H _ I h) λv s1 ⟨x,d,j,f,e⟩=>i b s1 σ d x v Q j f e)
def nO{f:Value->Value->Sem Value}{C:Int->Int->Prop}{g:Int->Int->Int}
 (a:∀(i j:Int) (t u:Tok) (s:g0) (Q:Value->g0->Prop) (E:Value->g0->Prop),C i j->Q (.int (g i j) s.toks) { s with toks:=s.toks+1 }->wpAny (model X.prog X.w) X.A (f (.int i t) (.int j u)) Q E s) :
 bb X f (rI C λi j=>.int (g i j)):=by
 intro b s σ H x y v u Q I d c h;obtain⟨i,j,rfl,rfl,e,q⟩:=h;obtain⟨t,rfl⟩:=d;obtain⟨t',rfl⟩:=c;exact a i j t t' s _ _ e ⟨.int (g i j),H,I.tok _,⟨_,rfl⟩,q⟩
def DC{f:Value->Value->Sem Value}{g:Int->Int->Int}
 (a:∀(i j:Int) (t u:Tok) (s:g0) (Q:Value->g0->Prop) (E:Value->g0->Prop),Q (.int (g i j) s.toks) { s with toks:=s.toks+1 }->wpAny (model X.prog X.w) X.A (f (.int i t) (.int j u)) Q E s) :
 bb X f (iK λi j=>.int (g i j)):=by
 intro b s σ H x y v u Q I d c h;obtain⟨i,j,rfl,rfl,q⟩:=h;obtain⟨t,rfl⟩:=d;obtain⟨t',rfl⟩:=c;exact a i j t t' s _ _ ⟨.int (g i j),H,I.tok _,⟨_,rfl⟩,q⟩
def uW{f:Value->Value->Sem Value}{g:Int->Int->Bool}
 (a:∀(i j:Int) (t u:Tok) (s:g0) (Q:Value->g0->Prop) (E:Value->g0->Prop),Q (.bool (g i j)) s->wpAny (model X.prog X.w) X.A (f (.int i t) (.int j u)) Q E s) :
 bb X f (iK λi j=>.bl (g i j)):=by
 intro b s σ H x y v u Q I d c h;obtain⟨i,j,rfl,rfl,q⟩:=h;obtain⟨t,rfl⟩:=d;obtain⟨t',rfl⟩:=c;exact a i j t t' s _ _ ⟨.bl (g i j),H,I,rfl,q⟩
def Hs(i j:Int):Prop:=0<j/\j<1073741824
def tX(i j:Int):Prop:=(-(2 ^ 64)<i/\i<2 ^ 64)\/(-(2 ^ 64)<j/\j<2 ^ 64)
def tX.ok{i j:Int}(h:tX i j):IntMulOk i j:=by
 rcases h with ⟨h1,h2⟩|⟨h1,h2⟩
 ·exact .of_left (intBits_le_64 h1 h2)
 ·exact .of_right (intBits_le_64 h1 h2)
def Ir(k:Nat):(0:Int)<=2 ^ k:=by
 rw[two_pow_cast];exact Int.natCast_nonneg _
def Nq:bb X (binaryOp .Add) (iK λi j=>.int (i+j)):=DC λ_ _ _ _ _ _ _ q=>add_int q
def Nf:bb X (binaryOp .Sub) (iK λi j=>.int (i-j)):=DC λ_ _ _ _ _ _ _ q=>sub_int q
def Nk:bb X (binaryOp .Mult) (rI tX λi j=>.int (i*j)):=nO λ_ _ _ _ _ _ _ a q=>mul_int q a.ok
def DA:bb X (binaryOp .FloorDiv) (rI Hs λi j=>.int (i/j)):=nO λi j _ _ _ _ _ a q=>by
 have c:(0:Int)<j:=a.1;have b:j<1073741824:=a.2;exact floordiv_int (by omega) (by rw[a1x i (by omega)];exact q) (.inl (a1y (by omega)))
def Dz:bb X (binaryOp .Mod) (rI (λ_ j=>0<j) λi j=>.int (i%j)):=nO λi j _ _ _ _ _ a q=>by
 have b:(0:Int)<j:=a;exact mod_int' (by omega) (by rw[Int.fmod_eq_emod_of_nonneg i (by omega)];exact q)
def Ng:bb X (binaryOp .RShift) (rI (λ_ j=>0<=j) λi j=>.int (i/2 ^ j.toNat)):=nO λi j _ _ _ _ _ a q =>
 rshift_int a (by rw[a1x i (Ir _)];exact q)
def HR{f:Value->Sem Value}{g:Int->Int}
 (a:∀(i:Int) (t:Tok) (s:g0) (Q:Value->g0->Prop) (E:Value->g0->Prop),Q (.int (g i) s.toks) { s with toks:=s.toks+1 }->wpAny (model X.prog X.w) X.A (f (.int i t)) Q E s) :
 pz X f (rU λi=>.int (g i)):=by
 intro b s σ H x v Q I c h;obtain⟨i,rfl,q⟩:=h;obtain⟨t,rfl⟩:=c;exact a i t s _ _ ⟨.int (g i),H,I.tok _,⟨_,rfl⟩,q⟩
def HQ:pz X (unaryOp .USub) (rU λi=>.int (-i)):=HR λ_ _ _ _ _ q=>neg_int q
end
def Cy:V->V->Bool
 | .non,.non=>true|.non,.int _=>true|.int _,.non=>true|.non,.bl _=>true|.bl _,.non=>true|.non,.str _=>true|.str _,.non=>true
 | .int _,.int _=>true|.bl _,.bl _=>true|.str _,.str _=>true|.byt _,.byt _=>true
 | .int _,.str _=>true|.str _,.int _=>true|.bl _,.str _=>true|.str _,.bl _=>true
 | _,_=>false
def LL:R2:=λx y H Q=>Cy x y=true/\Q (.bl (decide (x=y))) H
def LH:R2:=λx y H Q=>Cy x y=true/\Q (.bl (!decide (x=y))) H
def FC{i j:Int}:decide (V.int i=V.int j)=(i == j):=by
 rw[ZF];simp
def ro{i j:Bool}:decide (V.bl i=V.bl j)=(i == j):=by
 rw[ZF];simp
def FA{i j:Str}:decide (V.str i=V.str j)=(i == j):=by
 rw[ZF];simp
def FD{i j:Array UInt8}:decide (V.byt i=V.byt j)=(i.toList == j.toList):=by
 rw[ZF];cases i;cases j;simp
section
variable {X:Cx}{a b c:Expr}{ta tb tc:TE}{pos:Pos}
def ca{a:List (Addr × Obj)}{σ:St}{H:Hp}{s:g0}{Q:VK}{k k':Bool}(I:ai X a σ H s)(q:Q (.bl k) H)(e:k=k'):EP X a σ Q (.bool k') s:=by
 subst e;exact⟨.bl k,H,I,rfl,q⟩
def DB:bb X (compareOp .Eq) LL:=by
 intro c s σ H x y v u Q I b a h;obtain⟨hs,q⟩:=h;cases x with
 | non =>
  cases b;cases y with
  | non=>cases a;exact PySem.EqNone.eq_none_none (ca I q (by simp))
  | bl j=>cases a;exact PySem.EqNone.eq_none_bool (ca I q (by simp))
  | int j=>obtain⟨t',rfl⟩:=a;exact PySem.EqNone.eq_none_int (ca I q (by simp))
  | str j=>obtain⟨t',rfl⟩:=a;exact PySem.EqNone.eq_none_str (ca I q (by simp))
  | _=>exact aab (show false=true from hs) YC
 | bl i =>
  cases b;cases y with
  | non=>cases a;exact PySem.EqNone.eq_bool_none (ca I q (by simp))
  | bl j=>cases a;exact eq_bool (ca I q ro)
  | str j=>obtain⟨t',rfl⟩:=a;exact PySem.EqMixed.eq_bool_str (ca I q (by simp))
  | _=>exact aab (show false=true from hs) YC
 | int i =>
  obtain⟨t,rfl⟩:=b;cases y with
  | non=>cases a;exact PySem.EqNone.eq_int_none (ca I q (by simp))
  | int j=>obtain⟨t',rfl⟩:=a;exact eq_int (ca I q FC)
  | str j=>obtain⟨t',rfl⟩:=a;exact PySem.EqMixed.eq_int_str (ca I q (by simp))
  | _=>exact aab (show false=true from hs) YC
 | str i =>
  obtain⟨t,rfl⟩:=b;cases y with
  | non=>cases a;exact PySem.EqNone.eq_str_none (ca I q (by simp))
  | bl j=>cases a;exact PySem.EqMixed.eq_str_bool (ca I q (by simp))
  | int j=>obtain⟨t',rfl⟩:=a;exact PySem.EqMixed.eq_str_int (ca I q (by simp))
  | str j=>obtain⟨t',rfl⟩:=a;exact eq_str (ca I q FA)
  | _=>exact aab (show false=true from hs) YC
 | byt i =>
  obtain⟨t,rfl⟩:=b;cases y with
  | byt j=>obtain⟨t',rfl⟩:=a;exact W.eq_bytes (ca I q FD)
  | _=>exact aab (show false=true from hs) YC
 | _=>cases y<;>exact aab (show false=true from hs) YC
def Dy:bb X (compareOp .NotEq) LH:=by
 intro c s σ H x y v u Q I b a h;obtain⟨hs,q⟩:=h;cases x with
 | non =>
  cases b;cases y with
  | non=>cases a;exact PySem.EqNone.ne_none_none (ca I q (by simp))
  | bl j=>cases a;exact PySem.EqNone.ne_none_bool (ca I q (by simp))
  | int j=>obtain⟨t',rfl⟩:=a;exact PySem.EqNone.ne_none_int (ca I q (by simp))
  | str j=>obtain⟨t',rfl⟩:=a;exact PySem.EqNone.ne_none_str (ca I q (by simp))
  | _=>exact aab (show false=true from hs) YC
 | bl i =>
  cases b;cases y with
  | non=>cases a;exact PySem.EqNone.ne_bool_none (ca I q (by simp))
  | bl j=>cases a;exact ne_bool (ca I q (congrArg not ro))
  | str j=>obtain⟨t',rfl⟩:=a;exact PySem.EqMixed.ne_bool_str (ca I q (by simp))
  | _=>exact aab (show false=true from hs) YC
 | int i =>
  obtain⟨t,rfl⟩:=b;cases y with
  | non=>cases a;exact PySem.EqNone.ne_int_none (ca I q (by simp))
  | int j=>obtain⟨t',rfl⟩:=a;exact ne_int (ca I q (congrArg not FC))
  | str j=>obtain⟨t',rfl⟩:=a;exact PySem.EqMixed.ne_int_str (ca I q (by simp))
  | _=>exact aab (show false=true from hs) YC
 | str i =>
  obtain⟨t,rfl⟩:=b;cases y with
  | non=>cases a;exact PySem.EqNone.ne_str_none (ca I q (by simp))
  | bl j=>cases a;exact PySem.EqMixed.ne_str_bool (ca I q (by simp))
  | int j=>obtain⟨t',rfl⟩:=a;exact PySem.EqMixed.ne_str_int (ca I q (by simp))
  | str j=>obtain⟨t',rfl⟩:=a;exact ne_str (ca I q (congrArg not FA))
  | _=>exact aab (show false=true from hs) YC
 | byt i =>
  obtain⟨t,rfl⟩:=b;cases y with
  | byt j=>obtain⟨t',rfl⟩:=a;exact W.ne_bytes (ca I q (congrArg not FD))
  | _=>exact aab (show false=true from hs) YC
 | _=>cases y<;>exact aab (show false=true from hs) YC
def Nl:bb X (compareOp .Lt) (iK λi j=>.bl (decide (i<j))):=uW λ_ _ _ _ _ _ _ q=>lt_int q
def Nm:bb X (compareOp .LtE) (iK λi j=>.bl (decide (i<=j))):=uW λ_ _ _ _ _ _ _ q=>le_int q
def Np:bb X (compareOp .Gt) (iK λi j=>.bl (decide (j<i))):=uW λ_ _ _ _ _ _ _ q=>gt_int q
def Nn:bb X (compareOp .Is) (λx y H Q=>y=.non/\Q (.bl (decide (x=.non))) H):=by
 intro a s σ H x y v u Q I b c h;obtain⟨rfl,q⟩:=h;cases c;refine is_none_gen (ca I q ?_);cases x<;>first
  | (cases b;rfl)
  | (obtain⟨t,rfl⟩:=b;rfl)
def Ni:bb X (compareOp .IsNot) (λx y H Q=>y=.non/\Q (.bl (!decide (x=.non))) H):=by
 intro a s σ H x y v u Q I b c h;obtain⟨rfl,q⟩:=h;cases c;refine isnot_none_gen (ca I q ?_);cases x<;>first
  | (cases b;rfl)
  | (obtain⟨t,rfl⟩:=b;rfl)
def aS(b:Expr){a:CmpOp}(h:a ≠ .In:=by decide)(d:a ≠ .NotIn:=by decide):behindInMarks a b=false:=by
 have c:(a == CmpOp.In)=false:=by cases a<;>first|rfl|exact aab rfl h
 have e:(a == CmpOp.NotIn)=false:=by cases a<;>first|rfl|exact aab rfl d
 cases b<;>simp[behindInMarks,c,e]
def M3{d:CmpOp}{r:R2}(l:bb X (compareOp d) r)(j:PE X a ta)(hb:PE X b tb)(hm:behindInMarks d b=false):PE X (.Compare a [d] [b] pos) (iF r ta tb):=by
 intro c s σ H Q I h;exact wpAny_Compare1 (zH j hb I h λv u e x y k i f g q=>l c e σ k x y v u Q i f g q) hm
def V8(K:W.Frag)(x:V)(H:Hp)(k:Bool):Prop :=
 match x with
 | .non=>k=false
 | .bl b=>k=b
 | .int i=>k=(i != 0)
 | .str y=>y.length<=sizeLine/\k=((y.length:Int) != 0)
 | .byt y=>y.size<=sizeLine/\k=((y.size:Int) != 0)
 | .ref p=>(∃xs,aG K H p xs/\k = !xs.isEmpty)\/(∃xs,bq K H p xs/\k = !xs.isEmpty)\/∃kvs,H p=some (.dK kvs)/\k = !kvs.isEmpty
 | _=>False
def PB{κ:Type}{a:List (κ × V)}{vs:List (κ × Value)}(r:KV a vs):(!vs.isEmpty) = !a.isEmpty:=by
 cases r<;>rfl
def Ek{xs:List V}{a:List Value}(r:aM xs a):(!a.toArray.isEmpty) = !xs.isEmpty:=by
 cases r<;>simp
def qD:(sizeLine:Nat)<2 ^ 63:=by rw[sizeLine_eq];decide
def m7:V9 X (λx H Q=>∃k,V8 X.K x H k/\Q k H):=by
 intro f s σ H x v Q I c h;obtain⟨k,e,q⟩:=h;have hl:=qD;have hs:sizeLine=16777216:=sizeLine_eq;cases x with
 | non =>
  cases c;have e':k=false:=e;subst e';exact truthy_none ⟨H,I,q⟩
 | bl b =>
  cases c;have e':k=b:=e;subst e';exact wpAny_truthy_bool ⟨H,I,q⟩
 | int i =>
  obtain⟨t,rfl⟩:=c;have e':k=(i != 0):=e;subst e';exact PySem.P.truthy_int ⟨H,I,q⟩
 | str y =>
  obtain⟨t,rfl⟩:=c;obtain⟨g,e'⟩:y.length<=sizeLine/\k=((y.length:Int) != 0):=e;subst e';exact PySem.P.truthy_str (by omega) ⟨H,I.tok _,q⟩
 | byt y =>
  obtain⟨t,rfl⟩:=c;obtain⟨g,e'⟩:y.size<=sizeLine/\k=((y.size:Int) != 0):=e;subst e';exact W.truthy_bytes (by omega) ⟨H,I.tok _,q⟩
 | ref p =>
  cases c;have e':(∃xs,aG X.K H p xs/\k = !xs.isEmpty)\/(∃xs,bq X.K H p xs/\k = !xs.isEmpty)\/∃kvs,H p=some (.dK kvs)/\k = !kvs.isEmpty:=e;rcases e' with ⟨xs,hx,e'⟩|⟨xs,hx,e'⟩|⟨kvs,hx,e'⟩
  ·subst e';obtain⟨d,r,pl,hz⟩:=I.list hx;have a:=r.length;exact wpAny_truthy_list pl.isList (by simp only [Yv];omega) ⟨H,I.tok _,by rw[Ek r];exact q⟩
  ·subst e';obtain⟨d,r,pl,hz⟩:=I.tuple hx;have a:=r.length;exact truthy_tuple pl (by simp only [Yv];omega) ⟨H,I.tok _,by rw[Ek r];exact q⟩
  ·subst e';obtain⟨hz,hS,vs,r,m⟩:kvs.length<=sizeLine/\(p == sysModules)=false/\∃vs,KV kvs vs/\s.heap.DictOf (cy X.prog X.w) p vs:=I.hok p _ hx;have a:kvs.length=vs.length:=Paired.length r;exact wpAny_truthy_dict hS m (by omega) ⟨H,I.tok _,by rw[PB r];exact q⟩
 | _=>exact (show False from e).elim
def iD{x:V}{us:List Value}(r:aM [x] us):∃u,us=[u]/\aT x u:=by
 cases r with
 | cons r1 r2=>cases r2;exact⟨_,rfl,r1⟩
def t5{x y:V}{us:List Value}(r:aM [x,y] us):∃u w',us=[u,w']/\aT x u/\aT y w':=by
 cases r with
 | cons r1 r2 =>
  cases r2 with
  | cons r3 r4=>cases r4;exact⟨_,_,rfl,r1,r3⟩
def Tq:cG X (.type "int") (λxs H Q=>(∃i,xs=[.int i]/\Q (.int i) H)\/∃k,xs=[.bl k]/\Q (.int (if k then 1 else 0)) H):=by
 intro a s σ H xs us Q I r h;rcases h with ⟨i,rfl,q⟩|⟨k,rfl,q⟩
 ·obtain⟨u,rfl,t,rfl⟩:=iD r;exact call_int_int ⟨.int i,H,I,⟨_,rfl⟩,q⟩
 ·obtain⟨u,rfl,b⟩:=iD r;cases b;exact call_int_bool ⟨.int (if k then 1 else 0),H,I.tok _,⟨_,rfl⟩,q⟩
end
structure jH (h:Heap) (x dx C:Addr) (mA:Str->Option Value):Prop where
 obj:h.get? x=some (W.instObj C dx)
 ns:h.Ns1 dx mA
 ne:dx≠x
def O7{h:Heap}{dx:Addr}{mA:Str->Option Value}(n:h.Ns1 dx mA):∃od,h.get? dx=some od/\∀name,W.lookIn name od=some (mA name):=by
 obtain⟨o,c,i,f,hd,g,_,hm⟩:=n;refine⟨o,f,λname=>?_⟩;have e:=hm name;unfold nsFind findBy at e;rw[<- Array.find?_toList]at e;unfold W.lookIn;rw[hd];dsimp only
 split
 ·rename_i y q;rw[q]at e;exact congrArg some e
 ·rename_i q;rw[q]at e;have a:c.toList.any (·.refKey)=false:=by
   rw[List.any_eq_false];intro y d;obtain⟨z,t,b⟩:=g y (a2l.mp d);simp[DictEntry.refKey,b]
  have a':¬c.toList.any (·.refKey)=true:=by rw[a];exact YC
  rw[on a'];exact congrArg some e
def jH.look{h:Heap}{x dx C:Addr}{mA:Str->Option Value}(I:jH h x dx C mA):∃od,W.InstAt h x (W.instObj C dx) C (some od)/\∀name,W.lookIn name od=some (mA name) :=
 let ⟨od,ho,hl⟩:=O7 I.ns
 ⟨od,⟨I.obj,rfl,rfl,ho⟩,hl⟩
section
variable {prog:Program}{w:World}{A:Around}{E:Value->g0->Prop}{s:g0}{K:W.Frag}{x dx C f:Addr}{mA:Str->Option Value}{name:Str}{v:Value}
def Rg{a:Bool}{Q:Value->g0->Prop}(X:K.In s.heap)(I:jH s.heap x dx C mA)(e:W.plainGet K C name=true)(f:W.hasDictIn K C=true)
 (c:W.findIn K (.ref C) name=some none) (d:mA name=some v) (b:W.handedIn v=true) (h:Q v { s with toks:=s.toks+1 }) :
 wpAny (model prog w) A (getAttr (.ref x) name a) Q E s:=by
 obtain⟨g,J,hl⟩:=I.look;exact W.get_value X J (W.plainGet_of e).1 (W.findObj_own f c rfl (by rw[hl,d])) b h
def Rf{pl:Sem Bool}{Q:Value × List Value->g0->Prop}(X:K.In s.heap)(I:jH s.heap x dx C mA)(a:W.plainGet K C name=true)
 (b:W.findIn K (.ref C) name=some (some (.ref f))) (e:W.isFn K (.ref f)=true) (d:mA name=none) (h:Q (.ref f,[.ref x]) s) :
 wpAny (model prog w) A (getMethod (.ref x) name pl) Q E s:=by
 obtain⟨c,J,hl⟩:=I.look;exact W.method_fn X J (W.plainGet_of a).1 (W.plainGet_of a).2 b (beq_iff_eq.mp e) (by show (W.lookIn name c).map (·.isSome)=some false;rw[hl,d];rfl) h
def Km{ns:List Str}{Q:Unit->g0->Prop}(X:K.In s.heap)(I:jH s.heap x dx C mA)
 (hs:W.findIn K (.ref C) "__setattr__" = some (some (.builtin "object.__setattr__"))) (f:W.plainOver K C=true) (i:W.takerIn K C name=some none) (j:W.hasDictIn K C=true)
 (hw:PySem.Within mA ns) (hsz:ns.length<=sizeLine)
 (h:∀h',jH h' x dx C (λy=>if y=name then some v else mA y)->Heap.SameBut dx s.heap h'->Q () { s with heap:=h',toks:=s.toks+2 }) :
 wpAny (model prog w) A (setAttr (.ref x) name v) Q E s:=by
 obtain⟨l,J,hl⟩:=I.look;refine W.set_plain X J hs (W.osa_open (s:={ s with toks:=s.toks+1 }) (r:=none) X J f i λb=>?_);obtain⟨k,g,e⟩:=W.any_some j;have hx:s.heap.get? x=some ⟨.ref C,some dx,.plain,#[]⟩:=I.obj;refine kb (no (kb (kb (wpAny_loadPart hx (kb (W.Looks.here (s:={ s with toks:=s.toks+1 }) (W.looks_clsIn X g) ?_))))));rw[e];refine no (a:=some dx) (kb (no (kb ?_)));refine wpAny_nsSet1 (s:={ s with toks:=s.toks+1 }) I.ns λh' c d=>?_;obtain⟨oD,esD,epD,hoD,hdD,hcD⟩:=c.count (PySem.Within.cons name v hw);refine kb (wpAny_lookBehind hoD (by rw[hdD];exact pastItsLine_dict (YK hcD (by rw[Y7];omega))) ?_);exact no (h _ ⟨(d.2 _ (Ne.symm I.ne)).trans I.obj,c,I.ne⟩ d)
def O3{R:Result->g0->Prop}{vs:List Value}{a:List (Str × Value)}(X:K.In s.heap)(hm:W.makesIn K C=true)
 (c:W.findIn K (.ref C) "__init__" = some (some (.ref f))) (b:W.typeIn K (.ref f)=some (.type "function"))
 (h:codeAny (model prog w) (A.under (.builtin "type.__call__" ⟨.ref C::vs,a⟩)) (.call (.ref f) ⟨.ref (s.heap.objs.size+1)::vs,a⟩) (W.InitBack (s.heap.objs.size+1) R)
   { s with heap:=(s.heap.push W.emptyDict).push (W.instObj C s.heap.objs.size) }) :
 codeAny (model prog w) A (.call (.ref C) ⟨vs,a⟩) R s:=by
 obtain⟨e,g,d,t,os⟩:=s;exact W.make_core (W.makes_of X hm) (W.looks_findIn X c) (λself=>W.bind_fn X self b) (.inl rfl) h
def O2{R:Result->g0->Prop}(X:K.In s.heap)(hm:W.makesIn K C=true)
 (a:W.findIn K (.ref C) "__init__" = some (some (.builtin "object.__init__")))
 (hb:∀self,W.Looks (model prog w) s.heap (bindSpecial (.builtin "object.__init__") self) (.builtin "object.__init__",[self]))
 (h:codeAny (model prog w) (A.under (.builtin "type.__call__" ⟨[.ref C],[]⟩)) (.call (.builtin "object.__init__") ⟨[.ref (s.heap.objs.size+1)],[]⟩) (W.InitBack (s.heap.objs.size+1) R)
   { s with heap:=(s.heap.push W.emptyDict).push (W.instObj C s.heap.objs.size) }) :
 codeAny (model prog w) A (.call (.ref C) ⟨[],[]⟩) R s:=by
 obtain⟨b,g,d,t,os⟩:=s;exact W.make_core (W.makes_of X hm) (W.looks_findIn X a) hb (.inr ⟨rfl,rfl⟩) h
end
def bZ(f:Str)(v:V):List (Str × V)->List (Str × V)
 | []=>[(f,v)]
 | (g,x)::r=>if g=f then (g,v)::r else (g,x)::bZ f v r
theorem D8(f g:Str)(v:V):∀fs:List (Str × V),(bZ f v fs).lookup g=if g=f then some v else fs.lookup g
 | []=>by
  show List.lookup g [(f,v)]=_;by_cases h:g=f
  ·have hb:(g == f)=true:=beq_iff_eq.mpr h;simp only [List.lookup,hb,aaa h]
  ·have hb:(g == f)=false:=beq_eq_false_iff_ne.mpr h;simp only [List.lookup,hb,on h]
 | (k,x)::r=>by
  have ih:=D8 f g v r;rw[show bZ f v ((k,x)::r)=(if k=f then (k,v)::r else (k,x)::bZ f v r) from rfl];by_cases hk:k=f
  ·rw[aaa hk];by_cases h:g=k
   ·have hb:(g == k)=true:=beq_iff_eq.mpr h;simp only [List.lookup,hb,aaa (h.trans hk)]
   ·have hb:(g == k)=false:=beq_eq_false_iff_ne.mpr h;simp only [List.lookup,hb,on (λe:g=f=>h (e.trans hk.symm))]
  ·rw[on hk];by_cases h:g=k
   ·have hb:(g == k)=true:=beq_iff_eq.mpr h;simp only [List.lookup,hb,on (λe:g=f=>hk (h.symm.trans e))]
   ·have hb:(g == k)=false:=beq_eq_false_iff_ne.mpr h;simp only [List.lookup,hb];exact ih
theorem vk(f:Str)(v:V):∀fs:List (Str × V),f∈(bZ f v fs).map (·.1)/\∀g,g∈fs.map (·.1)->g∈(bZ f v fs).map (·.1)
 | []=>⟨by simp[bZ],λg h=>by simp at h⟩
 | (k,x)::r=>by
  obtain⟨b,a⟩:=vk f v r;rw[show bZ f v ((k,x)::r)=(if k=f then (k,v)::r else (k,x)::bZ f v r) from rfl];by_cases hk:k=f
  ·rw[aaa hk];subst hk;exact⟨by simp,λg h=>by simpa using h⟩
  ·rw[on hk];refine⟨?_,λg h=>?_⟩
   ·rw[YO];exact Y6 _ b
   ·rw[YO]at h ⊢;rcases Yz.mp h with e|e
    ·exact Yz.mpr (.inl e)
    ·exact Y6 _ (a g e)
theorem Ed(f:Str)(v:V):∀fs:List (Str × V),(bZ f v fs).length<=fs.length+1
 | []=>by simp[bZ]
 | (k,x)::r=>by
  have ih:=Ed f v r;rw[show bZ f v ((k,x)::r)=(if k=f then (k,v)::r else (k,x)::bZ f v r) from rfl];by_cases hk:k=f
  ·rw[aaa hk,Y7,Y7];omega
  ·rw[on hk,Y7,Y7];omega
def dP.some_of{v:V}{o:Option Value}(r:dP (some v) o):∃u,o=some u/\aT v u:=by
 cases o with
 | none=>exact (show False from r).elim
 | some u=>exact⟨u,rfl,r⟩
def dP.none_of{o:Option Value}(r:dP none o):o=none:=by
 cases o with
 | none=>rfl
 | some u=>exact (show False from r).elim
def P3{v:V}{u:Value}(r:aT v u):W.handedIn u=true:=by
 cases v with
 | non=>cases (show u=Value.none from r);rfl
 | bl b=>cases (show u=Value.bool b from r);rfl
 | int i=>obtain⟨t,e⟩:=(show ∃t,u=Value.int i t from r);cases e;rfl
 | str x=>obtain⟨t,e⟩:=(show ∃t,u=Value.str x t from r);cases e;rfl
 | byt b=>obtain⟨t,e⟩:=(show ∃t,u=Value.bytes b t from r);cases e;rfl
 | flt b=>obtain⟨t,e⟩:=(show ∃t,u=Value.float b t from r);cases e;rfl
 | ref a=>cases (show u=Value.ref a from r);rfl
 | ty n=>cases (show u=Value.type n from r);rfl
section
variable {P:Program}{w:World}{H H':Hp}{h h':Heap}{a C dx:Addr}{fs fs':List (Str × V)}
def qH(hok:bT P w H h)(e:H a=some (.ins C dx fs)):∃mA,jH h a dx C mA/\(∀f,dP (fs.lookup f) (mA f))/\PySem.Within mA (fs.map (·.1))/\fs.length<=1000/\H dx=some (.own a):=by
 obtain⟨d,z,ne,b,mA,n,r,q⟩:=(show ci P w H h a (.ins C dx fs) from hok a _ e);exact⟨mA,⟨b,n,ne⟩,r,q,z,d⟩
end
structure cF (K:W.Frag) (C:Addr):Prop where
 pg:W.plainGet K C Str.empty=true
 hd:W.hasDictIn K C=true
 po:W.plainOver K C=true
 sa:W.findIn K (.ref C) "__setattr__" = some (some (.builtin "object.__setattr__"))
def cF.get{K:W.Frag}{C:Addr}(c:cF K C)(f:Str):W.plainGet K C f=true:=c.pg
def bP(K:W.Frag)(C:Addr)(f:Str):Prop:=W.findIn K (.ref C) f=some none
def bP.taker{K:W.Frag}{C:Addr}{f:Str}(n:bP K C f):W.takerIn K C f=some none:=by
 unfold W.takerIn;rw[show W.findIn K (.ref C) f=some none from n]
 rfl
structure X8 (K:W.Frag) (C:Addr) (f:Str) (v:V) (u:Value):Prop where
 at_:W.findIn K (.ref C) f=some (some u)
 rel:aT v u
 get:W.specialIn K u "__get__" = some none
 cp:W.copiedNames.contains f=false
structure bd (K:W.Frag) (C:Addr) (m:Str) (f:Addr):Prop where
 at_:W.findIn K (.ref C) m=some (some (.ref f))
 fn:W.isFn K (.ref f)=true
 kp:W.keepIn K (.ref f)=true
section
variable {X:Cx}{pins:List (Addr × Obj)}{σ:St}{H:Hp}{s:g0}{a C dx:Addr}{fs:List (Str × V)}{f:Str}{v:V}{A:Around}{E:Value->g0->Prop}
def E2{b:Bool}{Q:Value->g0->Prop}(I:ai X pins σ H s)(e:H a=some (.ins C dx fs))(c:cF X.K C)(n:bP X.K C f)(l:fs.lookup f=some v)
 (h:∀u s',ai X pins σ H s'->aT v u->Q u s'):wpAny (model X.prog X.w) A (getAttr (.ref a) f b) Q E s:=by
 obtain⟨mA,O,r,_,_,_⟩:=qH I.hok e;obtain⟨u,g,d⟩:=dP.some_of (v:=v) (o:=mA f) (by rw[<- l];exact r f);exact Rg I.kIn O (c.get f) c.hd n g (P3 d) (h u _ (I.tok _) d)
def E1{m:Str}{g:Addr}{pl:Sem Bool}{Q:Value × List Value->g0->Prop}(I:ai X pins σ H s)(e:H a=some (.ins C dx fs))(c:cF X.K C)(k:bd X.K C m g)(l:fs.lookup m=none)
 (h:Q (.ref g,[.ref a]) s):wpAny (model X.prog X.w) A (getMethod (.ref a) m pl) Q E s:=by
 obtain⟨mA,O,r,_,_,_⟩:=qH I.hok e;have b:mA m=none:=dP.none_of (by rw[<- l];exact r m);exact Rf I.kIn O (c.get m) k.at_ k.fn b h
def Cv{y:V}{u:Value}{Q:Unit->g0->Prop}(I:ai X pins σ H s)(e:H a=some (.ins C dx fs))(c:cF X.K C)(n:bP X.K C f)(hl:fs.length<1000)(k:aT y u)
 (h:∀s',ai X pins σ (upd H a (.ins C dx (bZ f y fs))) s'->Q () s'):wpAny (model X.prog X.w) A (setAttr (.ref a) f u) Q E s:=by
 obtain⟨mA,O,r,i,_,j⟩:=qH I.hok e;have hz:(fs.map (·.1)).length<=sizeLine:=by rw[Yl,sizeLine_eq];omega
 refine Km I.kIn O c.sa c.po n.taker c.hd i hz λh' d sb=>h _ ?_;have hd:∃o,h'.get? dx=some o:=let ⟨o,_,_,e',_⟩:=d.ns;⟨o,e'⟩
 refine I.write (x:=a) (e:=dx) (by rw[e];exact True.intro) (.inr j) (λb q hb z=>(sb.2 b hb).trans z) hd ?_;refine⟨by rw[ay O.ne];exact j,?_,O.ne,d.obj,_,d.ns,λg=>?_,λg l=>?_⟩
 ·have:=Ed f y fs;omega
 ·show dP ((bZ f y fs).lookup g) (if g=f then some u else mA g);rw[D8];by_cases q:g=f
  ·rw[aaa q,aaa q];exact k
  ·rw[on q,on q];exact r g
 ·by_cases q:g=f
  ·rw[q];exact (vk f y fs).1
  ·refine (vk f y fs).2 g (i g λz=>l ?_);show (if g=f then some u else mA g)=none;rw[on q];exact z
def ai.made(I:ai X pins σ H s):ai X pins σ (upd (upd H s.heap.objs.size (.own (s.heap.objs.size+1))) (s.heap.objs.size+1) (.ins C s.heap.objs.size []))
 { s with heap:=(s.heap.push W.emptyDict).push (W.instObj C s.heap.objs.size) }:=by
 have c:(s.heap.push W.emptyDict).get? s.heap.objs.size=some W.emptyDict:=YR s.heap rfl;have f:((s.heap.push W.emptyDict).push (W.instObj C s.heap.objs.size)).get? (s.heap.objs.size+1)=some (W.instObj C s.heap.objs.size):=by
  have:=YR (s.heap.push W.emptyDict) (o:=W.instObj C s.heap.objs.size) rfl
  rwa [ZG]at this
 have g:(s.heap.push W.emptyDict).Ns s.heap.objs.size (λ_=>none):=⟨W.emptyDict,#[],_,c,rfl,(λe he=>aab he (by simp)),λ_=>rfl⟩;have h:=I.laid (a:=s.heap.objs.size) (o:=.own (s.heap.objs.size+1)) (h':=s.heap.push W.emptyDict) (t':=s.toks) (λb u q=>YA _ q) (Ym _) ⟨_,c⟩;refine h.laid (a:=s.heap.objs.size+1) (o:=.ins C s.heap.objs.size []) (t':=s.toks) (λb u q=>YA _ q) (ZP (ZG _ _)) ?_;have ne:s.heap.objs.size≠s.heap.objs.size+1:=YB (Yu _);refine⟨by rw[ay ne,aJ],YS _,ne,f,λ_=>none,(Heap.Ns1.of_empty g).at λo q=>YA _ q,λ_=>True.intro,λy d=>aab rfl d⟩
def VU{prog:Program}{w:World}{env:Env}{e:Expr}{f:Str}{pos:Pos}{s:g0}{Q:Value->g0->Prop}(hb:attributeBase e f env (eval e env)=eval e env)
 (h:wpAny (model prog w) A (eval e env) (λo a=>wpAny (model prog w) A (getAttr o f true) Q E a) E s):wpAny (model prog w) A (eval (.Attribute e f pos) env) Q E s :=
 Attribute_any_ h (by rw[arm_eval_Attribute,hb])
end
def B0(K:W.Frag)(c:TE)(f:Str):TE:=λσ H Q=>c σ H λx b=>∃a C dx fs v,x=.ref a/\b a=some (.ins C dx fs)/\cF K C/\bP K C f/\fs.lookup f=some v/\Q v b
def CS(K:W.Frag)(d c:TE)(f:Str):TS:=λD σ H=>c σ H λy e=>d σ e λx b=>∃a C dx fs,x=.ref a/\b a=some (.ins C dx fs)/\cF K C/\bP K C f/\fs.length<1000 /\
 D.nx σ (upd b a (.ins C dx (bZ f y fs)))
def Gu(X:Cx)(b:Operator)(rd:V->V->Hp->VK->Prop):Prop :=
 ∀(a:List (Addr × Obj)) (s:g0) (σ:St) (H:Hp) (x y:V) (u v:Value) (Q:VK),ai X a σ H s->aT x u->aT y v->rd x y H Q->wpAny (model X.prog X.w) X.A (inplaceOp b u v) (EP X a σ Q) X.xe s
def CQ(K:W.Frag)(g d:TE)(rd:V->V->Hp->VK->Prop)(f:Str):TS:=λD σ H=>g σ H λx b=>∃a C dx fs v,x=.ref a/\b a=some (.ins C dx fs)/\cF K C/\bP K C f/\fs.lookup f=some v /\
 d σ b λy e=>rd v y e λz c=>∃dx' fs',c a=some (.ins C dx' fs')/\fs'.length<1000/\D.nx σ (upd c a (.ins C dx' (bZ f z fs')))
section
variable {X:Cx}{o e value:Expr}{f:Str}{pos pos' tpos:Pos}{ta tv:TE}
def MU(he:PE X e ta)(hb:attributeBase e f X.env (eval e X.env)=eval e X.env):PE X (.Attribute e f pos) (B0 X.K ta f):=by
 intro b s σ H Q I h;refine VU hb (aB (he b s σ H _ I h) λu s1 ⟨x,g,m,i,a,C,dx,fs,v,ex,d,c,n,l,q⟩=>?_);subst ex;obtain rfl:u=Value.ref a:=i;exact E2 m d c n l λp o j k=>⟨v,g,j,k,q⟩
def Mm(m:PE X o ta)(r:PE X value tv)(hs:swapsWith value (some (.Attribute o f pos')) pos.line X.env=pure false):PS X (.Assign [.Attribute o f pos'] value pos) (CS X.K ta tv f):=by
 intro b s σ H D I h;refine plainObj_wpAny_Assign_Attribute (aB (r b s σ H _ I h) λu s1 ⟨y,g,z,i,q⟩=>aB (m b s1 σ g _ z q) λv B ⟨x,G,k,j,a,C,dx,fs,ex,d,c,n,l,p⟩=>?_) hs;subst ex;obtain rfl:v=Value.ref a:=j;exact Cv k d c n l i λF e=>⟨σ,_,e,p⟩
def Ml{g:Operator}{rd:V->V->Hp->VK->Prop}(O:PE X o ta)(U:PE X value tv)(e:Gu X g rd):PS X (.AugAssign (.Attribute o f tpos) g value pos) (CQ X.K ta tv rd f):=by
 intro b s σ H D I h;refine wpAny_AugAssign_AttributeAny (aB (O b s σ H _ I h) λF s1 ⟨x,Y,G,rx,a,C,dx,fs,v,ex,J,c,n,l,q⟩=>?_);subst ex;obtain rfl:F=Value.ref a:=rx;refine E2 G J c n l λu i N ru=>aB (U b i σ Y _ N q) λw3 k ⟨y,r,j,m,W⟩=>aB (e b k σ r v y u w3 _ j ru m W) λw4 s4 ⟨z,H3,L,p,M,R,d,S,q4⟩=>?_;exact Cv L d c n S p λs5 B=>⟨σ,_,B,q4⟩
def C4:V->V->Hp->VK->Prop:=λx y H Q=>∃i j,x=.int i/\y=.int j/\Q (.int (i+j)) H
def PJ:Gu X .Add C4:=by
 rintro a s σ H x y u v Q I c b ⟨i,j,rfl,rfl,q⟩;obtain⟨t,rfl⟩:=(show ∃t,u=Value.int i t from c);obtain⟨t',rfl⟩:=(show ∃t',v=Value.int j t' from b);exact PyProof.Rows.iadd_int ⟨.int (i+j),H,I.tok _,⟨_,rfl⟩,q⟩
end
section
variable {X:Cx}{pins:List (Addr × Obj)}{σ:St}{H:Hp}{s:g0}{A:Around}{E:Value->g0->Prop}{Q:Value->g0->Prop}{c:Value}{b:Bool}
inductive cw (K:W.Frag) (H:Hp):V->Value->Prop where
 | non:cw K H .non (.type "NoneType")
 | bl (x:Bool):cw K H (.bl x) (.type "bool")
 | int (i:Int):cw K H (.int i) (.type "int")
 | str (x:Str):cw K H (.str x) (.type "str")
 | flt (x:UInt64):cw K H (.flt x) (.type "float")
 | lst {a:Addr} {xs:List V} (e:H a=some (.lst xs)):cw K H (.ref a) (.type "list")
 | frz {a:Addr} {o:Obj} {xs:List V} (e:H a=some (.frz o (.lst xs))):cw K H (.ref a) (.type "list")
 | tup {a:Addr} {xs:List V} (e:H a=some (.tup xs)):cw K H (.ref a) (.type "tuple")
 | dK {a:Addr} {kvs:List (aU × V)} (e:H a=some (.dK kvs)):cw K H (.ref a) (.type "dict")
 | dT {a:Addr} {kvs:List (List aU × V)} (e:H a=some (.dT kvs)):cw K H (.ref a) (.type "dict")
 | ins {a C dx:Addr} {fs:List (Str × V)} (e:H a=some (.ins C dx fs)) (cl:cF K C) (ha:W.findIn K (.ref C) "__class__" = some (some (.builtin "object.__class__")))
  (hn:W.specialIn K (.builtin "object.__class__") "__get__" = some (some (.builtin "getset_descriptor.__get__"))) (htk:W.takesIn K (.builtin "object.__class__")=some true)
  (hm:W.mroIn K C (.type "object")=some true):cw K H (.ref a) (.ref C)
def Ej{x:V}{u t:Value}(I:ai X pins σ H s)(d:aT x u)(ty:cw X.K H x t)(e:W.kitOne X.K t c=some b)(h:∀tk,Q (.bool b) { s with toks:=tk }) :
 wpAny (model X.prog X.w) A (call (.builtin "isinstance") [u,c]) Q E s:=by
 cases ty with
 | non=>cases (show u=Value.none from d);exact W.kia_one W.kitx_none I.kIn True.intro e (λz=>nomatch z) h
 | bl y=>cases (show u=Value.bool y from d);exact W.kia_one W.kitx_bool I.kIn True.intro e (λz=>nomatch z) h
 | int i=>obtain⟨t,q⟩:=(show ∃t,u=Value.int i t from d);cases q;exact W.kia_one W.kitx_int I.kIn True.intro e (λz=>nomatch z) h
 | str y=>obtain⟨t,q⟩:=(show ∃t,u=Value.str y t from d);cases q;exact W.kia_one W.kitx_str I.kIn True.intro e (λz=>nomatch z) h
 | flt y=>obtain⟨t,q⟩:=(show ∃t,u=Value.float y t from d);cases q;exact W.kia_one W.kitx_float I.kIn True.intro e (λz=>nomatch z) h
 | @lst a xs ea =>
  cases (show u=Value.ref a from d);obtain⟨_,_,n,_,f⟩:=(show ci X.prog X.w H s.heap a (.lst xs) from I.hok a _ ea);exact W.kia_one W.kitx_list I.kIn ⟨_,f,rfl⟩ e (λz=>nomatch z) h
 | @frz a ob xs ea =>
  cases (show u=Value.ref a from d);obtain⟨_,_,_,n,_,f⟩:=(show ci X.prog X.w H s.heap a (.frz ob (.lst xs)) from I.hok a _ ea);exact W.kia_one W.kitx_list I.kIn ⟨_,f,rfl⟩ e (λz=>nomatch z) h
 | @tup a xs ea =>
  cases (show u=Value.ref a from d);obtain⟨_,_,_,p⟩:=(show ci X.prog X.w H s.heap a (.tup xs) from I.hok a _ ea);obtain⟨o,f,g,_⟩:=p;exact W.kia_one W.kitx_tuple I.kIn ⟨o,f,g⟩ e (λz=>nomatch z) h
 | @dK a kvs ea =>
  cases (show u=Value.ref a from d);obtain⟨_,_,vs,_,p⟩:=(show ci X.prog X.w H s.heap a (.dK kvs) from I.hok a _ ea);obtain⟨o,j,k,f,g,_⟩:=p;exact W.kia_one W.kitx_dict I.kIn ⟨o,f,g.1⟩ e (λz=>nomatch z) h
 | @dT a kvs ea =>
  cases (show u=Value.ref a from d);obtain⟨_,_,xs,_,o,j,k,f,g,_⟩:=(show ci X.prog X.w H s.heap a (.dT kvs) from I.hok a _ ea);exact W.kia_one W.kitx_dict I.kIn ⟨o,f,g.1⟩ e (λz=>nomatch z) h
 | @ins a C dx fs ea cl ha hn htk hm =>
  cases (show u=Value.ref a from d);obtain⟨mA,O,_⟩:=qH I.hok ea;obtain⟨l,J,_⟩:=O.look;exact W.kia_one (W.kitx_own (cl.get _) cl.hd ha hn htk hm) I.kIn J e (λz=>nomatch z) h
end
structure bS (k:Nat) (A:Around):Prop where
 hd:A.handled=none
 dp:A.depth+3*k+5<recursionLimit
 un:A.units+16*k+200<cLine
def bS.mono{j k:Nat}{A:Around}(r:bS k A)(h:j<=k):bS j A:=⟨r.hd,by have:=r.dp;omega,by have:=r.un;omega⟩
def bS.deeper{k:Nat}{A:Around}(r:bS (k+1) A)(env:Env):bS k (A.deeper env) :=
 ⟨r.hd,by have:=r.dp;show A.depth+1+3*k+5<_;omega,by have:=r.un;show A.units+3+16*k+200<_;omega⟩
def O4 {A:Around} {C:Addr} {us:List Value} {a:List (Str × Value)}:(A.under (.builtin "type.__call__" ⟨.ref C::us,a⟩)).depth=A.depth+1:=by
 first|rfl|simp[Around.under,Code.weight,Code.isCreation,Code.isGuard,Code.isCaller,Code.frames,Code.isFrame,guardIds]
def O1 {A:Around} {C:Addr} {us:List Value} {a:List (Str × Value)}:(A.under (.builtin "type.__call__" ⟨.ref C::us,a⟩)).units=A.units+1:=by
 first|rfl|simp[Around.under,Code.cUnits,Code.frames,Code.isFrame]
def bS.make {k:Nat} {A:Around} (r:bS (k+1) A) (C:Addr) (us:List Value) (a:List (Str × Value)):bS k (A.under (.builtin "type.__call__" ⟨.ref C::us,a⟩)) :=
 ⟨r.hd,by have:=r.dp;rw[O4];omega,by have:=r.un;rw[O1];omega⟩
def bS.depth{k:Nat}{A:Around}(r:bS k A):A.depth<recursionLimit:=by have:=r.dp;omega
def bS.units{k:Nat}{A:Around}(r:bS k A):A.units+64<cLine:=by have:=r.un;omega
def jL:TA:=λ_ H Q=>Q [] H
def uj(b:TE)(d:TA):TA:=λσ H Q=>b σ H λx c=>d σ c λxs a=>Q (x::xs) a
section
variable {X:Cx}{e:Expr}{es:List Expr}{te:TE}{t:TA}{pos:Pos}
def Du:PA X [] jL:=λ_ _ _ _ H Q I h=>Calls.spliced_nil ⟨[],H,I,.nil,h⟩
def Na(g:PE X e te)(hr:PA X es t)(hs:starEach (e::es) X.env=(false,eval e X.env)::starEach es X.env:=by rfl):PA X (e::es) (uj te t):=by
 intro pos a s σ H Q I h;rw[hs];show wpAny _ _ (spliced ((false,eval e X.env)::backTo pos (starEach es X.env))) _ _ s;refine Calls.spliced_cons (aB (g a s σ H _ I h) λu s1 ⟨x,b,k,d,c⟩=>?_);exact aB (hr pos a s1 σ b _ k c) λus m ⟨xs,j,f,l,i⟩=>⟨x::xs,j,f,.cons d l,i⟩
end
abbrev Sp:=List V->Hp->VK->XK->Prop
abbrev gj:=List Env->Hp->g0->XK->Value->g0->Prop
structure ja (P:Program) (w:World) (K:W.Frag) (mg:Str->Option Value) (base:Heap) (A:Around) (outer:List Env) (s:g0) (H:Hp):Prop where
 frames:A.frames=some outer
 mod:Mod K mg base
 bs:∀b o,base.get? b=some o->s.heap.get? b=some o/\H b=none
 bsz:base.objs.size<=s.heap.objs.size
 funs:s.heap.FunFrames base outer
 frf:∀b∈dJ outer,H b=none
 hok:bT P w H s.heap
 bare:AllBare s.gens
def CE(outer:List Env)(P:Program)(w:World)(H:Hp)(s:g0)(Q:VK)(u:Value)(a:g0):Prop :=
 ∃v H',a.os=s.os/\AllBare a.gens/\Un (dJ outer) [] H H' s.heap a.heap/\bT P w H' a.heap/\aT v u/\Q v H'
def CR(CX:gj)(outer:List Env)(P:Program)(w:World)(H:Hp)(s:g0)(Q:VK)(E:XK)(r:Result)(a:g0):Prop :=
 match r with
 | .ok (.ret u)=>CE outer P w H s Q u a
 | .ok _=>False
 | .error e=>CX outer H s E e a
structure bH (P:Program) (w:World) (K:W.Frag) (mg:Str->Option Value) (base:Heap) (CX:gj) (k:Nat) (f:Addr) (fd:FuncData) (ps:List Str) (sp:Sp):Prop where
 len:∀vs H Q E,sp vs H Q E->vs.length=ps.length
 run:∀(A:Around) (outer:List Env) (s:g0) (H:Hp) (args:Args) (us:List Value) (vs:List V) (Q:VK) (E:XK),bS k A->ja P w K mg base A outer s H->BindsTo s fd args (ps.zip us)->aM vs us->sp vs H Q E ->
  codeAny (model P w) A (.call (.ref f) args) (CR CX outer P w H s Q E) s
def ja.make{P:Program}{w:World}{K:W.Frag}{mg:Str->Option Value}{base:Heap}{A:Around}{outer:List Env}{s:g0}{H:Hp}(e:ja P w K mg base A outer s H)(C:Addr)(us:List Value)(a:List (Str × Value)) :
 ja P w K mg base (A.under (.builtin "type.__call__" ⟨.ref C::us,a⟩)) outer s H:=⟨by first|exact e.frames|(simpa [Around.under,Code.envs,Code.isFrame,pushEnvs] using e.frames),e.mod,e.bs,e.bsz,e.funs,e.frf,e.hok,e.bare⟩
section
variable {X:Cx}{pins:List (Addr × Obj)}{σ:St}{H:Hp}{s s':g0}
def ai.env0(I:ai X pins σ H s):ja X.prog X.w X.K X.mg X.base X.A X.stack s H :=
 ⟨I.ok.frames,I.ok.mod,I.bs,YK I.ok.bsz I.sz,I.stack,I.stkFree,I.hok,I.bare⟩
def ai.after{Q:VK}{u:Value}(I:ai X pins σ H s)(h:CE X.stack X.prog X.w H s Q u s'):EP X pins σ Q u s':=by
 obtain⟨v,c,os,bare,un,hok,r,q⟩:=h;obtain⟨e,g,d,t,a⟩:=s';obtain rfl:a=s.os:=os;exact⟨v,c,I.call (h':=e) (g':=g) (d':=d) (t':=t) (ch:=[]) un hok bare (λb z=>aab z (by simp)),r,q⟩
end
def jM(sp:Sp)(a:List V)(E:XK)(t:TA):TE:=λσ H Q=>t σ H λvs b=>sp (vs++a) b Q E
def fh(C:Addr)(m:Str)(sp:Sp)(b:List V)(E:XK)(e:TE)(t:TA):TE:=λσ H Q=>e σ H λx c=>∃a dx fs,x=.ref a/\c a=some (.ins C dx fs)/\fs.lookup m=none /\
 t σ c λvs d=>sp (x::(vs++b)) d Q E
def pR(C:Addr)(sp:Sp)(b:List V)(E:XK)(t:TA):TE:=λσ H Q=>t σ H λvs a=>∀x dx,a x=none->a dx=none->dx≠x ->
 sp (.ref x::(vs++b)) (upd (upd a dx (.own x)) x (.ins C dx [])) (λv c=>v=.non/\Q (.ref x) c) E
def ak(K:W.Frag)(a:FuncData)(ps:List Str)(ds:List Value):Prop :=
 ∀(s:g0) (us:List Value),K.In s.heap->(us++ds).length=ps.length->BindsTo s a ⟨us,[]⟩ (ps.zip (us++ds))
def ak.all{K:W.Frag}{a:FuncData}{ps:List Str}(h:∀us:List Value,us.length=ps.length->bindArgs a ⟨us,[]⟩=pure (ps.zip us)):ak K a ps []:=λs us _ hl=>by
 rw[Y8]at hl ⊢;exact .of_eq (h us hl)
def iA(CX:gj)(X:Cx)(E:XK):Prop:=∀(a:List (Addr × Obj)) (σ:St) (H:Hp) (s:g0) (e:Value) (b:g0),ai X a σ H s->CX X.stack H s E e b->X.xe e b
section
variable {X:Cx}{CX:gj}{k:Nat}{f C:Addr}{fd:FuncData}{ps:List Str}{sp:Sp}{dvs:List V}{ds:List Value}{E:XK}{x m:Str}{p pos apos:Pos}{e o:Expr}{es:List Expr}{ta:TE}{t:TA}
def qe{a:List (Addr × Obj)}{σ:St}{H:Hp}{s:g0}{Q:VK}{us:List Value}{vs:List V}(F:bH X.prog X.w X.K X.mg X.base CX k f fd ps sp)(hr:bS k X.A)(hb:ak X.K fd ps ds)(hd:aM dvs ds)(hx:iA CX X E)
 (I:ai X a σ H s) (r:aM vs us) (h:sp (vs++dvs) H Q E):wpAny (model X.prog X.w) X.A (call (.ref f) us) (EP X a σ Q) X.xe s:=by
 have c:aM (vs++dvs) (us++ds):=r.append hd;have hl:(us++ds).length=ps.length:=by rw[<- c.length];exact F.len _ _ _ _ h
 refine wpAny_call (codeAny_mono (F.run X.A X.stack s H ⟨us,[]⟩ (us++ds) (vs++dvs) Q E hr I.env0 (hb s us I.kIn hl) c h) λr d b=>?_);cases r with
 | error e=>exact hx a σ H s e d I b
 | ok fl =>
  cases fl with
  | ret u=>exact I.after b
  | next=>exact False.elim b
  | brk=>exact False.elim b
  | cont=>exact False.elim b
def Dr(F:bH X.prog X.w X.K X.mg X.base CX k f fd ps sp)(hr:bS k X.A)(j:Gl X x)(hm:X.mg x=some (.ref f))(i:W.keepIn X.K (.ref f)=true)(hb:ak X.K fd ps ds)(hd:aM dvs ds)(hx:iA CX X E)
 (g:PA X (e::es) t) (c:(x == ("__debug__" : Str))=false:=by decide) (he:starEach (e::es) X.env=(false,eval e X.env)::starEach es X.env:=by rfl) (b:(backTo pos (starEach es X.env)).any (·.1)=false:=by rfl) :
 PE X (.Call (.Name x p) (e::es) [] pos) (jM sp dvs E t):=by
 intro a s σ H Q I h;refine wpAny_Call_Name_kw (nX I j hm ?_ c);refine W.callWith_K (h₀:=X.base) I.ok.mod.kin i (aB (g pos a s σ H _ I h) λus s1 ⟨vs,l,d,r,q⟩=>⟨d.kIn,?_⟩) he b;exact qe F hr hb hd hx d r q
def Dp{pl:Sem Bool}(he:PE X o ta)(c:cF X.K C)(hm:bd X.K C m f)(F:bH X.prog X.w X.K X.mg X.base CX k f fd ps sp)(hr:bS k X.A)(hb:ak X.K fd ps ds)(hd:aM dvs ds)(hx:iA CX X E)(v:PA X (e::es) t)
 (hst:starEach (e::es) X.env=(false,eval e X.env)::starEach es X.env:=by rfl) (d:(backTo pos (starEach es X.env)).any (·.1)=false:=by rfl)
 (z:eval (.Call (.Attribute o m apos) (e::es) [] pos) X.env=(do
   let ov <- eval o X.env
   standAt apos.atName
   let (f,first) <- holding [ov] (getMethod ov m pl)
   callWith pos f first (backTo pos (starEach (e::es) X.env)) (backToKw pos (keywordEach [] X.env))):=by rfl) :
 PE X (.Call (.Attribute o m apos) (e::es) [] pos) (fh C m sp dvs E ta t):=by
 intro b s σ H Q I h;refine W.methodCall_KW (pl:=pl) (aB (he b s σ H _ I h) λu s1 ⟨x,n,i,p,a,dx,fs,ex,j,l,q⟩=>?_) z;subst ex;obtain rfl:u=Value.ref a:=p;refine E1 i j c hm l ?_;refine W.callWith_K (first:=[.ref a]) (h₀:=X.base) I.ok.mod.kin hm.kp (aB (v pos b s1 σ n _ i q) λus B ⟨vs,D,g,r,y⟩=>⟨g.kIn,?_⟩) hst d;exact qe (us:=.ref a::us) (vs:=.ref a::vs) F hr hb hd hx g (.cons rfl r) y
def MP{pl:Sem Bool}(he:PE X o ta)(c:cF X.K C)(hm:bd X.K C m f)(F:bH X.prog X.w X.K X.mg X.base CX k f fd ps sp)(hr:bS k X.A)(hb:ak X.K fd ps ds)(hd:aM dvs ds)(hx:iA CX X E)
 (i:eval (.Call (.Attribute o m apos) [] [] pos) X.env=(do
   let ov <- eval o X.env
   standAt apos.atName
   let (f,first) <- holding [ov] (getMethod ov m pl)
   callWith pos f first (backTo pos (starEach [] X.env)) (backToKw pos (keywordEach [] X.env))):=by rfl) :
 PE X (.Call (.Attribute o m apos) [] [] pos) (fh C m sp dvs E ta jL):=by
 intro b s σ H Q I h;refine W.methodCall_KW (pl:=pl) (aB (he b s σ H _ I h) λu s1 ⟨x,j,d,g,a,dx,fs,ex,e,l,q⟩=>?_) i;subst ex;obtain rfl:u=Value.ref a:=g;refine E1 d e c hm l ?_;exact W.callWith_K0 (first:=[.ref a]) d.kIn hm.kp (qe (us:=[.ref a]) (vs:=[.ref a]) F hr hb hd hx d (.cons rfl .nil) q)
structure Mk (K:W.Frag) (C f:Addr):Prop where
 makes:W.makesIn K C=true
 init:W.findIn K (.ref C) "__init__" = some (some (.ref f))
 fn:W.isFn K (.ref f)=true
 kp:W.keepIn K (.ref C)=true
def CY{a:List (Addr × Obj)}{σ:St}{H:Hp}{s:g0}{Q:VK}{us:List Value}{vs:List V}(M:Mk X.K C f)(F:bH X.prog X.w X.K X.mg X.base CX k f fd ps sp)(hr:bS (k+1) X.A)(hb:ak X.K fd ps ds)(hd:aM dvs ds)
 (hx:iA CX X E) (I:ai X a σ H s) (r:aM vs us)
 (h:∀x dx,H x=none->H dx=none->dx≠x->sp (.ref x::(vs++dvs)) (upd (upd H dx (.own x)) x (.ins C dx [])) (λv n=>v=.non/\Q (.ref x) n) E) :
 wpAny (model X.prog X.w) X.A (call (.ref C) us) (EP X a σ Q) X.xe s:=by
 have d:=h (s.heap.objs.size+1) s.heap.objs.size (I.hok.fresh (ZQ _)) (I.hok.fresh (Ym _)) (YB (Yu _));have c:=ai.made (C:=C) I;have g:aM (V.ref (s.heap.objs.size+1)::(vs++dvs)) (Value.ref (s.heap.objs.size+1)::(us++ds)):=.cons rfl (r.append hd);have hl:(Value.ref (s.heap.objs.size+1)::us++ds).length=ps.length:=by
  have e:=g.length;rw[F.len _ _ _ _ d]at e;exact e.symm
 refine wpAny_call (O3 (f:=f) I.kIn M.makes M.init (beq_iff_eq.mp M.fn) (codeAny_mono (F.run _ X.stack _ _ ⟨Value.ref (s.heap.objs.size+1)::us,[]⟩ (Value.ref (s.heap.objs.size+1)::(us++ds)) _ _ E (hr.make C us [])
  (c.env0.make C us []) (hb _ (Value.ref (s.heap.objs.size+1)::us) c.kIn hl) g d) λr p b=>?_))
 cases r with
 | error e=>exact hx a σ _ _ e p c b
 | ok fl =>
  cases fl with
  | ret u =>
   obtain⟨v,l,i,m,j,o⟩:=c.after b;subst j;exact⟨m,⟨V.ref (s.heap.objs.size+1),l,i,rfl,o⟩⟩
  | next=>exact False.elim b
  | brk=>exact False.elim b
  | cont=>exact False.elim b
def MR(M:Mk X.K C f)(F:bH X.prog X.w X.K X.mg X.base CX k f fd ps sp)(hr:bS (k+1) X.A)(i:Gl X x)(hm:X.mg x=some (.ref C))(hb:ak X.K fd ps ds)(hd:aM dvs ds)(hx:iA CX X E)
 (g:PA X (e::es) t) (c:(x == ("__debug__" : Str))=false:=by decide) (he:starEach (e::es) X.env=(false,eval e X.env)::starEach es X.env:=by rfl) (b:(backTo pos (starEach es X.env)).any (·.1)=false:=by rfl) :
 PE X (.Call (.Name x p) (e::es) [] pos) (pR C sp dvs E t):=by
 intro a s σ H Q I h;refine wpAny_Call_Name_kw (nX I i hm ?_ c);refine W.callWith_K (h₀:=X.base) I.ok.mod.kin M.kp (aB (g pos a s σ H _ I h) λus s1 ⟨vs,j,d,r,q⟩=>⟨d.kIn,?_⟩) he b;exact CY M F hr hb hd hx d r q
def MQ(M:Mk X.K C f)(F:bH X.prog X.w X.K X.mg X.base CX k f fd ps sp)(hr:bS (k+1) X.A)(c:Gl X x)(hm:X.mg x=some (.ref C))(hb:ak X.K fd ps ds)(hd:aM dvs ds)(hx:iA CX X E)
 (a:(x == ("__debug__" : Str))=false:=by decide):PE X (.Call (.Name x p) [] [] pos) (pR C sp dvs E jL):=by
 intro b s σ H Q I h;refine wpAny_Call_Name_kw (nX I c hm ?_ a);exact W.callWith_K0 I.kIn M.kp (CY (us:=[]) M F hr hb hd hx I .nil h)
end
section
variable {X:Cx}{CX:gj}{k:Nat}{f C:Addr}{fd:FuncData}{ps ks:List Str}{sp:Sp}{E:XK}{x m:Str}{p pos apos kpos:Pos}{e o:Expr}{es:List Expr}{kws:List Keyword}{te ta:TE}{t tk:TA}{nm:Option Str}
structure XV (K:W.Frag) (fd:FuncData) (ps ks:List Str) (g:List Value->List Value->List Value) (gV:List V->List V->List V):Prop where
 to:∀(s:g0) (us ws:List Value),K.In s.heap->(g us ws).length=ps.length->BindsTo s fd ⟨us,ks.zip ws⟩ (ps.zip (g us ws))
 rel:∀ {vs:List V} {us:List Value} {zs:List V} {ws:List Value},aM vs us->aM zs ws->aM (gV vs zs) (g us ws)
variable {g:List Value->List Value->List Value}{gV:List V->List V->List V}
end
structure ax (N P:List Str) (sc:Scope):Prop where
 kind:sc.kind=.function
 co:sc.isCoroutine=false
 gen:sc.isGenerator=false
 nd:N.Nodup
 pre:N.take P.length=P
 par:∀x∈P,sc.names.lookup x=some .local\/sc.names.lookup x=some .cell
 nofree:∀y∈sc.names,y.2 ≠ .free
theorem Ga{kindOf:Str->Option NameKind}{x:Str}:∀ {binds:List (Str × Value)} {m:Str->Option Value},(∀v,(x,v)∉binds)->bindL kindOf binds m x=m x
 | [],_,_=>rfl
 | (n,v)::r,m,h=>by
  unfold bindL;rw[Ga λw hw=>h w (Y6 _ hw)]
  split
  ·have:x≠n:=by rintro rfl;exact h v Zo
   simp[this]
  ·rfl
theorem Gc{kindOf:Str->Option NameKind}{x:Str}:∀ {binds:List (Str × Value)} {m:Str->Option Value},(∀v,(x,v)∉binds)->bindC kindOf binds m x=m x
 | [],_,_=>rfl
 | (n,v)::r,m,h=>by
  unfold bindC;rw[Gc λw hw=>h w (Y6 _ hw)]
  split
  ·rfl
  ·have:x≠n:=by rintro rfl;exact h v Zo
   simp[this]
theorem Gb{kindOf:Str->Option NameKind}{x:Str}{v:Value}:∀ {P:List Str} {vs:List Value} {i:Nat} {m:Str->Option Value},P.Nodup->P[i]? = some x->vs[i]? = some v->kindOf x=some .local ->
 bindL kindOf (P.zip vs) m x=some v
 | [],_,_,_,_,h,_,_=>by simp at h
 | _::_,[],_,_,_,_,h,_=>by simp at h
 | p::P,w::vs,0,m,nd,h1,h2,hk=>by
  simp at h1 h2;subst h1;subst h2;show bindL kindOf ((p,w)::P.zip vs) m p=_;unfold bindL;rw[Ga λv a=>(ZR.mp nd).1 (a0u a).1,aaa hk];simp
 | p::P,w::vs,i+1,m,nd,h1,h2,hk=>by
  show bindL kindOf ((p,w)::P.zip vs) m x=_;unfold bindL;exact Gb (i:=i) (ZR.mp nd).2 (by simpa using h1) (by simpa using h2) hk
theorem Gd{kindOf:Str->Option NameKind}{x:Str}{v:Value}:∀ {P:List Str} {vs:List Value} {i:Nat} {m:Str->Option Value},P.Nodup->P[i]? = some x->vs[i]? = some v->kindOf x≠some .local ->
 bindC kindOf (P.zip vs) m x=some v
 | [],_,_,_,_,h,_,_=>by simp at h
 | _::_,[],_,_,_,_,h,_=>by simp at h
 | p::P,w::vs,0,m,nd,h1,h2,hk=>by
  simp at h1 h2;subst h1;subst h2;show bindC kindOf ((p,w)::P.zip vs) m p=_;unfold bindC;rw[Gc λv a=>(ZR.mp nd).1 (a0u a).1,on hk];simp
 | p::P,w::vs,i+1,m,nd,h1,h2,hk=>by
  show bindC kindOf ((p,w)::P.zip vs) m x=_;unfold bindC;exact Gd (i:=i) (ZR.mp nd).2 (by simpa using h1) (by simpa using h2) hk
def gL(N:List Str)(vs:List V):St:=vs.map some++List.replicate (N.length-vs.length) none
def i0(CX:gj)(P:Program)(w:World)(K:W.Frag)(mg:Str->Option Value)(base:Heap)(N:List Str)(qual:Str)(scope:Scope)(f:Addr)(b:Value)(A:Around)(outer:List Env)(s:g0)(H:Hp)(E:XK):Cx where
 prog:=P
 w:=w
 K:=K
 mg:=mg
 base:=base
 A:=A.deeper (envOfC qual scope s.heap.objs.size f b)
 N:=N
 s₀:=s
 H₀:=H
 env:=envOfC qual scope s.heap.objs.size f b
 outer:=outer
 stack:=envOfC qual scope s.heap.objs.size f b::outer
 ex:=[]
 calm:=true
 fn:=λ_=>true
 pn:=[]
 xe:=λe c=>wpAny (model P w) (A.deeper (envOfC qual scope s.heap.objs.size f b)) (leaving (envOfC qual scope s.heap.objs.size f b) e) (λ_ a=>CX outer H s E e a) (λe' a=>CX outer H s E e' a) c
def FO{a:Scope}{n:Nat}{x:Str}(h:a.names.lookup x=some .cell):∃c,(cellsFrom n a.names []).lookup x=some c:=by
 have q:=W.cellsFrom_some a.names n [] (.inl h);exact a1z.mp q
def PD{CX:gj}{P:Program}{w:World}{K:W.Frag}{mg:Str->Option Value}{base:Heap}{N ps:List Str}{qual:Str}{scope:Scope}{f:Addr}{B:Value}{A:Around}{outer:List Env}{s s1:g0}{H:Hp}{E:XK}{us:List Value}{vs:List V}
 (S:ax N ps scope) (hd:A.handled=none) (g:ja P w K mg base A outer s H) (hl:vs.length=ps.length) (r:aM vs us)
 (x:InCallC s s.heap.objs.size (bindL (envOfC qual scope s.heap.objs.size f B).kindOf (ps.zip us) λ_=>none) (cellsFrom (s.heap.objs.size+1) scope.names []) (bindC (envOfC qual scope s.heap.objs.size f B).kindOf (ps.zip us) λ_=>none) s1) :
 ai (i0 CX P w K mg base N qual scope f B A outer s H E) [] (gL N vs) H s1:=by
 have F:ps.length<=N.length:=by have:=congrArg List.length S.pre;rw[Yp]at this;omega
 obtain⟨o,J,rfl,D⟩:=x.done;have noA:∀b:Addr,b∉(i0 CX P w K mg base N qual scope f B A outer s H E).ex:=λb z=>aab (show b∈([]:List Addr) from z) (by simp);refine⟨⟨g.mod,S.kind,rfl,rfl,Ym _,λy z c o d=>?_,λy j=>?_,λy c _ h=>?_,λ_=>hd,Around.frames_deeper g.frames,.inr ⟨rfl,rfl⟩,λb z=>aab z (noA b),g.bs,g.bsz,λb _ _=>noA b,λb z=>aab z (noA b),g.funs,g.frf⟩,
  rfl,g.bare,Un.kept D,⟨_,x.toInCall.ns,λi y v o d L=>?_⟩,λy c h=>⟨_,x.cell y c h⟩,g.hok.fresh (Ym _),λy c h=>?_,λp l=>aab (show p∈([]:List (Addr × Obj)) from l) (by simp),g.hok.kept D,?_⟩
 ·exact name_of_addr x.apart (ZS o) (ZS d)
 ·have j:scope.names.lookup y=some .cell\/scope.names.lookup y=some .free:=j;rcases j with j|j
  ·exact FO j
  ·exact aab rfl (S.nofree _ (ZS j))
 ·exact a0s (x.above y c (ZS h))
 ·have m:i<vs.length:=by
   unfold gL at d;by_cases m:i<vs.length
   ·exact m
   ·rw[Zi (by simpa using m)]at d;rw[a0a]at d
    split at d<;>cases d
  have I:vs[i]? = some v:=by
   unfold gL at d;rw[Zj (by simpa using m),Yt]at d;cases e:vs[i]? with
   | none=>rw[e]at d;cases d
   | some a=>rw[e]at d;cases d;rfl
  obtain⟨u,C,G⟩:=r.get I;have l:ps[i]? = some y:=by
   rw[<- S.pre,Zt (by omega)];exact o
  have ndP:ps.Nodup:=by rw[<- S.pre];exact S.nd.sublist (List.take_sublist _ _)
  refine⟨u,G,?_⟩;rcases S.par y (YD l) with k|k
  ·exact .inl ⟨k,Gb ndP l C k⟩
  ·obtain⟨c,e⟩:=FO (n:=s.heap.objs.size+1) k;refine .inr ⟨.inl k,c,e,?_⟩;have q:=x.cell y c e;rw[Gd ndP l C (by show scope.names.lookup y≠_;rw[k];decide)]at q;exact q
 ·exact g.hok.fresh (a0s (x.above y c (ZS h)))
 ·unfold gL;show _=N.length;rw[Yo,Yl,ZH];omega
def Fn{CX:gj}{P:Program}{w:World}{K:W.Frag}{mg:Str->Option Value}{base:Heap}{k:Nat}{f:Addr}{name qual:Str}{params:Arguments}{body:List Stmt}{scope:Scope}{dV kV i F a ct R:Value}{D L:Option Addr}
 {m:Array (Option Value)} {N ps:List Str} {sp:Sp} (lk:K.lookup f=some ⟨R,L,.func (W.fnOf name qual params body scope dV kV i F D a ct),m⟩) (z:W.codeIn K a qual=true) (S:ax N ps scope)
 (len:∀vs H Q E,sp vs H Q E->vs.length=ps.length)
 (g:∀(A:Around) (outer:List Env) (s:g0) (H:Hp) (vs:List V) (Q:VK) (E:XK),bS k (A.deeper (envOfC qual scope s.heap.objs.size f a))->sp vs H Q E ->
   ∃t,fo (i0 CX P w K mg base N qual scope f a A outer s H E) body t/\t { nx:=λ_ c=>Q .non c,rt:=Q } (gL N vs) H) :
 bH P w K mg base CX (k+1) f (W.fnOf name qual params body scope dV kV i F D a ct) ps sp:=by
 refine⟨len,λA outer s H args us vs Q E hr h hb r j=>?_⟩;have hl:=len _ _ _ _ j;have G:K.In s.heap:=h.mod.kin.keeps λb o e=>(h.bs b o e).1;have p:s.heap.NoLimit:=h.mod.nolimit.keeps λb o e=>(h.bs b o e).1;have d:∀y∈ps.zip us,scope.names.lookup y.1=some .local\/(scope.names.lookup y.1=some .cell/\((cellsFrom (s.heap.objs.size+1) scope.names []).lookup y.1).isSome=true):=λ⟨n,v⟩ U=>by
  rcases S.par n (a0u U).1 with q|q
  ·exact .inl q
  ·exact .inr ⟨q,W.cellsFrom_some _ _ _ (.inl q)⟩
 refine codeAny_call_function hr.depth (G _ _ lk) rfl S.co S.gen rfl (W.codeRec_of G z) (hb _ _ _ _ ?_);refine wpAny_newFunctionEnv_cells S.kind d λenv he s1 x=>?_;subst he;refine⟨p.keeps x.toInCall.keep,codeAny_func ?_⟩;obtain⟨t,M,O⟩:=g A outer s H vs Q E (hr.deeper _) j;have I:ai (i0 CX P w K mg base N qual scope f a A outer s H E) [] (gL N vs) H s1:=PD S hr.hd h hl r x;refine wpAny_mono (M [] s1 (gL N vs) H _ I O) (λfl C hs=>?_) λe C hs=>hs;have fin:∀ {l:St} {c:Hp} {v:V} {u:Value},ai (i0 CX P w K mg base N qual scope f a A outer s H E) [] l c C->aT v u->Q v c->CE outer P w H s Q u C :=
  λ{l c v u} J B q=>⟨v,c,J.os,J.bare,J.base,J.hok,B,q⟩
 cases fl with
 | ret u =>
  obtain⟨v,l,c,J,B,q⟩:=hs;exact fin J B q
 | next =>
  obtain⟨l,c,J,q⟩:=hs;exact fin (v:=V.non) (u:=Value.none) J rfl q
 | brk =>
  obtain⟨_,_,_,q⟩:=hs;exact False.elim q
 | cont =>
  obtain⟨_,_,_,q⟩:=hs;exact False.elim q
section
variable {X:Cx}{x:Str}{p pos:Pos}{e:Expr}{es:List Expr}{t:TA}{id T:String}{r:List V->Hp->VK->Prop}
def jN(r:List V->Hp->VK->Prop)(t:TA):TE:=λσ H Q=>t σ H λvs a=>r vs a Q
def M5 (k:cG X (.builtin id) r) (m:Gl X x) (hm:X.mg x=none) (l:bootBuiltins x=some (.builtin id)) (j:PA X (e::es) t) (d:x ≠ "__name__":=by decide) (c:(x == ("__debug__" : Str))=false:=by decide)
 (he:starEach (e::es) X.env=(false,eval e X.env)::starEach es X.env:=by rfl) (b:(backTo pos (starEach es X.env)).any (·.1)=false:=by rfl):PE X (.Call (.Name x p) (e::es) [] pos) (jN r t):=by
 intro a s σ H Q I h;refine wpAny_Call_Name_kw (ir I m hm l ?_ d c);exact PyProof.Rows.callWith_builtin1 (aB (j pos a s σ H _ I h) λus s1 ⟨vs,f,n,i,g⟩=>k a s1 σ f vs us Q n i g) he b
def M4 (k:cG X (.type T) r) (m:Gl X x) (hm:X.mg x=none) (l:bootBuiltins x=some (.type T)) (j:PA X (e::es) t) (d:x ≠ "__name__":=by decide) (c:(x == ("__debug__" : Str))=false:=by decide)
 (he:starEach (e::es) X.env=(false,eval e X.env)::starEach es X.env:=by rfl) (b:(backTo pos (starEach es X.env)).any (·.1)=false:=by rfl):PE X (.Call (.Name x p) (e::es) [] pos) (jN r t):=by
 intro a s σ H Q I h;refine wpAny_Call_Name_kw (ir I m hm l ?_ d c);exact Zs (aB (j pos a s σ H _ I h) λus s1 ⟨vs,f,n,i,g⟩=>k a s1 σ f vs us Q n i g) he b
end
section
variable {κ:Type}[DecidableEq κ]
def bA(a:List (κ × V))(k:κ):Option V:=(a.find? λb=>decide (b.1=k)).map (·.2)
def cE(a:List (κ × V))(k:κ)(v:V):List (κ × V) :=
 if (a.any λb=>decide (b.1=k))=true then a.map (λb=>if b.1=k then (b.1,v) else b) else a++[(k,v)]
def gl{p:κ × V}{r:List (κ × V)}{k:κ}(e:p.1=k):bA (p::r) k=some p.2:=by simp[bA,Y2,e]
def gn{p:κ × V}{r:List (κ × V)}{k:κ}(e:¬p.1=k):bA (p::r) k=bA r k:=by simp[bA,Y2,e]
theorem m5(k:κ):∀kvs:List (κ × V),(kvs.any λa=>decide (a.1=k))=(bA kvs k).isSome
 | []=>rfl
 | p::r=>by
  rw[ZI];by_cases e:p.1=k
  ·simp only [gl e,aad e,Bool.true_or,Option.isSome_some]
  ·rw[gn e,aae e,Bool.false_or];exact m5 k r
theorem Bw(k j:κ)(y:V):∀kvs:List (κ × V),bA (kvs.map λa=>if a.1=k then (a.1,y) else a) j=(bA kvs j).map λx=>if j=k then y else x
 | []=>rfl
 | p::r=>by
  have ih:=Bw k j y r;rw[YO];by_cases h:p.1=k
  ·rw[aaa h];by_cases e:p.1=j
   ·rw[gl (p:=(p.1,y)) e,gl e,Y9,aaa (e.symm.trans h)]
   ·rw[gn (p:=(p.1,y)) e,gn e,ih]
  ·rw[on h];by_cases e:p.1=j
   ·rw[gl (p:=p) e,gl e,Y9,on (λz=>h (e.trans z))]
   ·rw[gn (p:=p) e,gn e,ih]
theorem Bv(k j:κ)(y:V):∀kvs:List (κ × V),bA kvs k=none->bA (kvs++[(k,y)]) j=if j=k then some y else bA kvs j
 | [],_=>by
  by_cases e:k=j
  ·rw[aaa e.symm];exact gl (p:=(k,y)) e
  ·rw[on (λz=>e z.symm)];exact gn (p:=(k,y)) e
 | p::r,hn=>by
  rw[List.cons_append];have a:¬p.1=k:=λz=>by rw[gl z]at hn;cases hn
  rw[gn a]at hn;have ih:=Bv k j y r hn;by_cases e:p.1=j
  ·rw[gl e,gl e,on (λz=>a (e.trans z))]
  ·rw[gn e,gn e,ih]
def ie(b:List (κ × V))(k j:κ)(y:V):bA (cE b k y) j=if j=k then some y else bA b j:=by
 unfold cE;by_cases a:(b.any λc=>decide (c.1=k))=true
 ·rw[aaa a,Bw];rw[m5]at a;by_cases e:j=k
  ·obtain⟨x,hx⟩:=a1z.mp a;rw[aaa e,e,hx,Y9,aaa rfl]
  ·rw[on e];cases bA b j with
   | none=>rfl
   | some x=>rw[Y9,on e]
 ·rw[on a];refine Bv k j y b ?_;rw[m5]at a;cases q:bA b k with
  | none=>rfl
  | some x=>rw[q]at a;exact (a rfl).elim
def nW(a:List (κ × V))(k:κ)(v:V):(cE a k v).length<=a.length+1:=by
 unfold cE
 split
 ·rw[Yl];omega
 ·rw[Yo,Y7,List.length_nil];omega
def L6{a:List (κ × V)}{k:κ}(v:V)(h:bA a k=none):cE a k v=a++[(k,v)]:=by
 unfold cE;rw[m5,h];exact on (by decide)
def dP.isSome_eq{o:Option V}{u:Option Value}(r:dP o u):o.isSome=u.isSome:=by
 cases o with
 | none=>cases u with
  | none=>rfl
  | some _=>exact (show False from r).elim
 | some _=>cases u with
  | none=>exact (show False from r).elim
  | some _=>rfl
def dP.getD{o:Option V}{u:Option Value}{d:V}{d':Value}(r:dP o u)(rd:aT d d'):aT (o.getD d) (u.getD d'):=by
 cases o with
 | none=>cases u with
  | none=>exact rd
  | some _=>exact (show False from r).elim
 | some _=>cases u with
  | none=>exact (show False from r).elim
  | some _=>exact r
def KV.val{a:List (κ × V)}{vs:List (κ × Value)}(r:KV a vs)(k:κ):dP (bA a k) (valueAt vs k):=by
 unfold KV at r
 induction r with
 | nil=>exact True.intro
 | @cons p q ps qs h t ih =>
  obtain⟨c,d⟩:=h;by_cases e:p.1=k
  ·have e':q.1=k:=c.symm.trans e;have b:valueAt (q::qs) k=some q.2:=by simp[valueAt,Y2,e']
   rw[gl e,b];exact d
  ·have e':¬q.1=k:=λz=>e (c.trans z);have b:valueAt (q::qs) k=valueAt qs k:=by simp[valueAt,Y2,e']
   rw[gn e,b];exact ih
def KV.any{a:List (κ × V)}{vs:List (κ × Value)}(r:KV a vs)(k:κ):(a.any λb=>decide (b.1=k))=vs.any λb=>decide (b.1=k):=by
 unfold KV at r
 induction r with
 | nil=>rfl
 | cons h t ih=>rw[ZI,ZI,ih,h.1]
def KV.repl{b:List (κ × V)}{vs:List (κ × Value)}(r:KV b vs)(k:κ){y:V}{u:Value}(d:aT y u) :
 KV (b.map λa=>if a.1=k then (a.1,y) else a) (vs.map λa=>if a.1=k then (a.1,u) else a):=by
 unfold KV at r ⊢
 induction r with
 | nil=>exact .nil
 | @cons p q ps qs h t ih =>
  rw[YO,YO];refine .cons ?_ ih;obtain⟨c,f⟩:=h;by_cases e:p.1=k
  ·rw[aaa e,aaa (c.symm.trans e)];exact⟨c,d⟩
  ·rw[on e,on (λz=>e (c.trans z))];exact⟨c,f⟩
def KV.put{a:List (κ × V)}{vs:List (κ × Value)}(r:KV a vs)(k:κ){y:V}{u:Value}(b:aT y u):KV (cE a k y) (stored vs k u):=by
 unfold cE stored;rw[r.any k];by_cases e:(vs.any λc=>decide (c.1=k))=true
 ·rw[aaa e,aaa e];exact r.repl k b
 ·rw[on e,on e];exact Paired.snoc r ⟨rfl,b⟩
def KV.length{a:List (κ × V)}{vs:List (κ × Value)}(r:KV a vs):a.length=vs.length:=Paired.length r
end
def iw{P:Program}{w:World}{k:aU}{u:Value}(r:aT (kV k) u):(cy P w).is k u=true:=by
 cases k with
 | inl i=>obtain⟨t,e⟩:=(show ∃t,u=Value.int i t from r);subst e;exact DT P w i t
 | inr x=>obtain⟨t,e⟩:=(show ∃t,u=Value.str x t from r);subst e;exact DS P w x t
theorem Ei{P:Program}{w:World}:∀ {a:List aU} {us:List Value},aM (a.map kV) us->ItemsAre (cy P w) a us
 | [],_,r=>by rw[List.map_nil]at r;cases r;exact .nil
 | k::a,_,r=>by
  rw[YO]at r;cases r with
  | cons h t=>exact .cons (iw h) (Ei t)
abbrev KT(H:Hp):List (List aU × V)->List (List aU × Addr × Value)->Prop:=Paired λp q=>p.1=q.1/\H q.2.1=some (.tup (p.1.map kV))/\aT p.2 q.2.2
def KT.val{H:Hp}{a:List (List aU × V)}{xs:List (List aU × Addr × Value)}(r:KT H a xs)(k:List aU):dP (bA a k) ((atKey xs k).map (·.2)):=by
 induction r with
 | nil=>exact True.intro
 | @cons p q ps qs h t ih =>
  obtain⟨c,_,d⟩:=h;by_cases e:p.1=k
  ·have e':q.1=k:=c.symm.trans e;have b:atKey (q::qs) k=some q.2:=by simp[atKey,Y2,e']
   rw[gl e,b];exact d
  ·have e':¬q.1=k:=λz=>e (c.trans z);have b:atKey (q::qs) k=atKey qs k:=by simp[atKey,Y2,e']
   rw[gn e,b];exact ih
def KT.repl{H:Hp}{a:List (List aU × V)}{xs:List (List aU × Addr × Value)}(r:KT H a xs)(k:List aU){y:V}{u:Value}(f:aT y u) :
 KT H (a.map λc=>if c.1=k then (c.1,y) else c) (xs.map (putAt k u)):=by
 induction r with
 | nil=>exact .nil
 | @cons p q ps qs h t ih =>
  rw[YO,YO];refine .cons ?_ ih;obtain⟨b,d,g⟩:=h;unfold putAt;by_cases e:p.1=k
  ·rw[aaa e,aaa (b.symm.trans e)];exact⟨b,d,f⟩
  ·rw[on e,on (λz=>e (b.trans z))];exact⟨b,d,g⟩
def KT.put{H:Hp}{a:List (List aU × V)}{xs:List (List aU × Addr × Value)}(r:KT H a xs)(k:List aU){b:Addr}{y:V}{u:Value}(hb:H b=some (.tup (k.map kV)))(c:aT y u) :
 KT H (cE a k y) (storedH xs k b u):=by
 have e:(a.any λd=>decide (d.1=k))=(atKey xs k).isSome:=by
  rw[m5,(r.val k).isSome_eq,a0b]
 unfold cE storedH;rw[e];by_cases q:(atKey xs k).isSome=true
 ·rw[aaa q,aaa q];exact r.repl k c
 ·rw[on q,on q];exact Paired.snoc r ⟨rfl,hb,c⟩
def KT.keeps{H c:Hp}{a:List (List aU × V)}{xs:List (List aU × Addr × Value)}(r:KT H a xs)(d:∀b ys,H b=some (.tup ys)->c b=some (.tup ys)):KT c a xs :=
 Paired.mapP r λ_ _ z=>⟨z.1,d _ _ z.2.1,z.2.2⟩
section
variable {P:Program}{w:World}{H:Hp}{h:Heap}{a:Addr}
def C1{u:HO}(ok:bT P w H h)(e:Rd H a u):ci P w H h a u:=e.ok ok
def jz{b:List (aU × V)}(ok:bT P w H h)(e:Rd H a (.dK b)):b.length<=sizeLine/\(a == sysModules)=false/\∃vs,KV b vs/\h.DictOf (cy P w) a vs :=
 show ci P w H h a (.dK b) from C1 ok e
def SZ{b:List (aU × V)}(ok:bT P w H h)(e:H a=some (.dK b)):b.length<=sizeLine/\(a == sysModules)=false/\∃vs,KV b vs/\h.DictOf (cy P w) a vs:=jz ok (.inl e)
def mL{c:List aU}(ok:bT P w H h)(e:H a=some (.tup (c.map kV))):(tupleKind (cy P w)).is h c a:=by
 obtain⟨_,b,r,o,f,d,n,g⟩:=(show ci P w H h a (.tup (c.map kV)) from ok a _ e);exact⟨o,b.toArray,n,f,d,g,by simpa using Ei r⟩
def jy{b:List (List aU × V)}(ok:bT P w H h)(e:Rd H a (.dT b)):b.length<=sizeLine/\(a == sysModules)=false /\
 ∃xs,KT H b xs/\h.DictOfH (tupleKind (cy P w)) a xs:=by
 obtain⟨z,y,xs,r,o,i,j,f,c,k,d,g⟩:=(show ci P w H h a (.dT b) from C1 ok e);refine⟨z,y,xs,r,o,i,j,f,c,k,d,λx hx=>?_,g⟩;have all:∀ {l:List (List aU × V)} {m:List (List aU × Addr × Value)},KT H l m->∀x∈m,(tupleKind (cy P w)).is h x.1 x.2.1:=by
  intro l m q
  induction q with
  | nil=>intro x hx;exact nomatch hx
  | @cons p q ps qs hq t ih =>
   intro x hx;rcases Yz.mp hx with e|hx
   ·subst e;exact mL ok (by rw[<- hq.1];exact hq.2.1)
   ·exact ih x hx
 exact all r x hx
def SX{b:List (List aU × V)}(ok:bT P w H h)(e:H a=some (.dT b)):b.length<=sizeLine/\(a == sysModules)=false /\
 ∃xs,KT H b xs/\h.DictOfH (tupleKind (cy P w)) a xs:=jy ok (.inl e)
end
def cK(H:Hp)(a:Addr)(y:V)(r:Option V):Prop :=
 (∃kvs k,Rd H a (.dK kvs)/\y=kV k/\r=bA kvs k)\/∃kvs k b,Rd H a (.dT kvs)/\y=.ref b/\H b=some (.tup (k.map kV))/\r=bA kvs k
def ic(H:Hp)(a:Addr)(y v:V)(c:Hp):Prop :=
 (∃kvs k,H a=some (.dK kvs)/\y=kV k/\kvs.length<sizeLine/\c=upd H a (.dK (cE kvs k v))) \/
 ∃kvs k b,H a=some (.dT kvs)/\y=.ref b/\H b=some (.tup (k.map kV))/\kvs.length<sizeLine/\c=upd H a (.dT (cE kvs k v))
def cK.k{H:Hp}{a:Addr}{b:List (aU × V)}{k:aU}(e:H a=some (.dK b)):cK H a (kV k) (bA b k):=.inl ⟨b,k,.inl e,rfl,rfl⟩
def cK.t{H:Hp}{a b:Addr}{c:List (List aU × V)}{k:List aU}(e:H a=some (.dT c))(d:H b=some (.tup (k.map kV))):cK H a (.ref b) (bA c k):=.inr ⟨c,k,b,.inl e,rfl,d,rfl⟩
def ic.k{H:Hp}{a:Addr}{b:List (aU × V)}{k:aU}{v:V}(e:H a=some (.dK b))(hl:b.length<sizeLine):ic H a (kV k) v (upd H a (.dK (cE b k v))):=.inl ⟨b,k,e,rfl,hl,rfl⟩
def ic.t{H:Hp}{a b:Addr}{c:List (List aU × V)}{k:List aU}{v:V}(e:H a=some (.dT c))(d:H b=some (.tup (k.map kV)))(hl:c.length<sizeLine) :
 ic H a (.ref b) v (upd H a (.dT (cE c k v))):=.inr ⟨c,k,b,e,rfl,d,hl,rfl⟩
section
variable {X:Cx}{pins:List (Addr × Obj)}{σ:St}{H:Hp}{s:g0}{a:Addr}{y v:V}{u r:Value}{o:Option V}{A:Around}{E:Value->g0->Prop}
def ai.big(I:ai X pins σ H s):sysModules<s.heap.objs.size:=by
 have h:mainGlobals<s.heap.objs.size:=(I.mod.glob.keeps I.bk).lt;exact Nat.lt_trans (by decide) h
def S7{Q:Value->g0->Prop}(q:A.units+1<cLine)(I:ai X pins σ H s)(g:cK H a y (some v))(m:aT y u)(h:∀f s',ai X pins σ H s'->aT v f->Q f s') :
 wpAny (model X.prog X.w) A (getItem (.ref a) u) Q E s:=by
 rcases g with ⟨kvs,k,e,ey,l⟩|⟨kvs,k,b,e,ey,eb,l⟩
 ·subst ey;obtain⟨z,hd,vs,d,j⟩:=jz I.hok e;obtain⟨f,hw,c⟩:=dP.some_of (v:=v) (o:=valueAt vs k) (by rw[l];exact d.val k);exact wpAny_getItem_of (iw m) j.mapOf hw (h f _ (I.tok _) c)
 ·subst ey;cases (show u=Value.ref b from m);obtain⟨z,hd,xs,d,j⟩:=jy I.hok e;obtain⟨f,hw,c⟩:=dP.some_of (v:=v) (o:=(atKey xs k).map (·.2)) (by rw[l];exact d.val k);obtain⟨p,n,i⟩:=Zk.mp hw;refine wpAny_getItem_heap (tupleKind_room_in1 q) (mL I.hok eb) j n ?_;rw[i];exact h f _ (I.tok _) c
def S6{Q:Value->g0->Prop}(i:A.units+1<cLine)(I:ai X pins σ H s)(g:cK H a y o)(f:aT y u)(h:∀s',ai X pins σ H s'->Q (.bool o.isSome) s') :
 wpAny (model X.prog X.w) A (compareOp .In u (.ref a)) Q E s:=by
 rcases g with ⟨kvs,k,e,ey,l⟩|⟨kvs,k,b,e,ey,eb,l⟩
 ·subst ey;obtain⟨z,hd,vs,c,d⟩:=jz I.hok e;refine wpAny_in_of (iw f) hd d.mapOf ?_;rw[<- (c.val k).isSome_eq,<- l];exact h _ (I.tok _)
 ·subst ey;cases (show u=Value.ref b from f);obtain⟨z,hd,xs,c,d⟩:=jy I.hok e;refine wpAny_in_heap (tupleKind_room_in1 i) (mL I.hok eb) hd d ?_;have q:=(c.val k).isSome_eq;rw[a0b]at q;rw[<- q,<- l];exact h _ (I.tok _)
def S5{Q:Value->g0->Prop}(i:A.units+1<cLine)(I:ai X pins σ H s)(g:cK H a y o)(f:aT y u)(h:∀s',ai X pins σ H s'->Q (.bool (!o.isSome)) s') :
 wpAny (model X.prog X.w) A (compareOp .NotIn u (.ref a)) Q E s:=by
 rcases g with ⟨kvs,k,e,ey,l⟩|⟨kvs,k,b,e,ey,eb,l⟩
 ·subst ey;obtain⟨z,hd,vs,c,d⟩:=jz I.hok e;refine wpAny_notIn_of (iw f) hd d.mapOf ?_;rw[<- (c.val k).isSome_eq,<- l];exact h _ (I.tok _)
 ·subst ey;cases (show u=Value.ref b from f);obtain⟨z,hd,xs,c,d⟩:=jy I.hok e;refine wpAny_notIn_heap (tupleKind_room_in1 i) (mL I.hok eb) hd d ?_;have q:=(c.val k).isSome_eq;rw[a0b]at q;rw[<- q,<- l];exact h _ (I.tok _)
def FE{h':Heap}{t':Nat}{c:HO}(I:ai X pins σ H s)(d:pF (H a))(hs:Heap.SameBut a s.heap h')(he:∃q,h'.get? a=some q)(new:ci X.prog X.w (upd H a c) h' a c) :
 ai X pins σ (upd H a c) { s with heap:=h',toks:=t' } :=
 I.write (x:=a) (e:=a) d (.inl rfl) (λb q hb z=>(hs.2 b hb).trans z) he new
def S0{P:Program}{w:World}{e:Hp}{h':Heap}{b:List (aU × V)}{vs:List (aU × Value)}(z:b.length<=sizeLine)(hd:(a == sysModules)=false)(c:KV b vs)(d:h'.DictOf (cy P w) a vs) :
 ci P w e h' a (.dK b):=⟨z,hd,vs,c,d⟩
def S4{o:Hp}{Q:Unit->g0->Prop}(F:A.units+1<cLine)(I:ai X pins σ H s)(g:ic H a y v o)(n:aT y u)(p:aT v r)(h:∀s',ai X pins σ o s'->Q () s') :
 wpAny (model X.prog X.w) A (setItem (.ref a) u r) Q E s:=by
 rcases g with ⟨kvs,k,e,ey,l,eH⟩|⟨kvs,k,b,e,ey,eb,l,eH⟩
 ·subst ey eH;obtain⟨z,hd,vs,d,j⟩:=SZ I.hok e;have hz:vs.length<=sizeLine:=by rw[<- d.length];exact z
  have hl:(cE kvs k v).length<=sizeLine:=by have:=nW kvs k v;omega
  refine wpAny_setItem_pairs (hsz:=hz) (iw n) j λh' f hs=>h _ ?_;have he:∃q,h'.get? a=some q:=let ⟨q,_,_,i,_⟩:=f;⟨q,i⟩
  exact FE I (by rw[e];exact True.intro) hs he (S0 hl hd (d.put k p) f)
 ·subst ey eH;cases (show u=Value.ref b from n);obtain⟨z,hd,xs,d,j⟩:=SX I.hok e;have hz:xs.length<=sizeLine:=by rw[<- Paired.length d];exact z
  have hl:(cE kvs k v).length<=sizeLine:=by have:=nW kvs k v;omega
  refine wpAny_setItem_heap (hsz:=hz) (tupleKind_room_in1 F) (mL I.hok eb) j λh' f hs=>h _ ?_;obtain⟨q,D,G,i,x,J,B,_,C⟩:=f;refine FE I (by rw[e];exact True.intro) hs ⟨q,i⟩ ⟨hl,hd,_,(d.put k eb p).keeps λc ys m=>?_,q,D,G,i,x,J,B,C⟩;rw[ay (NK m e (λz=>nomatch z))];exact m
end
def tT(i:Expr):Prop:=∀ov iv,subscripted i false ov iv=operate [ov,iv] (getItem ov iv)
def B9{prog:Program}{w:World}{A:Around}{E:Value->g0->Prop}{s:g0}{env:Env}{value a:Expr}{pos:Pos}{T id:String}{Q:Value->g0->Prop}
 (hl:typeLookup (.type T) "__getitem__" = pure (some (.builtin id))) (hs:tT a)
 (h:wpAny (model prog w) A (eval value env) (λo d=>wpAny (model prog w) A (eval a env) (λi b=>b.TypeIs o T/\wpAny (model prog w) A (getItem o i) Q E b) E d) E s) :
 wpAny (model prog w) A (eval (.Subscript value a pos) env) Q E s:=by
 refine Subscript_ (wpAny_mono h (λo d g=>wpAny_mono g (λi b c=>?_) λ_ _ x=>x) λ_ _ x=>x);obtain⟨hT,c⟩:=c;unfold subscriptTail;refine kb ?_;rw[getitemInPython_of_ne hT.not_modules];refine kb (wpAny_specialOf hT hl ?_);have fin:wpAny (model prog w) A (subscripted a false o i) (λr e=>wpAny (model prog w) A (letTemporaryGo value o r >>= λ_=>pure r) Q E e) E b:=by
  rw[hs o i];exact wpAny_operating (wpAny_mono c (λr e f=>kb (wpAny_letTemporaryGo (no f))) λ_ _ x=>x)
 first
  | exact no (kb fin)
  | exact kb (no (kb fin))
  | exact kb fin
def S3 {X:Cx} {c:List (Addr × Obj)} {σ:St} {H:Hp} {s:g0} {a:Addr} {y:V} {o:Option V} (I:ai X c σ H s) (g:cK H a y o):s.TypeIs (.ref a) "dict":=by
 rcases g with ⟨kvs,k,e,_,_⟩|⟨kvs,k,b,e,_,_,_⟩
 ·obtain⟨_,_,vs,_,d⟩:=jz I.hok e;exact d.typeIs
 ·obtain⟨_,_,xs,_,d⟩:=jy I.hok e;exact d.typeIs
def B4(td ty:TE):TE:=λσ H Q=>td σ H λx c=>ty σ c λy b=>∃a v,x=.ref a/\cK b a y (some v)/\Q v b
def CT(td ty b:TE):TS:=λD σ H=>b σ H λv d=>td σ d λx c=>ty σ c λy e=>∃a H4,x=.ref a/\ic e a y v H4/\D.nx σ H4
section
variable {X:Cx}{o i e value:Expr}{pos pos' tpos:Pos}{td ty tv:TE}
def MY(r:X.A.units+1<cLine)(q:PE X o td)(m:PE X i ty)(hs:tT i):PE X (.Subscript o i pos) (B4 td ty):=by
 intro b s σ H Q I h;refine B9 a2a.lookup hs (aB (q b s σ H _ I h) λu s1 ⟨x,f,z,k,l⟩=>aB (m b s1 σ f _ z l) λF B ⟨y,p,d,j,a,v,ex,g,n⟩=>?_);subst ex;obtain rfl:u=Value.ref a:=k;exact⟨S3 d g,S7 r d g j λC D e c=>⟨v,p,e,c,n⟩⟩
def Mo(q:X.A.units+1<cLine)(L:PE X o td)(F:PE X i ty)(n:PE X value tv)(hs:swapsWith value (some (.Subscript o i pos')) pos.line X.env=pure false) :
 PS X (.Assign [.Subscript o i pos'] value pos) (CT td ty tv):=by
 intro b s σ H D I h;refine wpAny_Assign_Subscript (aB (n b s σ H _ I h) λr s1 ⟨v,B,j,G,l⟩=>aB (L b s1 σ B _ j l) λu c ⟨x,f,m,C,J⟩=>aB (F b c σ f _ m J) λR M ⟨y,O,d,e,a,p,ex,g,z⟩=>?_) hs;subst ex;obtain rfl:u=Value.ref a:=C;exact S4 q d g e G λN k=>⟨σ,p,k,z⟩
end
def S1{P:Program}{w:World}{H:Hp}(h:Heap)(hb:sysModules<h.objs.size):ci P w H (h.push { cls:=.type "dict",data:=.dict #[] }) h.objs.size (.dK []) :=
 ⟨YS _,beq_eq_false_iff_ne.mpr (Ne.symm (YB hb)),[],.nil,Heap.DictOf.new h⟩
def SY{P:Program}{w:World}{H:Hp}(h:Heap)(hb:sysModules<h.objs.size):ci P w H (h.push { cls:=.type "dict",data:=.dict #[] }) h.objs.size (.dT []) :=
 ⟨YS _,beq_eq_false_iff_ne.mpr (Ne.symm (YB hb)),[],.nil,_,#[],0,YR _ rfl,⟨rfl,rfl,rfl⟩,rfl,rfl,List.nodup_nil⟩
def IR:TE:=λ_ H Q=>∀p,H p=none->Q (.ref p) (upd H p (.dK []))
def IQ:TE:=λ_ H Q=>∀p,H p=none->Q (.ref p) (upd H p (.dT []))
section
variable {X:Cx}{pos:Pos}
def MW:PE X (.Dict [] [] pos) IR:=λb s σ H Q I h =>
 wpAny_Dict_empty ⟨.ref s.heap.objs.size,_,I.laid (a:=s.heap.objs.size) (o:=.dK []) (t':=s.toks) (λ_ _ q=>YA _ q) (Ym _) (S1 s.heap I.big),rfl,h _ (I.hok.fresh (Ym _))⟩
def MV:PE X (.Dict [] [] pos) IQ:=λb s σ H Q I h =>
 wpAny_Dict_empty ⟨.ref s.heap.objs.size,_,I.laid (a:=s.heap.objs.size) (o:=.dT []) (t':=s.toks) (λ_ _ q=>YA _ q) (Ym _) (SY s.heap I.big),rfl,h _ (I.hok.fresh (Ym _))⟩
end
structure M1 (X:Cx) (o:Expr) (m:Str) (apos:Pos) (e:Expr) (cpos:Pos):Prop where
 base:attributeBase o m X.env (eval o X.env)=eval o X.env
 few:((backTo cpos (starEach [e] X.env)).all (λx=>!x.1) && (backToKw cpos (keywordEach [] X.env)).all (λx=>x.1.isSome)
  && decide (([e]:List Expr).length+([]:List Keyword).length+(if ([]:List Keyword).isEmpty then 0 else 1)<30))=true
 line:(apos.endLine == cpos.line)=true
 trees:backTo cpos (starEach [e] X.env)=[(false,eval e X.env)]
structure M2 (X:Cx) (o:Expr) (m:Str) (apos:Pos) (e f:Expr) (cpos:Pos):Prop where
 base:attributeBase o m X.env (eval o X.env)=eval o X.env
 few:((backTo cpos (starEach [e,f] X.env)).all (λx=>!x.1) && (backToKw cpos (keywordEach [] X.env)).all (λx=>x.1.isSome)
  && decide (([e,f]:List Expr).length+([]:List Keyword).length+(if ([]:List Keyword).isEmpty then 0 else 1)<30))=true
 line:(apos.endLine == cpos.line)=true
 trees:backTo cpos (starEach [e,f] X.env)=[(false,eval e X.env),(false,eval f X.env)]
def Gr(H:Hp)(a:Addr):Prop:=(∃kvs,Rd H a (.dK kvs))\/∃kvs,Rd H a (.dT kvs)
def PC{X:Cx}{f:List (Addr × Obj)}{σ:St}{H:Hp}{s:g0}{a:Addr}(I:ai X f σ H s)(d:Gr H a) :
 s.TypeIs (.ref a) "dict"/\(∀b,Value.ref a=.ref b->∃c,s.heap.get? b=some c/\c.dict=none)/\(a == sysModules)=false:=by
 rcases d with ⟨kvs,e⟩|⟨kvs,e⟩
 ·obtain⟨_,hd,vs,_,g⟩:=jz I.hok e;refine⟨g.typeIs,λb q=>?_,hd⟩;cases q;obtain⟨c,_,_,i,h,_⟩:=g;exact⟨c,i,h.2.1⟩
 ·obtain⟨_,hd,xs,_,g⟩:=jy I.hok e;refine⟨g.typeIs,λb q=>?_,hd⟩;cases q;obtain⟨c,_,_,i,h,_⟩:=g;exact⟨c,i,h.2.1⟩
section
variable {X:Cx}{pins:List (Addr × Obj)}{σ:St}{H:Hp}{s:g0}{a:Addr}{y d:V}{u r:Value}{o:Option V}{A:Around}{E:Value->g0->Prop}
def S8{Q:Value->g0->Prop}(i:A.units+1<cLine)(I:ai X pins σ H s)(g:cK H a y o)(f:aT y u)(h:∀w' s',ai X pins σ H s'->aT (o.getD .non) w'->Q w' s') :
 wpAny (model X.prog X.w) A (call (.builtin "dict.get") [.ref a,u]) Q E s:=by
 rcases g with ⟨kvs,k,e,ey,l⟩|⟨kvs,k,b,e,ey,eb,l⟩
 ·subst ey;obtain⟨z,hd,vs,c,d⟩:=jz I.hok e;refine call_meetsIn ZT d.typeIs a0v (a2b _ _) (meets_dict_get (cy X.prog X.w) a (iw f) hd) ⟨_,d.mapOf,h _ _ (I.tok _) ?_⟩;rw[l];exact (c.val k).getD rfl
 ·subst ey;cases (show u=Value.ref b from f);obtain⟨z,hd,xs,c,d⟩:=jy I.hok e;refine call_meetsIn ZT d.typeIs a0v (a2b _ _) (meetsH_dict_get (tupleKind (cy X.prog X.w)) a b hd) ⟨tupleKind_room_in1 i,k,xs,mL I.hok eb,d,h _ _ (I.tok _) ?_⟩;rw[l];exact (c.val k).getD rfl
end
def B3(td ty:TE):TE:=λσ H Q=>td σ H λx c=>∃a,x=.ref a/\Gr c a/\ty σ c λy b=>∃o,cK b a y o/\Q (o.getD .non) b
section
variable {X:Cx}{o e f:Expr}{apos cpos:Pos}{td ty tx:TE}
def MX (q:X.A.units+1<cLine) (C:PE X o td) (he:PE X e ty) (m:M1 X o "get" apos e cpos):PE X (.Call (.Attribute o "get" apos) [e] [] cpos) (B3 td ty):=by
 intro b s σ H Q I h;refine wpAny_Call_method m.base m.few m.line a2c ZT a2d (aB (C b s σ H _ I h) λu s1 ⟨x,r,f,z,a,ex,d,n⟩=>?_);subst ex;obtain rfl:u=Value.ref a:=z;obtain⟨k,v,_⟩:=PC f d;refine⟨k,v,?_⟩;rw[m.trees];refine Calls.callWith_builtin rfl (Calls.evalArgs_plain (Calls.spliced_cons (aB (he b s1 σ r _ f n) λL D ⟨y,l,p,j,G,g,B⟩=>Calls.spliced_nil ?_)));exact S8 q p g j λJ F i c=>⟨_,l,i,c,B⟩
end
end L2
namespace HT
open PySem PyProof.Rows
def lexLt:f6->f6->Bool
 | [],[]=>false
 | [],_::_=>true
 | _::_,[]=>false
 | x::xs,y::ys=>if x=y then lexLt xs ys else decide (x<y)
section
variable {prog:Program}{w:World}{A:Around}{E:Value->g0->Prop}{s:g0}
def sIx(n d:Nat):Option Int->Nat
 | none=>d
 | some v=>if v<0 then (v+(n:Int)).toNat else min v.toNat n
def Lq(n d:Nat)(hd:d<=n)(o:Option Int):sIx n d o<=n:=by
 cases o with
 | none=>exact hd
 | some v =>
  show (if v<0 then (v+(n:Int)).toNat else min v.toNat n)<=n;by_cases hv:v<0
  ·rw[aaa hv];omega
  ·rw[on hv];exact Nat.min_le_right _ _
def FN(v:Int)(n d:Nat):(if v<0 then max (v+(n:Int)) 0 else min v (n:Int))=((sIx n d (some v):Nat):Int):=by
 show (if v<0 then max (v+(n:Int)) 0 else min v (n:Int))=(((if v<0 then (v+(n:Int)).toNat else min v.toNat n):Nat):Int);by_cases hv:v<0
 ·simp only [aaa hv];omega
 ·simp only [on hv];omega
def V6(lo a:Option Int)(n:Nat):Builtin.Slice.sliceAdjust lo a 1 (n:Int)=(((sIx n 0 lo:Nat):Int),((sIx n n a:Nat):Int)):=by
 have b:¬((1:Int)<0):=by omega
 unfold Builtin.Slice.sliceAdjust;simp only [b,if_false];refine Prod.ext ?_ ?_
 ·cases lo with
  | none=>rfl
  | some v=>exact FN v n 0
 ·cases a with
  | none=>rfl
  | some v=>exact FN v n n
def Mx(i j:Nat):Builtin.Slice.slicePlaces (i:Int) (j:Int) 1=j-i:=by
 unfold Builtin.Slice.slicePlaces;have a:(1:Int) > 0:=by omega
 simp only [a,if_true,Int.ediv_one]
 split<;>omega
def Cs{v:Value}{o:Option Int}{Q:Option Int->g0->Prop}(p:IsPart v o)(h:Q o s):wpAny (model prog w) A (Builtin.Slice.slicePartIndex v) Q E s:=by
 cases p with
 | none=>exact slicePart_none h
 | int i t=>exact slicePart_int h
def Ct{f:Addr}{e d:Value}{lo a:Option Int}{n:Nat}{Q:Int × Int × Nat->g0->Prop}(hs:s.heap.IsSliceOf f e d .none)(pl:IsPart e lo)(i:IsPart d a)
 (h:Q (((sIx n 0 lo:Nat):Int),1,sIx n n a-sIx n 0 lo) s):wpAny (model prog w) A (Builtin.Slice.sliceApplied (.ref f) (pure (n:Int))) Q E s:=by
 obtain⟨os,c,g,b⟩:=id hs;unfold Builtin.Slice.sliceApplied Builtin.Slice.sliceFields;refine kb (kb (wpAny_field c b (x:=e) rfl (kb (wpAny_field c b (x:=d) rfl (kb (wpAny_field c b (x:=.none) rfl (no ?_)))))));refine kb (slicePart_none ?_);show wpAny _ _ (if ((1:Int) == 0)=true then _ else _) _ _ s;rw[on (by decide)];refine kb (Cs pl (kb (Cs i (kb (no ?_)))));show wpAny _ _ (match Builtin.Slice.sliceAdjust lo a 1 (n:Int) with|(lo,a)=>pure (lo,(1:Int),Builtin.Slice.slicePlaces lo a 1)) _ _ s;rw[V6 lo a n];show wpAny _ _ (pure (((sIx n 0 lo:Nat):Int),(1:Int),Builtin.Slice.slicePlaces ((sIx n 0 lo:Nat):Int) ((sIx n n a:Nat):Int) 1)) _ _ s;rw[Mx];exact no h
def Mz(xs:Array Value)(i k:Nat):((List.range k).filterMap λ(m:Nat)=>xs[((i:Int)+(m:Int)*1).toNat]?).toArray=((xs.toList.drop i).take k).toArray:=by
 have e:(λ(m:Nat)=>xs[((i:Int)+(m:Int)*1).toNat]?)=λm=>xs[i+m]?:=by
  funext m
  have:((i:Int)+(m:Int)*1).toNat=i+m:=by omega
  rw[this]
 rw[e];have:=pick_run xs i k;rw[List.filterMap_map]at this;have a:((λx=>xs[x]?) ∘ λx=>i+x)=λm=>xs[i+m]?:=rfl;rw[a]at this;rw[this]
def getItem_tuple_cut{t d:Addr}{items:Array Value}{j i:Value}{lo b:Option Int}{Q:Value->g0->Prop}(c:IsTup s.heap t items)(hs:s.heap.IsSliceOf d j i .none)(pl:IsPart j lo)(k:IsPart i b)
 (hw:¬(sIx items.size 0 lo=0/\sIx items.size items.size b=items.size))
 (h:Q (.ref s.heap.objs.size) { s with heap:=s.heap.push { cls:=.type "tuple",data:=.seq ((items.toList.drop (sIx items.size 0 lo)).take (sIx items.size items.size b-sIx items.size 0 lo)).toArray } })
 (hsz:items.size<=sizeLine):wpAny (model prog w) A (getItem (.ref t) (.ref d)) Q E s:=by
 have a:sizeOk (.seq ((items.toList.drop (sIx items.size 0 lo)).take (sIx items.size items.size b-sIx items.size 0 lo)).toArray):=by
  show ((items.toList.drop (sIx items.size 0 lo)).take (sIx items.size items.size b-sIx items.size 0 lo)).toArray.size<=sizeLine;rw[Yv,Yp,YY,Z8];omega
 have p:sIx items.size items.size b<=items.size:=Lq _ _ (Ym _) b;obtain⟨os,f,e,l⟩:=id hs;have hTs:s.TypeIs (.ref d) "slice":=⟨os,f,e⟩;unfold getItem
 try with_reducible refine wpAny_holding ?_
 first|refine kb (no ?_)|skip
 refine kb (wpAny_sequenceKey c.typeIs (by decide) ?_);refine kb (wpAny_callSpecial?_slot (name:=Str.ofString "__getitem__") c.typeIs ZJ
  (wpAny_call_entry ZJ c.typeIs entry_tuple_getitem ?_ (args_tuple_getitem _ _)))
 show wpAny _ _ (Builtin.Tuple.tupleItemsOf (.ref t) >>= _) _ _ s;refine kb (tupleItemsOf_ c ?_);refine kb (wpAny_typeOf hTs ?_);rw[aaa (by decide)];refine kb (Ct hs pl k ?_);have g:¬((((sIx items.size 0 lo:Nat):Int) == 0 && (1:Int) == 1 && (sIx items.size items.size b-sIx items.size 0 lo) == items.size)=true):=by
  intro q;rw[YT,YT]at q;have n:((sIx items.size 0 lo:Nat):Int)=0:=eq_of_beq q.1.1;have o:sIx items.size items.size b-sIx items.size 0 lo=items.size:=eq_of_beq q.2;exact hw ⟨by omega,by omega⟩
 show wpAny _ _ (if (((sIx items.size 0 lo:Nat):Int) == 0 && (1:Int) == 1 && (sIx items.size items.size b-sIx items.size 0 lo) == items.size)=true then _ else _) _ _ s;rw[on g,Mz]
 first
  | exact kb (m:=Builtin.Tuple.tupleExact _) (wpAny_newObj_type (no ⟨_,rfl,no h⟩) a)
  | exact kb (m:=Builtin.Tuple.tupleExact _) (wpAny_newObj_type (kb (no (no ⟨_,rfl,no h⟩))) a)
  | exact kb (kb (m:=Builtin.Tuple.tupleExact _) (wpAny_newObj_type (no (no ⟨_,rfl,no h⟩)) a))
  | exact kb (kb (m:=Builtin.Tuple.tupleExact _) (wpAny_newObj_type (no ⟨_,rfl,no h⟩) a))
end
end HT
namespace L2
open PySem PySem.Spec PyProof.Rows
abbrev TO:=St->Hp->(Option Int->Hp->Prop)->Prop
def PO(X:Cx)(e:Option Expr)(t:TO):Prop :=
 ∀(a:List (Addr × Obj)) (s:g0) (σ:St) (H:Hp) (Q:Option Int->Hp->Prop),ai X a σ H s->t σ H Q ->
  wpAny (model X.prog X.w) X.A (evalPart e X.env) (λu b=>∃o H',ai X a σ H' b/\IsPart u o/\Q o H') X.xe s
def BV:TO:=λ_ H Q=>Q none H
def BS(t:TE):TO:=λσ H Q=>t σ H λx a=>∃i,x=.int i/\Q (some i) a
section
variable {X:Cx}{e:Expr}{te:TE}{lo hi:Option Expr}{tl th:TO}{pos p2:Pos}
def Mw:PO X none BV:=by
 intro a s σ H Q I h;rw[evalPart_none];exact no ⟨none,H,I,.none,h⟩
def Mv(h:PE X e te):PO X (some e) (BS te):=by
 intro a s σ H Q I hw;rw[evalPart_some];refine aB (h a s σ H _ I hw) λu s1 ⟨x,b,f,d,c⟩=>?_;obtain⟨i,rfl,q⟩:=c;obtain⟨t,rfl⟩:=d;exact⟨some i,b,f,.int i t,q⟩
def i6(X:Cx)(r:V->Option Int->Option Int->Hp->VK->Prop):Prop :=
 ∀(a:List (Addr × Obj)) (s:g0) (σ:St) (H:Hp) (x:V) (v e d:Value) (lo c:Option Int) (b:Addr) (Q:VK),ai X a σ H s->aT x v->s.heap.IsSliceOf b e d .none->IsPart e lo->IsPart d c->r x lo c H Q ->
  ∃T id,typeLookup (.type T) "__getitem__" = pure (some (.builtin id))/\s.TypeIs v T/\wpAny (model X.prog X.w) X.A (getItem v (.ref b)) (EP X a σ Q) X.xe s
def BP(r:V->Option Int->Option Int->Hp->VK->Prop)(e:TE)(tl b:TO):TE:=λσ H Q=>e σ H λx a=>tl σ a λl d=>b σ d λu c=>r x l u c Q
def MM{r:V->Option Int->Option Int->Hp->VK->Prop}(hr:i6 X r)(he:PE X e te)(hl:PO X lo tl)(z:PO X hi th):PE X (.Subscript e (.Slice lo hi none p2) pos) (BP r te tl th):=by
 intro a s σ H Q I h;refine Subscript_ (aB (he a s σ H _ I h) λv s1 ⟨x,C,m,p,o⟩=>?_);refine wpAny_Slice (aB (hl a s1 σ C _ m o) λf i ⟨l,k,y,pl,G⟩=>aB (z a i σ k _ y G) λd c ⟨u,g,j,F,B⟩=>?_);rw[evalPart_none];refine no ?_;have n:ai X a σ g { c with heap:=c.heap.push { cls:=.type "slice",data:=.fields #[f,d,.none] } }:=j.kept (t':=c.toks) λb L q=>YA _ q;obtain⟨T,id,hT,D,J⟩:=hr a { c with heap:=c.heap.push { cls:=.type "slice",data:=.fields #[f,d,.none] } } σ g x v f d l u c.heap.objs.size Q n p (Heap.IsSliceOf.new ..) pl F B;show wpAny (model X.prog X.w) X.A (subscriptTail e (.Slice lo hi none p2) v (.ref c.heap.objs.size)) (EP X a σ Q) X.xe { c with heap:=c.heap.push { cls:=.type "slice",data:=.fields #[f,d,.none] } };exact tail_any (ops:=[.ref c.heap.objs.size,v]) D hT J (by with_unfolding_all rfl)
def cn(xs:List V)(lo a:Option Int):List V:=(xs.drop (HT.sIx xs.length 0 lo)).take (HT.sIx xs.length xs.length a-HT.sIx xs.length 0 lo)
def FG(xs:List V)(lo a:Option Int):(cn xs lo a).length<=xs.length:=by
 unfold cn;rw[Yp,YY];omega
def LD(K:W.Frag):V->Option Int->Option Int->Hp->VK->Prop:=λx lo b H Q=>∃a xs,x=.ref a/\bq K H a xs /\
 ¬(HT.sIx xs.length 0 lo=0/\HT.sIx xs.length xs.length b=xs.length)/\∀p,H p=none->Q (.ref p) (upd H p (.tup (cn xs lo b)))
def Kg:i6 X (LD X.K):=by
 intro f s σ H x v n l lo e k Q I i hs pl j h;obtain⟨a,xs,rfl,hx,hw,q⟩:=h;cases i;obtain⟨d,r,g,hz⟩:=I.tuple hx;have c:d.toArray.size=xs.length:=by rw[Yv];exact r.length.symm
 refine⟨"tuple",_,ZJ.lookup,g.typeIs,?_⟩;refine HT.getItem_tuple_cut g hs pl j (by rw[c];exact hw) ?_ (by rw[c];exact hz);rw[c];refine⟨.ref s.heap.objs.size,_,I.laid (t':=s.toks) (o:=.tup (cn xs lo e)) (λb m q=>YA _ q) (Ym _) ?_,rfl,q _ (I.hok.fresh (Ym _))⟩;exact⟨YK (FG xs lo e) hz,_,(r.drop (HT.sIx xs.length 0 lo)).take (HT.sIx xs.length xs.length e-HT.sIx xs.length 0 lo),IsTup.new _ _⟩
end
def iQ(n:Nat)(i:Int):Option Nat:=if 0<=i then (if i<n then some i.toNat else none) else if -(n:Int)<=i then some (i+n).toNat else none
def cv{α:Type}(xs:List α)(i:Int):Option α:=(iQ xs.length i).bind λj=>xs[j]?
def Px{n:Nat}{i:Int}{j:Nat}(h:iQ n i=some j):seqIndex? i n=some j/\j<n/\-(n:Int)<=i/\i<n:=by
 unfold iQ at h;by_cases h0:0<=i
 ·rw[aaa h0]at h;by_cases h1:i<n
  ·rw[aaa h1]at h;have e:i.toNat=j:=YL h;exact⟨by rw[seqIndex_of h0 h1,e],by omega,by omega,h1⟩
  ·rw[on h1]at h;cases h
 ·rw[on h0]at h;by_cases h1 : -(n:Int)<=i
  ·rw[aaa h1]at h;have e:(i+n).toNat=j:=YL h;exact⟨by rw[seqIndex_neg (by omega) h1,e],by omega,h1,by omega⟩
  ·rw[on h1]at h;cases h
def Ge{α:Type}{xs:List α}{i:Int}{v:α}(h:cv xs i=some v):∃j,seqIndex? i xs.length=some j/\xs[j]? = some v/\j<xs.length/\-(xs.length:Int)<=i/\i<xs.length:=by
 unfold cv at h;cases e:iQ xs.length i with
 | none=>rw[e]at h;cases h
 | some j =>
  rw[e]at h;obtain⟨d,b,c,a⟩:=Px e;exact⟨j,d,h,b,c,a⟩
def ba{α:Type}{xs:List α}{j:Nat}{v:α}(h:xs[j]? = some v):cv xs (j:Int)=some v:=by
 have a:j<xs.length:=(Yr.mp h).1;have e:iQ xs.length (j:Int)=some j:=by
  unfold iQ;rw[aaa (by omega),aaa (by omega)];simp
 unfold cv;rw[e];exact h
def Gn(b:Expr):Prop:=∀o i,subscripted b false o i=operate [o,i] (getItem o i)
def fL(X:Cx)(r:R2):Prop :=
 ∀(value a:Expr) (b:List (Addr × Obj)) (s:g0) (σ:St) (H:Hp) (x y:V) (v u:Value) (Q:VK),ai X b σ H s->aT x v->aT y u->r x y H Q ->
  subscripted a false v u=operate [v,u] (getItem v u)->wpAny (model X.prog X.w) X.A (subscriptTail value a v u) (EP X b σ Q) X.xe s
def eK(X:Cx)(id:String)(r:V->List V->Hp->VK->Prop):Prop :=
 ∀(a:List (Addr × Obj)) (s:g0) (σ:St) (H:Hp) (x:V) (xs:List V) (v:Value) (us:List Value) (Q:VK),ai X a σ H s->aT x v->aM xs us->r x xs H Q ->
  wpAny (model X.prog X.w) X.A (call (.builtin id) (v::us)) (EP X a σ Q) X.xe s
section
variable {X:Cx}{a b:Expr}{ta tb:TE}{pos:Pos}
def fL.or{r c:R2}(h:fL X r)(h':fL X c):fL X (λx y H Q=>r x y H Q\/c x y H Q):=by
 intro value a b s σ H x y v u Q I e d q hs;rcases q with q|q
 ·exact h value a b s σ H x y v u Q I e d q hs
 ·exact h' value a b s σ H x y v u Q I e d q hs
def MS{r:R2}(hr:fL X r)(i:PE X a ta)(hb:PE X b tb)(hs:Gn b):PE X (.Subscript a b pos) (iF r ta tb):=by
 intro c s σ H Q I h;exact Subscript_ (zH i hb I h λv u d x y j g f e q=>hr a b c d σ j x y v u Q g f e q (hs _ _))
def LJ(K:W.Frag):R2:=λx y H Q=>∃p xs i v,x=.ref p/\y=.int i/\aG K H p xs/\cv xs i=some v/\Q v H
def LI(K:W.Frag):R2:=λx y H Q=>∃p xs i v,x=.ref p/\y=.int i/\bq K H p xs/\cv xs i=some v/\Q v H
def Pw:fL X (LJ X.K):=by
 intro value e a s σ H x y v u Q I m l h hs;obtain⟨p,xs,i,z,rfl,rfl,k,he,q⟩:=h;cases m;obtain⟨t,rfl⟩:=l;obtain⟨c,r,pl,hz⟩:=I.list k;obtain⟨j,b,n,F,o,B⟩:=Ge he;obtain⟨w,g,d⟩:=r.get n;have hl:=r.length;have D:=qD;have fin:EP X a σ Q w s:=⟨z,H,I,d,q⟩;by_cases h0:0<=i
 ·have f:i.toNat=j:=by
   rw[seqIndex_of h0 B]at b;exact YL b
  exact item_listR pl.isList h0 (by omega) (by rw[f];simpa using g) fin hs
 ·have f:(i+(c.toArray.size:Int)).toNat=j:=by
   rw[seqIndex_neg (by omega) o]at b;rw[Yv,<- hl];exact YL b
  exact subscriptTail_builtinR (x:=w) pl.isList.typeIs slot_list_getitem.lookup
   (wpAny_getItem_list_neg (Q:=λr C=>r=w/\EP X a σ Q r C) pl.isList (by omega) (by rw[Yv]<;>omega) (by omega) (by rw[f];simpa using g) ⟨rfl,fin⟩) hs
def Pu:fL X (LI X.K):=by
 intro value c a s σ H x y v u Q I f d h hs;obtain⟨p,xs,i,z,rfl,rfl,l,he,q⟩:=h;cases f;obtain⟨t,rfl⟩:=d;obtain⟨e,r,pl,hz⟩:=I.tuple l;obtain⟨j,k,g,C,B,D⟩:=Ge he;obtain⟨w,n,b⟩:=r.get g;have hl:=r.length;have o:=qD;have fin:EP X a σ Q w s:=⟨z,H,I,b,q⟩;exact subscriptTail_builtinR (x:=w) pl.typeIs slot_tuple_getitem.lookup
  (getItem_tuple (j:=j) (Q:=λr m=>r=w/\EP X a σ Q r m) pl (by omega) (by omega) (by rw[Yv,<- hl];exact k) (by simpa using n) ⟨rfl,fin⟩) hs
def Ke(lo a:Option Int)(n:Nat):(sliceBounds lo a none n).1=((HT.sIx n 0 lo:Nat):Int)/\(sliceBounds lo a none n).2.1=((HT.sIx n n a:Nat):Int)/\(sliceBounds lo a none n).2.2=1:=by
 refine⟨?_,?_,rfl⟩
 ·cases lo with
  | none=>simp[sliceBounds,HT.sIx]
  | some i =>
   simp only [sliceBounds,HT.sIx,a0w,show (1:Int) > 0 by decide,if_true];by_cases h:i<0
   ·simp only [h,if_true]<;>omega
   ·simp only [h,if_false]<;>omega
 ·cases a with
  | none=>simp[sliceBounds,HT.sIx]
  | some i =>
   simp only [sliceBounds,HT.sIx,a0w,show (1:Int) > 0 by decide,if_true];by_cases h:i<0
   ·simp only [h,if_true]<;>omega
   ·simp only [h,if_false]<;>omega
def Kf(a:List Value)(lo b:Option Int):slicePick a.toArray lo b none=((a.drop (HT.sIx a.length 0 lo)).take (HT.sIx a.length a.length b-HT.sIx a.length 0 lo)).toArray:=by
 obtain⟨d,c,e⟩:=Ke lo b a.toArray.size;unfold slicePick;rw[d,c,e];simp only [sliceRange_one,pick_run,Yv]<;>rfl
def LE(K:W.Frag):V->Option Int->Option Int->Hp->VK->Prop:=λx lo b H Q=>∃a xs,x=.ref a/\aG K H a xs/\∀p,H p=none->Q (.ref p) (upd H p (.lst (cn xs lo b)))
def Kh:i6 X (LE X.K):=by
 intro e s σ H x v n l lo d k Q I g hs pl j h;obtain⟨a,xs,rfl,hx,q⟩:=h;cases g;obtain⟨i,r,f,hz⟩:=I.list hx;have c:=r.length;refine⟨"list",_,slot_list_getitem.lookup,f.isList.typeIs,?_⟩;refine wpAny_getItem_list_slice f.isList hs pl j .none (by simp) ?_ (by rw[Yv]<;>omega);rw[Kf,<- c];refine⟨.ref s.heap.objs.size,_,I.laid (t':=s.toks) (o:=.lst (cn xs lo d)) (λb m q=>YA _ q) (Ym _) ?_,rfl,q _ (I.hok.fresh (Ym _))⟩;exact⟨YK (FG xs lo d) hz,_,0,(r.drop (HT.sIx xs.length 0 lo)).take (HT.sIx xs.length xs.length d-HT.sIx xs.length 0 lo),YR _ rfl⟩
def fI:V->Bool
 | .non=>true
 | .bl _=>true
 | .int _=>true
 | .str _=>true
 | _=>false
def d6:V->V->Bool
 | .non,.non=>true
 | .bl a,.bl b=>a == b
 | .bl a,.int b=>(if a then 1 else 0) == b
 | .int a,.bl b=>a == (if b then 1 else 0)
 | .int a,.int b=>a == b
 | .str a,.str b=>a == b
 | _,_=>false
def SO{A:Around}{s:g0}{y x:V}{u v:Value}(d:aT y u)(c:aT x v)(e:fI y=true)(fx:fI x=true):SeqAt.EqAt A s u v (d6 y x):=by
 cases y with
 | non =>
  cases d;cases x with
  | non=>cases c;exact SeqAt.EqAt.same _
  | bl b=>cases c;exact SeqAt.EqAt.none_bool b
  | int b=>obtain⟨t,rfl⟩:=c;exact SeqAt.EqAt.none_int b t
  | str b=>obtain⟨t,rfl⟩:=c;exact SeqAt.EqAt.none_str b t
  | _=>exact aab (show false=true from fx) YC
 | bl a =>
  cases d;cases x with
  | non=>cases c;exact SeqAt.EqAt.bool_none a
  | bl b=>cases c;exact SeqAt.EqAt.bool_bool a b
  | int b=>obtain⟨t,rfl⟩:=c;exact SeqAt.EqAt.bool_int a b t
  | str b=>obtain⟨t,rfl⟩:=c;exact SeqAt.EqAt.bool_str a b t
  | _=>exact aab (show false=true from fx) YC
 | int a =>
  obtain⟨t',rfl⟩:=d;cases x with
  | non=>cases c;exact SeqAt.EqAt.int_none a t'
  | bl b=>cases c;exact SeqAt.EqAt.int_bool a t' b
  | int b=>obtain⟨t,rfl⟩:=c;exact SeqAt.EqAt.int_int a t' b t
  | str b=>obtain⟨t,rfl⟩:=c;exact SeqAt.EqAt.int_str a t' b t
  | _=>exact aab (show false=true from fx) YC
 | str a =>
  obtain⟨t',rfl⟩:=d;cases x with
  | non=>cases c;exact SeqAt.EqAt.str_none a t'
  | bl b=>cases c;exact SeqAt.EqAt.str_bool a t' b
  | int b=>obtain⟨t,rfl⟩:=c;exact SeqAt.EqAt.str_int a t' b t
  | str b=>obtain⟨t,rfl⟩:=c;exact SeqAt.EqAt.str_str a t' b t
  | _=>exact aab (show false=true from fx) YC
 | _=>exact aab (show false=true from e) YC
def d7(x:V)(u:Value):Bool:=match u with
 | .none=>d6 .non x
 | .bool b=>d6 (.bl b) x
 | .int i _=>d6 (.int i) x
 | .str z _=>d6 (.str z) x
 | _=>false
def xG{x y:V}{u:Value}(r:aT y u)(f:fI y=true):d7 x u=d6 y x:=by
 cases y with
 | non=>cases r;rfl
 | bl b=>cases r;rfl
 | int i=>obtain⟨t,rfl⟩:=r;rfl
 | str z=>obtain⟨t,rfl⟩:=r;rfl
 | _=>exact aab (show false=true from f) YC
theorem o5{x:V}:∀ {xs:List V} {us:List Value},aM xs us->xs.all fI=true->us.any (d7 x)=xs.any λy=>d6 y x
 | _,_,.nil,_=>rfl
 | y::xs,u::us,.cons r t,f=>by
  rw[List.all_cons,YT]at f;rw[ZI,ZI,xG r f.1,o5 t f.2]
theorem mJ{A:Around}{s:g0}{x:V}{v:Value}(b:aT x v)(fx:fI x=true):∀ {xs:List V} {us:List Value},aM xs us->xs.all fI=true->∀u∈us,SeqAt.EqAt A s u v (d7 x u)
 | _,_,.nil,_=>λu a=>by cases a
 | y::xs,u::us,.cons r t,f=>λc a=>by
  rw[List.all_cons,YT]at f;rcases Yz.mp a with rfl|a
  ·rw[xG r f.1];exact SO r b f.1 fx
  ·exact mJ b fx t f.2 c a
def dZ(x:V)(xs:List V):Bool:=xs.any λy=>d6 y x
def C3(K:W.Frag)(neg:Bool):R2:=λx y H Q=>∃p xs,y=.ref p/\(aG K H p xs\/bq K H p xs)/\fI x=true/\xs.all fI=true/\Q (.bl (if neg then !dZ x xs else dZ x xs)) H
def No:bb X (compareOp .In) (C3 X.K false):=by
 intro d s σ H x y v u Q I c e h;obtain⟨p,xs,rfl,b,fx,fs,q⟩:=h;cases e;rcases b with b|b
 ·obtain⟨a,r,pl,hz⟩:=I.list b;refine SeqAt.in_listAt (d7 x) pl.isList (λw hw=>mJ c fx r fs w (by simpa using hw)) ⟨.bl _,H,I,rfl,?_⟩;rw[show a.toArray.any (d7 x)=a.any (d7 x) by simp,o5 r fs];exact q
 ·obtain⟨a,r,pl,hz⟩:=I.tuple b;refine SeqAt.in_tupleAt (d7 x) pl (λw hw=>mJ c fx r fs w (by simpa using hw)) ⟨.bl _,H,I,rfl,?_⟩;rw[show a.toArray.any (d7 x)=a.any (d7 x) by simp,o5 r fs];exact q
def Nj:bb X (compareOp .NotIn) (C3 X.K true):=by
 intro d s σ H x y v u Q I c e h;obtain⟨p,xs,rfl,b,fx,fs,q⟩:=h;cases e;rcases b with b|b
 ·obtain⟨a,r,pl,hz⟩:=I.list b;refine SeqAt.notIn_listAt (d7 x) pl.isList (λw hw=>mJ c fx r fs w (by simpa using hw)) ⟨.bl _,H,I,rfl,?_⟩;rw[show a.toArray.any (d7 x)=a.any (d7 x) by simp,o5 r fs];exact q
 ·obtain⟨a,r,pl,hz⟩:=I.tuple b;refine SeqAt.notIn_tupleAt (d7 x) pl (λw hw=>mJ c fx r fs w (by simpa using hw)) ⟨.bl _,H,I,rfl,?_⟩;rw[show a.toArray.any (d7 x)=a.any (d7 x) by simp,o5 r fs];exact q
def Tp:cG X (.builtin "len") (λxs H Q=>∃p ys,xs=[.ref p]/\(aG X.K H p ys\/bq X.K H p ys)/\Q (.int ys.length) H):=by
 intro e s σ H xs us Q I r h;obtain⟨p,ys,rfl,b,q⟩:=h;obtain⟨u,rfl,f⟩:=iD r;cases f;have g:=qD;rcases b with b|b
 ·obtain⟨d,c,pl,hz⟩:=I.list b;have a:=c.length;exact Calls.call_len_list pl.isList (by simp only [Yv]<;>omega) ⟨.int ys.length,H,I.tok _,⟨s.toks+1,by rw[Yv,a]⟩,q⟩
 ·obtain⟨d,c,pl,hz⟩:=I.tuple b;have a:=c.length;exact len_tuple pl (by simp only [Yv]<;>omega) ⟨.int ys.length,H,I.tok _,⟨s.toks+1,by rw[Yv,a]⟩,q⟩
def To:cG X (.type "list") (λxs H Q=>∃p ys,xs=[.ref p]/\(aG X.K H p ys\/bq X.K H p ys)/\∀l,H l=none->Q (.ref l) (upd H l (.lst ys))):=by
 intro f s σ H xs us Q I r h;obtain⟨p,ys,rfl,i,q⟩:=h;obtain⟨u,rfl,m⟩:=iD r;cases m;have fin:∀(a:List Value),aM ys a->ys.length<=sizeLine->∀(h':Heap) (d:Nat),(∀b o',s.heap.get? b=some o'->h'.get? b=some o') ->
  h'.get? s.heap.objs.size=some { cls:=.type "list",dict:=none,data:=.seq a.toArray d,slots:=#[] }->EP X f σ Q (.ref s.heap.objs.size) { s with heap:=h' }:=λa c hz h' d kp e =>
  ⟨.ref s.heap.objs.size,_,I.laid (t':=s.toks) kp (Ym _) (show ci X.prog X.w _ h' _ (.lst ys) from ⟨hz,a,d,c,e⟩),rfl,q _ (I.hok.fresh (Ym _))⟩
 rcases i with i|i
 ·obtain⟨a,c,pl,hz⟩:=I.list i;have g:=c.length;obtain⟨o,k,j,n,hd⟩:=pl.isList;exact call_list_seq p (.inl rfl) k j hd (λh' d kp e=>fin a c hz h' d kp e) (by simp only [Yv]<;>omega)
 ·obtain⟨a,c,pl,hz⟩:=I.tuple i;have g:=c.length;obtain⟨o,k,j,n,hd⟩:=pl;exact call_list_seq p (.inr rfl) k j hd (λh' d kp e=>fin a c hz h' d kp e) (by simp only [Yv]<;>omega)
def Tn:cG X (.type "tuple") (λxs H Q=>∃p ys,xs=[.ref p]/\((aG X.K H p ys/\∀l,H l=none->Q (.ref l) (upd H l (.tup ys)))\/(bq X.K H p ys/\Q (.ref p) H))):=by
 intro a s σ H xs us Q I r h;obtain⟨p,ys,rfl,h⟩:=h;obtain⟨u,rfl,i⟩:=iD r;cases i;rcases h with ⟨hq,q⟩|⟨hq,q⟩
 ·obtain⟨c,d,pl,hz⟩:=I.list hq;have f:=d.length;refine call_tuple_list pl.isList (λh' kp=>?_) (by simp only [Yv]<;>omega);have g:ai X a σ H { s with heap:=h' }:=I.kept (t':=s.toks) kp;have j:ai X a σ (upd H h'.objs.size (.tup ys)) { s with heap:=h'.push { cls:=.type "tuple",data:=.seq c.toArray } } :=
   g.laid (t':=s.toks) (λb o e=>YA _ e) (Ym _) (show ci X.prog X.w _ _ _ (.tup ys) from ⟨hz,c,d,IsTup.new _ _⟩)
  exact⟨.ref h'.objs.size,_,j,rfl,q _ (g.hok.fresh (Ym _))⟩
 ·obtain⟨c,d,pl,hz⟩:=I.tuple hq;exact call_tuple_same pl ⟨.ref p,H,I,rfl,q⟩
def ua(K:W.Frag)(T:String)(x:V)(H:Hp):Prop:=match x with
 | .str _=>T = "str"
 | .int _=>T = "int"
 | .ref p=>(T = "list"/\∃xs,aG K H p xs)\/(T = "tuple"/\∃o,K.lookup p=some o/\o.cls=.type "tuple"/\o.dict=none) \/
  (T = "dict"/\((∃kvs,H p=some (.dK kvs))\/∃kvs,H p=some (.dT kvs)))\/(T = "set"/\∃S n,H p=some (.set S n))
 | _=>False
def BC{b:List (Addr × Obj)}{σ:St}{H:Hp}{s:g0}{T:String}{x:V}{v:Value}(I:ai X b σ H s)(r:aT x v)(ty:ua X.K T x H) :
 s.TypeIs v T/\∀a,v=.ref a->∃ob,s.heap.get? a=some ob/\ob.dict=none:=by
 cases x with
 | str z =>
  obtain⟨t,rfl⟩:=r;cases (show T = "str" from ty);exact⟨typeIs_str s z t,λ_ e=>nomatch e⟩
 | int i =>
  obtain⟨t,rfl⟩:=r;cases (show T = "int" from ty);exact⟨typeIs_int s i t,λ_ e=>nomatch e⟩
 | ref p =>
  cases r;rcases ty with ⟨rfl,xs,hq⟩|⟨rfl,o,hk,hc,hd⟩|⟨rfl,hk⟩|⟨rfl,S,n,hk⟩
  ·obtain⟨f,_,pl,_⟩:=I.list hq;refine⟨pl.isList.typeIs,λa e=>?_⟩;cases e;obtain⟨o,n,e,c,hd,_⟩:=pl;exact⟨o,e,hd⟩
  ·refine⟨⟨o,I.kIn p o hk,hc⟩,λa e=>?_⟩;cases e;exact⟨o,I.kIn _ o hk,hd⟩
  ·have z:∃o,s.heap.get? p=some o/\o.ExactDict:=by
    rcases hk with ⟨kvs,hk⟩|⟨kvs,hk⟩
    ·obtain⟨_,_,_,_,o,_,_,e,ex,_⟩:=I.hok p _ hk;exact⟨o,e,ex⟩
    ·obtain⟨_,_,_,_,o,_,_,e,ex,_⟩:=I.hok p _ hk;exact⟨o,e,ex⟩
   obtain⟨o,e,ex⟩:=z;refine⟨⟨o,e,ex.1⟩,λa d=>?_⟩;cases d;exact⟨o,e,ex.2.1⟩
  ·obtain⟨o,_,_,_,e,ex,_⟩:=I.hok p _ hk;refine⟨⟨o,e,ex.1⟩,λa d=>?_⟩;cases d;exact⟨o,e,ex.2.1⟩
 | _=>exact False.elim ty
def uk(K:W.Frag)(T:String)(r:V->List V->Hp->VK->Prop)(to:TE):TE:=λσ H Q=>to σ H λx a=>ua K T x a/\r x [] a Q
def ul(K:W.Frag)(T:String)(r:V->List V->Hp->VK->Prop)(to:TE)(t:TA):TE:=λσ H Q=>to σ H λx a=>ua K T x a/\t σ a λxs b=>r x xs b Q
variable {o e:Expr}{es:List Expr}{to:TE}{t:TA}{name:Str}{apos cpos:Pos}{T id:String}{r:V->List V->Hp->VK->Prop}
def M6 (k:PlainAttrs T) (slot:Slot T name id) (d:typeOf (.builtin id)=pure (.type "method_descriptor")) (hm:eK X id r) (m:PE X o to)
 (b:attributeBase o name X.env (eval o X.env)=eval o X.env:=by rfl) (c:(apos.endLine == cpos.line)=true:=by rfl):PE X (.Call (.Attribute o name apos) [] [] cpos) (uk X.K T r to):=by
 intro a s σ H Q I h;refine wpAny_Call_method0_late b c (aB (m a s σ H _ I h) λv s1 ⟨x,g,f,e,ty,i⟩=>?_);obtain⟨l,j⟩:=BC f e ty;exact⟨T,id,k,slot,d,l,j,Calls.callWith_builtin rfl (PySem.evalArgs_none (hm a s1 σ g x [] v [] Q f e .nil i))⟩
def M7 (l:PlainAttrs T) (slot:Slot T name id) (g:typeOf (.builtin id)=pure (.type "method_descriptor")) (hm:eK X id r) (C:PE X o to) (p:PA X (e::es) t)
 (c:attributeBase o name X.env (eval o X.env)=eval o X.env:=by rfl)
 (f:((backTo cpos (starEach (e::es) X.env)).all (λx=>!x.1) && (backToKw cpos (keywordEach [] X.env)).all (λx=>x.1.isSome)
   && decide ((e::es).length+([]:List Keyword).length+(if ([]:List Keyword).isEmpty then 0 else 1)<30))=true:=by rfl)
 (d:(apos.endLine == cpos.line)=true:=by rfl) (hs:starEach (e::es) X.env=(false,eval e X.env)::starEach es X.env:=by rfl) (b:(backTo cpos (starEach es X.env)).any (·.1)=false:=by rfl) :
 PE X (.Call (.Attribute o name apos) (e::es) [] cpos) (ul X.K T r to t):=by
 intro a s σ H Q I h;refine wpAny_Call_method_late c f d rfl (aB (C a s σ H _ I h) λv s1 ⟨x,u,i,j,ty,n⟩=>?_);obtain⟨z,y⟩:=BC i j ty;refine⟨T,id,l,slot,g,z,y,?_⟩;have hA:=p cpos a s1 σ u _ i n;rw[hs]at hA ⊢;refine Calls.callWith_builtin (by show (false || (backTo cpos (starEach es X.env)).any (·.1))=false;rw[b]<;>rfl) (Calls.evalArgs_plain ?_);exact aB hA λus k ⟨vs,m,q,D,B⟩=>hm a k σ m x vs v us Q q j D B
end
def Bk(X:Cx)(id:String)(r:V->List V->Hp->VK->Prop):Prop :=
 ∀(a:List (Addr × Obj)) (s:g0) (σ:St) (H:Hp) (x:V) (xs:List V) (v:Value) (us:List Value) (Q:VK),ai X a σ H s->aT x v->aM xs us->r x xs H Q ->
  wpAny (model X.prog X.w) X.A (call (.builtin id) (v::us)) (EP X a σ Q) X.xe s
theorem aM.one:∀ {x:V} {us:List Value},aM [x] us->∃u,us=[u]/\aT x u
 | _,_,.cons r .nil=>⟨_,rfl,r⟩
theorem aM.zero:∀ {us:List Value},aM [] us->us=[]
 | _,.nil=>rfl
def aM.reverse{xs:List V}{us:List Value}(h:aM xs us):aM xs.reverse us.reverse:=by
 induction h with
 | nil=>exact .nil
 | cons r t ih=>rw[List.reverse_cons,List.reverse_cons];exact aM.append ih (.cons r .nil)
theorem aM.rep{xs:List V}{us:List Value}(h:aM xs us):∀k:Nat,aM (List.replicate k xs).flatten (List.replicate k us).flatten
 | 0=>.nil
 | k+1=>by
  rw[Za,Za,Zu,Zu];exact aM.append h (aM.rep h k)
theorem Fm(a:List Value):∀(k:Nat) (b:List Value),
 List.foldl (λc f=>c++f) b.toArray (List.replicate k a.toArray)=(b++(List.replicate k a).flatten).toArray
 | 0,b=>by simp
 | k+1,b=>by
  have e:b.toArray++a.toArray=(b++a).toArray:=by simp
  have d:(b++a)++(List.replicate k a).flatten=b++(List.replicate (k+1) a).flatten:=by
   rw[Za,Zu,YU]
  rw[<- d,<- Fm a k (b++a),<- e,Za,ZU]
section
variable {X:Cx}{pins:List (Addr × Obj)}{σ:St}{H:Hp}{s:g0}{l b:Addr}{xs ys zs:List V}
def ai.lset{a its':List Value}{n:Nat}{f:Array Value->Array Value}{t':Nat}(I:ai X pins σ H s)(hH:H l=some (.lst xs))
 (e:s.heap.get? l=some { cls:=.type "list",data:=.seq a.toArray n }) (b:f a.toArray=its'.toArray) (c:aM ys its') (hz:ys.length<=sizeLine) :
 ai X pins σ (upd H l (.lst ys)) { s with heap:=s.heap.update l (Obj.mapSeq f),toks:=t' }:=by
 have q:=PySem.IsL.update e f;rw[b]at q;refine I.write (x:=l) (e:=l) (by rw[hH];exact trivial) (.inl rfl) (λb' u hb d=>(a0x s.heap (Obj.mapSeq f) (Ne.symm hb)).trans d) ⟨_,q⟩ ?_;exact⟨hz,its',_,c,q⟩
def ai.lnew{a:List Value}{t':Nat}(I:ai X pins σ H s)(b:aM ys a)(hz:ys.length<=sizeLine) :
 ai X pins σ (upd H s.heap.objs.size (.lst ys)) { s with heap:=s.heap.push { cls:=.type "list",data:=.seq a.toArray },toks:=t' } :=
 I.laid (λ_ _ q=>YA _ q) (Ym _) ⟨hz,a,0,b,YR _ rfl⟩
def ai.fresh(I:ai X pins σ H s):H s.heap.objs.size=none:=I.hok.fresh (Ym _)
def ai.lstM(I:ai X pins σ H s)(hH:H l=some (.lst xs)):xs.length<=sizeLine/\∃(a:List Value) (n:Nat),aM xs a/\xs.length=a.length/\s.heap.get? l=some { cls:=.type "list",data:=.seq a.toArray n }:=by
 obtain⟨z,a,n,r,e⟩:=I.hok l _ hH;exact⟨z,a,n,r,r.length,e⟩
def qp{n:Nat}(h:n<=sizeLine):Builtin.List.listTooLong n=false:=by
 unfold Builtin.List.listTooLong;exact aae (by omega)
end
section
variable {X:Cx}
def LM:V->List V->Hp->VK->Prop:=λx vs H Q=>∃l xs y,x=.ref l/\vs=[y]/\H l=some (.lst xs)/\xs.length<sizeLine/\Q .non (upd H l (.lst (xs++[y])))
def NU:Bk X "list.append" LM:=by
 intro b s σ H x vs v us Q I c d h;obtain⟨l,xs,y,rfl,rfl,hH,hz,q⟩:=h;cases c;obtain⟨u,rfl,f⟩:=d.one;obtain⟨z,a,n,r,hl,e⟩:=I.lstM hH;refine call_meets F.slot_list_append ⟨_,e,rfl⟩ F.entry_list_append (F.args_list_append_2 _ _) (PySem.list_append l a.toArray n u (by rw[Yv];omega)) ⟨e,?_⟩;refine⟨.non,_,I.lset (its':=a++[u]) hH e (by simp) (r.append (.cons f .nil)) ?_,rfl,q⟩;rw[Yo,List.length_singleton];omega
def LK:V->List V->Hp->VK->Prop:=λx vs H Q=>∃l b xs zs,x=.ref l/\vs=[.ref b]/\H l=some (.lst xs)/\H b=some (.lst zs)/\xs.length+zs.length<=sizeLine/\Q .non (upd H l (.lst (xs++zs)))
def NR:Bk X "list.extend" LK:=by
 intro f s σ H x vs v us Q I i j h;obtain⟨l,b,xs,y,rfl,rfl,hH,hB,hz,q⟩:=h;cases i;obtain⟨u,rfl,m⟩:=j.one;cases m;obtain⟨z,c,n,r,hl,e⟩:=I.lstM hH;obtain⟨z2,a,g,o,p,k⟩:=I.lstM hB;have hsz:c.toArray.size+a.toArray.size<=sizeLine:=by rw[Yv,Yv];omega
 have d:¬(!c.toArray.isEmpty && Builtin.List.listTooLong (c.toArray.size+a.toArray.size))=true:=by
  rw[qp hsz,Bool.and_false];exact YC
 refine call_meets F.slot_list_extend ⟨_,e,rfl⟩ F.entry_list_extend (F.args_list_extend_2 _ _)
  (AutoSeq1.list_extend_list_list_0 l c.toArray n b a.toArray g d (by rw[Yv];omega) (by omega)) ⟨e,k,?_⟩
 refine⟨.non,_,I.lset (its':=c++a) hH e (by simp) (r.append o) ?_,rfl,q⟩;rw[Yo];omega
def LF:V->List V->Hp->VK->Prop:=λx vs H Q=>∃l xs,x=.ref l/\vs=[]/\H l=some (.lst xs)/\Q .non (upd H l (.lst xs.reverse))
def NQ:Bk X "list.reverse" LF:=by
 intro c s σ H x vs v us Q I d f h;obtain⟨l,xs,rfl,rfl,hH,q⟩:=h;cases d;have b:=f.zero;subst b;obtain⟨z,a,n,r,hl,e⟩:=I.lstM hH;refine call_meets F.slot_list_reverse ⟨_,e,rfl⟩ F.entry_list_reverse (F.args_list_reverse_1 _) (AutoSeq1.list_reverse_list_0 l a.toArray n (by rw[Yv];omega)) ⟨e,?_⟩;refine⟨.non,_,I.lset (its':=a.reverse) hH e (by simp) r.reverse ?_,rfl,q⟩;rw[a0y];omega
def LG:R2:=λx y H Q=>∃l k xs,x=.ref l/\y=.int k/\H l=some (.lst xs)/\-(2 ^ 63)<=k/\k<2 ^ 63/\xs.length*k.toNat<=sizeLine /\
 ∀p,H p=none->Q (.ref p) (upd H p (.lst (List.replicate k.toNat xs).flatten))
def Pf{α:Type}(xs:List α)(k:Nat):(List.replicate k xs).flatten.length=k*xs.length:=by
 induction k with
 | zero=>simp
 | succ k ih=>rw[Za,Zu,Yo,ih,Nat.succ_mul,Nat.add_comm]
def Nh:bb X (binaryOp .Mult) LG:=by
 intro p s σ H x y v u Q I D B h;obtain⟨l,k,xs,rfl,rfl,hH,J,C,hz,q⟩:=h;cases D;obtain⟨t,rfl⟩:=B;obtain⟨z,b,n,r,hl,e⟩:=I.lstM hH;have d:b.toArray.size*k.toNat<=sizeLine:=by rw[Yv,<- hl];exact hz
 have g:¬b.toArray.size*k.toNat > (2 ^ 63-1)/8:=by
  have:(sizeLine:Nat)<=(2 ^ 63-1)/8:=by decide
  omega
 have f:¬(!Builtin.List.listFitsIndex k)=true:=by
  rw[fitsIndex_both J C];exact YC
 have c:¬Builtin.List.listTooLong (b.toArray.size*k.toNat)=true:=by
  rw[qp d];exact YC
 have i:List.foldl (λj o=>j++o) #[] (List.replicate (if b.toArray.isEmpty=true then 0 else k.toNat) b.toArray)=(List.replicate k.toNat b).flatten.toArray:=by
  have G:∀m:Nat,List.foldl (λj o=>j++o) #[] (List.replicate m b.toArray)=(List.replicate m b).flatten.toArray:=λm=>by
   have:=Fm b m [];rw[Zv]at this;exact this
  rw[G];cases b with
  | nil=>simp
  | cons a r'=>rw[on (by simp)]
 refine wpAny_binaryOp_repeat_ref (T := "list") (U := "int") (by decide) ⟨_,e,rfl⟩ (λL=>typeIs_int L k t) noFill_list_mul F.fills_int_mul F.slot_int_rmul repeat_list F.slot_int_index.lookup
  (call_meets F.slot_int_rmul (typeIs_int s k t) F.entry_int_rmul (F.args_int_rmul_2 _ _) (int___rmul___int_list k t l b.toArray n)
    ⟨e,rfl,⟨_,e,rfl⟩,call_meets F.slot_list_mul ⟨_,e,rfl⟩ F.entry_list_mul (F.args_list_mul_2 _ _) (AutoListH.list___mul___list_int_3 l b.toArray n k t f g c) ⟨e,?_⟩⟩)
 rw[i];exact⟨.ref _,_,I.lnew (t':=s.toks) (r.rep k.toNat) (by rw[Pf,Nat.mul_comm];exact hz),rfl,q _ I.fresh⟩
end
section
variable {prog:Program}{w:World}{A:Around}{E:Value->g0->Prop}{s:g0}
def T8{a c n:Nat}(d:a<=c)(f:c<=n):sliceBounds (some (a:Int)) (some (c:Int)) none n=((a:Int),(c:Int),1):=by
 simp only [sliceBounds,a0w];have e:¬((a:Int)<0):=by omega
 have b:¬((c:Int)<0):=by omega
 simp only [e,b,if_false,show (1:Int) > 0 by decide,if_true]
 congr 1
 ·omega
 ·congr 1;omega
set_option maxRecDepth 100000 in
def Xn{l b k:Addr}{items new:Array Value}{n z:Nat}{u r:Value}{a c:Nat}{Q:Unit->g0->Prop}
 (e:s.heap.get? l=some { cls:=.type "list",data:=.seq items n }) (y:s.heap.get? b=some { cls:=.type "list",data:=.seq new z }) (q:l≠b)
 (hs:s.heap.IsSliceOf k u r .none) (pl:IsPart u (some (a:Int))) (C:IsPart r (some (c:Int))) (p:a<=c) (B:c<=items.size)
 (hsz:items.size+new.size<=sizeLine) (h:Q () { s with heap:=s.heap.update l (Obj.mapSeq λxs=>xs.extract 0 a++new++xs.extract c xs.size) }) :
 wpAny (model prog w) A (setItem (.ref l) (.ref k) (.ref b)) Q E s:=by
 have hl:s.heap.IsList l items:=PySem.IsL.isList e;have hb:s.heap.IsList b new:=PySem.IsL.isList y;obtain⟨os,f,o,i⟩:=id hs;have hTs:s.TypeIs (.ref k) "slice":=⟨os,f,o⟩;have g:¬((rawPart none == rawInt 0)=true):=YC;have d:Builtin.List.listSameRef (.ref l) (.ref b)=false:=by
  unfold Builtin.List.listSameRef;exact beq_eq_false_iff_ne.mpr q
 have j:(max (a:Int) (c:Int)).toNat=c:=by omega
 have v:((λxs:Array Value=>xs.extract 0 a++new++xs.extract c xs.size) items).size<=sizeLine+1:=by
  simp only [Array.size_append,Array.size_extract];omega
 unfold setItem
 try with_reducible refine wpAny_holding ?_
 first|refine kb (no ?_)|skip
 refine kb (wpAny_sequenceKey hl.typeIs (by decide) ?_);refine kb (wpAny_callSpecial?_slot (name:=Str.ofString "__setitem__") hl.typeIs slot_list_setitem
  (wpAny_call_entry slot_list_setitem hl.typeIs entry_list_setitem ?_ (args_list_setitem _ _ _)))
 show wpAny _ _ (Builtin.List.listSubscript? (.ref k) >>= _) _ _ s;refine kb ?_;unfold Builtin.List.listSubscript?;refine kb (wpAny_specialOf hTs slice_no_index ?_);simp only [Option.isNone_none,if_true];refine no ?_;show wpAny _ _ (typeOf (.ref k) >>= _) _ _ s;refine kb (wpAny_typeOf hTs ?_)
 first
  | rw[on (by decide)]
  | refine W.KFB.if_not (by decide) ?_
 rw[listSliceParts_eq];refine kb (kb (wpAny_field f i (x:=.none) rfl (kb (wpAny_listPart .none ?_))));rw[on g];refine kb (wpAny_field f i (x:=u) rfl (kb (wpAny_listPart pl ?_)));refine kb (wpAny_field f i (x:=r) rfl (kb (wpAny_listPart C (no ?_))))
 first
  | simp only [d,a0z,if_false]
  | refine W.KFB.if_not d ?_
  | (dsimp only
     rw[on (by rw[d];exact YC)])
 refine kb (m:=Builtin.List.listAllItems (.ref b) "must assign iterable to extended slice") ?_;unfold Builtin.List.listAllItems;refine kb (wpAny_typeOf hb.typeIs ?_)
 first
  | refine W.KFB.if_so (by decide) ?_
  | rw[aaa (by decide)]
  | simp only [beq_self_eq_true,Bool.true_or,if_true]
 unfold Builtin.List.listItems;refine kb (wpAny_seqItems y rfl (no ?_));refine kb (kb (wpAny_seqItems e rfl (no ?_)));refine kb (wpAny_of_eq ((sliceIndices_raw (some (a:Int)) (some (c:Int)) none items.size (by simp)).trans (congrArg (pure:Int × Int × Int->Sem (Int × Int × Int)) (T8 p B))) ?_);show wpAny _ _ (if ((1:Int) == 1)=true then _ else _) _ _ s;rw[aaa (by decide)];refine kb (wpAny_rule ?_)
 first
  | simp only [qp hsz,a0z,if_false]
  | refine W.KFB.if_not (qp hsz) ?_
 first|refine kb (no ?_)|skip
 show wpAny _ _ (updateSeq l (λxs=>xs.extract 0 ((a:Int)).toNat++new++xs.extract (max (a:Int) (c:Int)).toNat xs.size) >>= _) _ _ s;rw[j,Zw];refine kb (wpAny_updateSeq (hz:=YK (Nat.le_add_right _ _) hsz) (_hz':=v) e rfl ?_);refine kb (wpAny_letGo ?_)
 first
  | exact kb (no (no ⟨.none,rfl,no h⟩))
  | exact no ⟨.none,rfl,no h⟩
end
end L2
namespace Att
open PySem PySem.W PySem.Calls PyProof.Rows
def PH{P:Params}{h:Heap}:∀(ns:f6) (vs:List Value),WellAll P h vs (ns.map WData.int)->IntsAre vs ns:=by
 intro ns
 induction ns with
 | nil =>
  intro vs w;rw[List.map_nil]at w;cases w;exact .nil
 | cons n ns ih =>
  intro vs w;rw[YO]at w;cases w with
  | cons a b =>
   cases a;exact .cons _ _ (ih _ b)
def Kn{l:OpenLaw}{n:Nat}(k:l.most=some n){P:Params}{h:Heap}{args:List WData}{vals:List Value}
 (b:l.row.toRowW.claim.pre args=true) (i:WellAll P h vals args) :
 ∃a vs ns,vals=[Value.ref a]/\args=[WData.list (ns.map WData.int)]/\h.get? a=some { cls:=.type "list",data:=.seq vs.toArray }/\IntsAre vs ns/\ns.length<=n:=by
 have g:WShape.hasAll [] args [.list .int]=true:=(pre_splitW b).1;have j:l.pre.holds [] { args:=args }=true:=(pre_splitW b).2;obtain⟨d,r,rfl,o,m⟩:=hasAllW_cons g;obtain rfl:=hasAllW_nil m;obtain⟨xs,rfl,s⟩:=hasW_list o;obtain⟨ns,rfl⟩:=items_int s;have c:ns.length<=n:=by
  unfold OpenLaw.pre at j;have e:(WTm.not (.lt (.lit (.int (n:Int))) (.len (.arg 0)))).holds [] { args:=[.list (ns.map .int)] }=true:=by
   have e:=(holds_andW j).1;rw[k]at e;exact e
  have f:=condW_of e (w_not (w_lt w_lit (w_len_list (w_arg rfl))));rw[Yl]at f;refine Nat.le_of_not_lt λq=>?_;have p:(n:Int)<((ns.length:Nat):Int):=by omega
  first
   | (rw[aad p]at f;exact aab f (by decide))
   | (simp at f;omega)
 cases i with
 | cons w1 w2 =>
  cases w2;cases w1 with
  | list ho hall=>exact⟨_,_,ns,rfl,rfl,ho,PH ns _ hall,c⟩
def Mu(l:OpenLaw)(args:List WData):l.row.toRowW.claim.post args (.bool true) args=true :=
 postW_of (r:=l.row.toRowW) (X:=(true == true))
  (show WShape.has [] (.bool true) .bool=true by first|rfl|decide|simp[WShape.has,WShape.arms,WShape.armsAll])
  (show (WTm.eq .res (.lit (.bool true))).value [] { args:=args,res:=some (.bool true),after:=args }=some (.bool (true == true)) from w_eq_bool (w_res rfl) w_lit) rfl
def attach_call{l:OpenLaw}{n:Nat}{q:Program}{c:List Str}{B:(Str->Option Value)->Heap->Prop}{C:World->Heap->Prop}{d:DefRec}
 (F:l.most=some n) (v:d.params.defaults=[])
 (call:∀(w:World) (s₀ b:g0) (mg s:Str->Option Value) (k:Addr) (o:Obj) (y p e:Value) (a:Addr) (vs:List Value) (ns:f6),
   Ground q c [] B w s₀ mg s b.heap->C w b.heap ->
   b.heap.get? k=some o->o.data=.func (docDef d.name d.params d.body d.scope y p e)->b.heap.CodeRec p d.name->mg d.name=some (.ref k) ->
   b.heap.get? a=some { cls:=.type "list",data:=.seq vs.toArray }->IntsAre vs ns->ns.length<=n->b.gens = #[] ->
   codeAny (model l.prog w) callerA (.call (.ref k) ⟨[.ref a],[]⟩) (λr m=>r=.ok (.ret (.bool true))/\OldK b.heap m.heap/\m.os=b.os/\AllBare m.gens) b) :
 WalkO q c B C l.row.toRowW d [] (λf vs=>PySem.call f vs):=by
 intro w s₀ b mg s G Y k o y p e dV kV O hd z hD x R args vals as i D I u S;obtain rfl:dV=.none:=Dflts.none hD v;obtain rfl:kV=.none:=Dflts.noKw hD;obtain⟨a,vs,ns,rfl,rfl,j,g,h⟩:=Kn F i u;refine enter_call (codeAny_mono (call w s₀ b mg s k o y p e a vs ns G Y O (fd_plain hd) z x j g h R) λr m L=>?_);obtain⟨rfl,J,M,N⟩:=L;exact⟨.inl ⟨.bool true,.bool true,[],rfl,λ_=>rfl,.bool true,Mu l _,λ_=>⟨List.Pairwise.nil,λ_ hm=>(nomatch hm)⟩⟩,J,M,N⟩
end Att
namespace L2
open PySem PySem.Spec PyProof.Rows
theorem Bu:∀ {vs:List Value} {ns:f6},IntsAre vs ns->aM (ns.map V.int) vs
 | _,_,.nil=>.nil
 | _,_,.cons n t h=>.cons ⟨t,rfl⟩ (Bu h)
def Bj(H:Hp):Prop:=∀b,H b=none\/∃o xs,H b=some (.frz o (.lst xs))
def Pj{P:Program}{w:World}{K:W.Frag}{mg I:Str->Option Value}{CX:gj}{k:Nat}{M a:Addr}{O:FuncData}{x:Str}{sp:Sp}{c:g0}{vs:List Value}{ns:f6}
 (R:K.In c.heap) (y:c.heap.Ns mainGlobals mg) (hb:c.heap.Ns builtinsNs I) (J:∀x:Str,x ≠ "__name__"->I x=bootBuiltins x) (B:c.heap.NoLimit) (hg:c.gens = #[])
 (G:c.heap.get? a=some { cls:=.type "list",data:=.seq vs.toArray }) (N:IntsAre vs ns) (hl:ns.length<=sizeLine) (hr:bS k callerA)
 (F:∀base:Heap,K.In base->base.Ns mainGlobals mg->bH P w K mg base CX k M O [x] sp) (j:∀(s:g0) (u:Value),BindsTo s O ⟨[u],[]⟩ [(x,u)])
 (L:∀H:Hp,Bj H->aG K H a (ns.map V.int)->sp [.ref a] H (λv _=>v=.bl true) λ_ _ _=>False)
 (hCX:∀H e g,CX [] H c (λ_ _ _=>False) e g->False) :
 codeAny (model P w) callerA (.call (.ref M) ⟨[.ref a],[]⟩) (λr g=>r=.ok (.ret (.bool true))/\OldK c.heap g.heap/\g.os=c.os/\AllBare g.gens) c:=by
 have S:=Bu N;have lenV:=N.length;have i:∀H:Hp,Bj H->aG K H a (ns.map V.int)->bT P w H c.heap->(∀b,H b≠none->b=a)->(H a≠none->K.lookup a=none) ->
  codeAny (model P w) callerA (.call (.ref M) ⟨[.ref a],[]⟩) (λr g=>r=.ok (.ret (.bool true))/\OldK c.heap g.heap/\g.os=c.os/\AllBare g.gens) c:=by
  intro H hO hS hok hA hK;have f:∀ {b:Addr} {o:Obj},c.heap.get? b=some o->H b=none->(ix c.heap H).get? b=some o:=λe n=>PY e n;have noA:∀ {b:Addr} {o:Obj} {D:Array DictEntry} {l:Nat},c.heap.get? b=some o->o.data=.dict D l->H b=none:=λ{b o D l} e d=>by
   cases q:H b with
   | none=>rfl
   | some u =>
    have e':b=a:=hA b (by rw[q];simp);subst e';rw[G]at e;cases e;have d':Data.seq vs.toArray _=Data.dict D l:=d;cases d'
  have nsK:∀ {b:Addr} {m:Str->Option Value},c.heap.Ns b m->(ix c.heap H).Ns b m:=λ{b m} ⟨o,D,l,e,d,r⟩=>⟨o,D,l,f e (noA e d),d,r⟩;have hKb:K.In (ix c.heap H):=λb o e=>f (R b o e) (by
   cases q:H b with
   | none=>rfl
   | some u =>
    have e':b=a:=hA b (by rw[q];simp);subst e';rw[hK (by rw[q];simp)]at e;cases e)
  have hM:Mod K mg (ix c.heap H):=⟨hKb,nsK y,⟨I,nsK hb,J⟩,let ⟨mc,h1,h2⟩:=B;⟨mc,nsK h1,h2⟩⟩;have e0:ja P w K mg (ix c.heap H) callerA [] c H:=⟨rfl,hM,λb o e=>NJ e,ZP (PX _ _),trivial,λb hb=>aab (show b∈([]:List Addr) from hb) (by simp),hok,.of_eq hg⟩;refine codeAny_mono ((F _ hKb (nsK y)).run callerA [] c H ⟨[.ref a],[]⟩ [.ref a] [.ref a] _ _ hr e0 (j c (.ref a)) (.cons rfl .nil) (L H hO hS)) λr g h=>?_;cases r with
  | error e=>exact (hCX H e g h).elim
  | ok fl =>
   cases fl with
   | next=>exact False.elim h
   | brk=>exact False.elim h
   | cont=>exact False.elim h
   | ret u =>
    obtain⟨v,H',os,bare,un,p,Y,q⟩:=h;have q':v=.bl true:=q;subst q';obtain rfl:u=Value.bool true:=Y;refine⟨rfl,OldK.of_keep λb o e=>?_,os,bare⟩;cases q:H b with
    | none=>exact un.keep b o e q (by intro z;exact aab (show b∈([]:List Addr) from z) (by simp)) (by simp)
    | some u =>
     rcases hO b with z|⟨ob,xs,z⟩
     ·rw[q]at z;cases z
     ·have z2:=un.frzs b ob _ z;obtain⟨U,_⟩:=hok b _ z;obtain⟨e2,_⟩:=p b _ z2;rw[e]at U;cases U;exact e2
 cases hk:K.lookup a with
 | some o =>
  have e:=R a o hk;rw[G]at e;cases e;refine i (λ_=>none) (λ_=>.inl rfl) (.inr ⟨_,vs.toArray,_,hk,rfl,rfl,rfl,by rw[Yv,lenV];exact hl,by simpa using S⟩) (λb u z=>by have C:(none:Option HO)=some u:=z;cases C) (λb z=>aab rfl z) λz=>aab rfl z
 | none =>
  refine i (λb=>if b=a then some (.frz { cls:=.type "list",data:=.seq vs.toArray } (.lst (ns.map V.int))) else none) (λb=>?_) (.inl (.inr ⟨{ cls:=.type "list",data:=.seq vs.toArray },aaa rfl⟩)) (λb u z=>?_) (λb z=>?_) λ_=>hk
  ·by_cases hb:b=a
   ·exact .inr ⟨_,_,aaa hb⟩
   ·exact .inl (on hb)
  ·by_cases hb:b=a
   ·have C:=(aaa hb).symm.trans z;cases C;subst hb;exact⟨G,by rw[Yl];exact hl,vs,_,S,G⟩
   ·have C:=(on hb).symm.trans z;cases C
  ·by_cases hb:b=a
   ·exact hb
   ·exact aab (on hb) z
abbrev KOf{K:W.Frag}{h:Heap}(_:K.In h):W.Frag:=K
def walk_of{l:W.OpenLaw}{n k:Nat}{q:Program}{j:List Str}{R:(Str->Option Value)->Heap->Prop}{J:World->Heap->Prop}{d:DefRec}{K:Params->W.Frag}{CX:World->gj}{sp:World->Sp}{x:Str}
 (L:l.most=some n) (r:n<=sizeLine) (y:d.params.defaults=[]) (hr:bS k callerA)
 (hY:∀(w:World) (h:Heap),J w h->(K w.params).In h)
 (F:∀(w:World) (mg:Str->Option Value) (p:Addr) (h:Heap),(K w.params).In h->h.Ns mainGlobals mg->mg d.name=some (.ref p) ->
   ∃C:FuncData,(∀(s:g0) (u:Value),BindsTo s C ⟨[u],[]⟩ [(x,u)]) /\
    ∀base:Heap,(K w.params).In base->base.Ns mainGlobals mg->bH l.prog w (K w.params) mg base (CX w) k p C [x] (sp w))
 (B:∀(w:World) (H:Hp) (a:Addr) (ns:f6),ns.length<=n->Bj H->aG (K w.params) H a (ns.map V.int)->sp w [.ref a] H (λv _=>v=.bl true) λ_ _ _=>False)
 (hCX:∀(w:World) (H:Hp) (s:g0) (e:Value) (D:g0),CX w [] H s (λ_ _ _=>False) e D->False) :
 W.WalkO q j R J l.row.toRowW d [] (λf vs=>PySem.call f vs):=by
 refine Att.attach_call L y λw s₀ M mg U p o pm cd N a vs ns G Y ho hd O z m i c S=>?_;have I:=hY w _ Y;obtain⟨C,hb,hF⟩:=F w mg p _ I G.T.g z;exact Pj I G.T.g G.T.b G.T.builtins G.T.nolimit S m i (YK c r) hr hF hb (λH hO hS=>B w H a ns c hO hS) λH e D=>hCX w H M e D
end L2
namespace L2
open PySem PySem.Spec PyProof.Rows
def bw(s:Stmt)(j:Nat):Stmt:=match s with
 | .ClassDef _ _ _ body _ _ _ _ _ _ _=>body.getD j (.Pass ⟨0,0,0,0⟩)
 | _=>.Pass ⟨0,0,0,0⟩
def au(s:Stmt):Arguments:=match s with
 | .FunctionDef _ a _ _ _ _ _ _ _ _=>a
 | _=>{ posonlyargs:=[],args:=[],vararg:=none,kwonlyargs:=[],kw_defaults:=[],kwarg:=none,defaults:=[] }
def aq(s:Stmt):List Stmt:=match s with
 | .FunctionDef _ _ b _ _ _ _ _ _ _=>b
 | _=>[]
def ae(s:Stmt):Scope:=match s with
 | .FunctionDef _ _ _ _ _ _ sc _ _ _=>sc
 | _=>{ kind:=.function,names:=[],isGenerator:=false,isCoroutine:=false }
abbrev bO:gj:=λ_ _ _ _ _ _=>False
abbrev E0:XK:=λ_ _ _=>False
def Dt{X:Cx}:iA bO X E0:=λ_ _ _ _ _ _ _ h=>h.elim
structure aH (K:W.Frag) (x qual:Str) (st:Stmt) (f:Addr) (fd:FuncData):Prop where
 ex:∃(oc:Value) (od:Option Addr) (kV doc pm:Value) (an:Option Addr) (cdv ct:Value) (osl:Array (Option Value)),
  fd=W.fnOf x qual (au st) (aq st) (ae st) .none kV doc pm an cdv ct/\K.lookup f=some ⟨oc,od,.func fd,osl⟩/\W.codeIn K cdv qual=true
 kp:W.keepIn K (.ref f)=true
section
variable {P:Program}{w:World}{K:W.Frag}{mg:Str->Option Value}{base:Heap}
def aH.ok{x qual:Str}{st:Stmt}{f:Addr}{e:FuncData}{N ps:List Str}{k:Nat}{sp:Sp}(F:aH K x qual st f e)(S:ax N ps (ae st))(len:∀vs H Q E,sp vs H Q E->vs.length=ps.length)
 (b:∀(a:Value) (A:Around) (outer:List Env) (s:g0) (H:Hp) (vs:List V) (Q:VK) (E:XK),bS k (A.deeper (envOfC qual (ae st) s.heap.objs.size f a))->sp vs H Q E ->
   ∃t,fo (i0 bO P w K mg base N qual (ae st) f a A outer s H E).nox (aq st) t/\t { nx:=λ_ i=>Q .non i,rt:=Q } (gL N vs) H):bH P w K mg base bO (k+1) f e ps sp:=by
 obtain⟨n,m,kV,g,l,o,a,ct,j,rfl,lk,c⟩:=F.ex;refine Fn lk c S len λA outer s H vs Q E hr d=>?_;obtain⟨t,h,q⟩:=b a A outer s H vs Q E hr d;exact⟨t,h.nox,q⟩
def aH.binds{x qual:Str}{st:Stmt}{f:Addr}{e:FuncData}{ps:List Str}(F:aH K x qual st f e)
 (h:∀(kV b c:Value) (d:Option Addr) (a ct:Value) (us:List Value),us.length=ps.length->bindArgs (W.fnOf x qual (au st) (aq st) (ae st) .none kV b c d a ct) ⟨us,[]⟩=pure (ps.zip us)):ak K e ps []:=by
 obtain⟨k,j,kV,b,c,d,a,ct,i,rfl,lk,g⟩:=F.ex;exact .all (h kV b c d a ct)
def aK{x qual:Str}{st:Stmt}{f:Addr}{i:Value}{h e:Option Addr}{d:Array (Option Value)}{kV b g a ct:Value}(l:K.lookup f=some ⟨i,h,.func (W.fnOf x qual (au st) (aq st) (ae st) .none kV b g e a ct),d⟩)
 (c:W.codeIn K a qual=true) (k:W.keepIn K (.ref f)=true):aH K x qual st f (W.fnOf x qual (au st) (aq st) (ae st) .none kV b g e a ct):=⟨⟨i,h,kV,b,g,e,a,ct,d,rfl,l,c⟩,k⟩
end
def Py{A B:Prop}(h:B):if false=true then A else B:=by
 rw[on YC];exact h
def nY{A B:Prop}(h:A):if true=true then A else B:=by
 rw[aaa rfl];exact h
def ao{c A B:Prop}[Decidable c](b:c->A)(a:¬c->B):if c then A else B:=by
 by_cases h:c
 ·rw[aaa h];exact b h
 ·rw[on h];exact a h
def ah(H a:Hp):Prop:=∀b o,H b=some o->a b=some o
def ah.refl(H:Hp):ah H H:=λ_ _ h=>h
def ah.trans{H e d:Hp}(a:ah H e)(b:ah e d):ah H d:=λc o h=>b c o (a c o h)
def ah.free{H a:Hp}(e:ah H a){l:Addr}(h:a l=Option.none):H l=Option.none:=by
 cases q:H l with
 | none=>rfl
 | some o =>
  rw[e l o q]at h;cases h
def ah.seq{K:W.Frag}{H b:Hp}{a:Addr}{xs:List V}(e:ah H b)(h:aG K H a xs):aG K b a xs:=by
 rcases h with (h|⟨o,h⟩)|h
 ·exact .inl (.inl (e _ _ h))
 ·exact .inl (.inr ⟨o,e _ _ h⟩)
 ·exact .inr h
section
variable {κ:Type}[DecidableEq κ]
theorem qq:∀ {l:List κ} {k:κ},l.Nodup->¬k∈l->(l++[k]).Nodup
 | [],k,_,_=>by simp
 | a::r,k,h,hk=>by
  obtain⟨c,b⟩:=ZR.mp h;show (a::(r++[k])).Nodup;refine ZR.mpr ⟨λm=>?_,qq b λm=>hk (Yz.mpr (Or.inr m))⟩;rcases Yx.mp m with q|q
  ·exact c q
  ·exact hk (Yz.mpr (Or.inl (YH.mp q).symm))
end
end L2
set_option maxHeartbeats 4000000
namespace HT
open PySem PyProof.Rows
end HT
namespace L2
open PySem PySem.Spec PyProof.Rows
def PE.imp{X:Cx}{e:Expr}{t t':TE}(h:PE X e t)(k:∀σ H Q,t' σ H Q->t σ H Q):PE X e t':=λa s σ H Q I q=>h a s σ H Q I (k σ H Q q)
def bb.imp{X:Cx}{f:Value->Value->Sem Value}{r b:R2}(h:bb X f r)(k:∀x y H Q,b x y H Q->r x y H Q):bb X f b:=λa s σ H x y v u Q I d c q=>h a s σ H x y v u Q I d c (k x y H Q q)
def cG.imp{X:Cx}{f:Value}{r b:List V->Hp->VK->Prop}(h:cG X f r)(k:∀xs H Q,b xs H Q->r xs H Q):cG X f b:=λa s σ H xs us Q I c q=>h a s σ H xs us Q I c (k xs H Q q)
def fL.imp{X:Cx}{r c:R2}(h:fL X r)(k:∀x y H Q,c x y H Q->r x y H Q):fL X c:=λvalue a b s σ H x y v u Q I e d q hs=>h value a b s σ H x y v u Q I e d (k x y H Q q) hs
def ah.new{H:Hp}{p:Addr}{o:HO}(h:H p=none):ah H (upd H p o):=λb u e=>by rw[ay (aI e h)];exact e
structure bc (H:Hp) (p:Addr) (o:HO) (H':Hp):Prop where
 nw:H p=none
 sm:ah H H'
 at_:H' p=some o
def bc.mk'{H:Hp}{p:Addr}{o:HO}(h:H p=none):bc H p o (upd H p o):=⟨h,ah.new h,aJ⟩
def bc.lst{K:W.Frag}{H a:Hp}{p:Addr}{xs:List V}(g:bc H p (.lst xs) a):aG K a p xs:=.of g.at_
def bc.tup{K:W.Frag}{H a:Hp}{p:Addr}{xs:List V}(g:bc H p (.tup xs) a):bq K a p xs:=.of g.at_
def ah.put{H a:Hp}{p:Addr}{o:HO}(s:ah H a)(h:H p=none):ah H (upd a p o):=λb u e=>by
 rw[ay (aI e h)];exact s b u e
def mV(i:Nat):TE:=λσ H Q=>match σ[i]? with
 | some (some v)=>Q v H
 | _=>False
def vv(i:Nat){X:Cx}{x:Str}{pos:Pos}(hN:X.N[i]? = some x:=by rfl)(b:tQ X.env.scope x:=by first|exact Or.inl rfl|exact Or.inr (Or.inl rfl)|exact Or.inr (Or.inr rfl))(hd:(x == ("__debug__" : Str))=false:=by decide)
 (a:(x == ("__classdict__" : Str))=false:=by decide):PE X (.Name x pos) (mV i):=(MK hN b hd a).imp λσ H Q q=>by
 unfold mV at q
 split at q
 ·exact⟨_,by assumption,q⟩
 ·exact q.elim
section
variable {X:Cx}{a b:Expr}{ta tb:TE}{pos:Pos}{bL:List Expr}
def D7(b tb:TE):TE:=λσ H Q=>b σ H λx a=>match x with
 | .bl c=>if c=true then tb σ a Q else Q (.bl false) a
 | _=>False
def D1(b tb:TE):TE:=λσ H Q=>b σ H λx a=>match x with
 | .bl c=>if c=true then Q (.bl true) a else tb σ a Q
 | _=>False
def D2(a:TE):TE:=λσ H Q=>a σ H λx b=>match x with
 | .bl c=>Q (.bl (!c)) b
 | _=>False
def O0(j:PE X a ta)(hb:PE X (.BoolOp .And (b::bL) pos) tb):PE X (.BoolOp .And (a::b::bL) pos) (D7 ta tb):=by
 intro d s σ H Q I h;refine BoolOp_and (aB (j d s σ H _ I h) λv s1 ⟨x,f,g,i,e⟩=>?_);cases x with
 | bl c =>
  cases i;refine wpAny_truthy_bool ?_;cases c with
  | true=>exact hb d s1 σ f Q g e
  | false=>exact⟨.bl false,f,g,rfl,e⟩
 | _=>exact False.elim e
def OT(j:PE X a ta)(hb:PE X (.BoolOp .Or (b::bL) pos) tb):PE X (.BoolOp .Or (a::b::bL) pos) (D1 ta tb):=by
 intro d s σ H Q I h;refine BoolOp_or (aB (j d s σ H _ I h) λv s1 ⟨x,f,g,i,e⟩=>?_);cases x with
 | bl c =>
  cases i;refine wpAny_truthy_bool ?_;cases c with
  | false=>exact hb d s1 σ f Q g e
  | true=>exact⟨.bl true,f,g,rfl,e⟩
 | _=>exact False.elim e
def OU(g:PE X a ta):PE X (.UnaryOp .Not a pos) (D2 ta):=by
 intro b s σ H Q I h;refine UnaryOp_ (aB (g b s σ H _ I h) λv s1 ⟨x,e,i,f,d⟩=>?_);cases x with
 | bl c =>
  cases f;exact not_of (wpAny_truthy_bool ⟨.bl (!c),e,i,rfl,d⟩)
 | _=>exact False.elim d
def mB(t:TE):TT:=λσ H Q=>t σ H λx a=>match x with
 | .bl c=>Q c a
 | _=>False
def NO{e:Expr}{t:TE}(h:PE X e t)(he:∀whole,isTrue e X.env whole=(do let v <- whole;standAt e.pos;holding [v] (truthy v)):=by intro _;rfl):PT X e (mB t):=by
 intro a s σ H Q I hw;refine isTrue_plain (aB (h a s σ H _ I hw) λv s1 ⟨x,d,g,f,b⟩=>?_) (he _);cases x with
 | bl c =>
  cases f;exact wpAny_truthy_bool ⟨d,g,b⟩
 | _=>exact False.elim b
def NS{e:CmpOp}{r:R2}(F:bb X (compareOp e) r)(q:PE X a ta)(hb:PE X b tb)(hm:behindInMarks e b=false):PT X (.Compare a [e] [b] pos) (mB (iF r ta tb)):=by
 intro d s σ H Q I h;refine wpAny_isTrue_Compare1 (aB (q d s σ H _ I h) λv s1 ⟨x,j,D,n,l⟩=>aB (hb d s1 σ j _ D l) λu g ⟨y,C,p,G,B⟩ =>
  aB (F d g σ C x y v u _ p n G B) λc J ⟨z,o,i,m,f⟩=>?_) hm
 cases z with
 | bl k =>
  cases m;exact wpAny_truthy_bool ⟨o,i,f⟩
 | _=>exact False.elim f
def qB(r b:R2)(g tb h:TE):TE:=λσ H Q=>g σ H λx d=>tb σ d λy e=>r x y e λz a=>match z with
 | .bl k=>if k=true then h σ a λc f=>b y c f Q else Q (.bl false) a
 | _=>False
def OZ{c:Expr}{o:TE}{j f:CmpOp}{r m:R2}(ho:bb X (compareOp j) r)(i:bb X (compareOp f) m)(O:PE X a ta)(hb:PE X b tb)(S:PE X c o)
 (hm:lastMarks [j,f] [b,c]=false:=by with_unfolding_all rfl):PE X (.Compare a [j,f] [b,c] pos) (qB r m ta tb o):=by
 intro e s σ H Q I h;refine Compare_chain (aB (O e s σ H _ I h) λv s1 ⟨x,W,F,M,J⟩=>chain_link (aB (hb e s1 σ W _ F J) λu q ⟨y,D,N,p,q2⟩ =>
  aB (ho e q σ D x y v u _ N M p q2) λd B ⟨z,n,l,L,g⟩=>?_)) hm
 cases z with
 | bl k =>
  cases L;refine wpAny_truthy_bool ?_;cases k with
  | false=>exact ite_ff ⟨.bl false,n,l,rfl,g⟩
  | true=>exact ite_tt (chain_last (aB (S e B σ n _ l g) λV R ⟨z',U,G,C,Y⟩=>i e R σ U y z' u V Q G p C Y))
 | _=>exact False.elim g
def NT{c:Expr}{p:TE}{j f:CmpOp}{r n:R2}(ho:bb X (compareOp j) r)(i:bb X (compareOp f) n)(V:PE X a ta)(hb:PE X b tb)(Y:PE X c p)
 (hm:lastMarks [j,f] [b,c]=false:=by with_unfolding_all rfl):PT X (.Compare a [j,f] [b,c] pos) (mB (qB r n ta tb p)):=by
 intro e s σ H Q I h;refine isTrue_chain (aB (V e s σ H _ I h) λv s1 ⟨x,H1,M,S,O⟩=>test_link (aB (hb e s1 σ H1 _ M O) λu B ⟨y,G,U,q,q2⟩ =>
  aB (ho e B σ G x y v u _ U S q q2) λd D ⟨z,o,l,R,g⟩=>?_)) hm
 cases z with
 | bl k =>
  cases R;refine wpAny_truthy_bool ?_;cases k with
  | false=>exact ite_ff ⟨o,l,g⟩
  | true =>
   refine ite_tt (test_last (aB (Y e D σ o _ l g) λw' W ⟨z',H4,N,F,q4⟩=>aB (i e W σ H4 y z' u w' _ N q F q4) λd' s5 ⟨z2,C,J,L,m⟩=>?_));cases z2 with
   | bl k2 =>
    cases L;exact wpAny_truthy_bool ⟨C,J,m⟩
   | _=>exact False.elim m
 | _=>exact False.elim g
def vj(K:W.Frag)(t:TE):TT:=λσ H Q=>t σ H λx a=>match x with
 | .non=>Q false a
 | .bl c=>Q c a
 | .int i=>Q (i != 0) a
 | .ref p=>∃xs,(aG K a p xs\/bq K a p xs)/\Q (!xs.isEmpty) a
 | _=>False
def NP{e:Expr}{t:TE}(h:PE X e t)(he:∀whole,isTrue e X.env whole=(do let v <- whole;standAt e.pos;holding [v] (truthy v)):=by intro _;rfl):PT X e (vj X.K t):=by
 intro a s σ H Q I hw;refine isTrue_plain (aB (h a s σ H _ I hw) λv s1 ⟨x,d,g,f,b⟩=>?_) (he _);cases x with
 | non=>exact m7 a s1 σ d _ v Q g f ⟨false,rfl,b⟩
 | bl c=>exact m7 a s1 σ d _ v Q g f ⟨c,rfl,b⟩
 | int i=>exact m7 a s1 σ d _ v Q g f ⟨i != 0,rfl,b⟩
 | ref p =>
  obtain⟨xs,hx,b⟩:=b;rcases hx with hx|hx
  ·exact m7 a s1 σ d _ v Q g f ⟨_,.inl ⟨xs,hx,rfl⟩,b⟩
  ·exact m7 a s1 σ d _ v Q g f ⟨_,.inr (.inl ⟨xs,hx,rfl⟩),b⟩
 | _=>exact False.elim b
end
section
variable {X:Cx}{a b:Expr}{ta tb:TE}{pos:Pos}
def gI(C:Int->Int->Prop)(g:Int->Int->V):R2:=λx y H Q=>match x,y with
 | .int i,.int j=>C i j/\Q (g i j) H
 | _,_=>False
def oi(g:Int->Int->V):R2:=λx y H Q=>match x,y with
 | .int i,.int j=>Q (g i j) H
 | _,_=>False
def qS{f:Value->Value->Sem Value}{g:Int->Int->V}(h:bb X f (iK g)):bb X f (oi g):=h.imp λx y H Q q=>by
 cases x<;>cases y<;>first|exact False.elim q|exact⟨_,_,rfl,rfl,q⟩
def qR{f:Value->Value->Sem Value}{C:Int->Int->Prop}{g:Int->Int->V}(h:bb X f (rI C g)):bb X f (gI C g):=h.imp λx y H Q q=>by
 cases x<;>cases y<;>first|exact False.elim q|exact⟨_,_,rfl,rfl,q.1,q.2⟩
def cA:bb X (binaryOp .Sub) (oi λi j=>.int (i-j)):=qS Nf
def qO:bb X (binaryOp .FloorDiv) (gI Hs λi j=>.int (i/j)):=qR DA
def gy:bb X (binaryOp .Mod) (gI (λ_ j=>0<j) λi j=>.int (i%j)):=qR Dz
def RT:bb X (binaryOp .RShift) (gI (λ_ j=>0<=j) λi j=>.int (i/2 ^ j.toNat)):=qR Ng
def dH:bb X (compareOp .Lt) (oi λi j=>.bl (decide (i<j))):=qS Nl
def fH:bb X (compareOp .LtE) (oi λi j=>.bl (decide (i<=j))):=qS Nm
def iU:bb X (compareOp .Gt) (oi λi j=>.bl (decide (j<i))):=qS Np
def D5(j:Int)(a:TE):TE:=λσ H Q=>a σ H λx b=>match x with
 | .int i=>Q (.int (i/j)) b
 | _=>False
def D3(j:Int)(a:TE):TE:=λσ H Q=>a σ H λx b=>match x with
 | .int i=>Q (.int (i%j)) b
 | _=>False
def OX{j:Int}{k:Nat}{p:Pos}(m:PE X a ta)(r:0<j/\j<1073741824:=by decide):PE X (.BinOp a .FloorDiv (.Constant (.int j) k p) pos) (D5 j ta):=by
 intro b s σ H Q I h;refine wpAny_BinOp (aB (m b s σ H _ I h) λv s1 ⟨x,d,n,g,e⟩=>?_);refine aB (qk b s1 σ d (λy c=>y=.int j/\c=d) n ⟨rfl,rfl⟩) λu f ⟨y,c,l,z,q,o⟩=>?_;subst q o;cases x with
 | int i=>exact DA b f σ c (.int i) (.int j) v u Q l g z ⟨i,j,rfl,rfl,r,e⟩
 | _=>exact False.elim e
def OV{j:Int}{k:Nat}{p:Pos}(m:PE X a ta)(r:0<j:=by decide):PE X (.BinOp a .Mod (.Constant (.int j) k p) pos) (D3 j ta):=by
 intro b s σ H Q I h;refine wpAny_BinOp (aB (m b s σ H _ I h) λv s1 ⟨x,d,n,g,e⟩=>?_);refine aB (qk b s1 σ d (λy c=>y=.int j/\c=d) n ⟨rfl,rfl⟩) λu f ⟨y,c,l,z,q,o⟩=>?_;subst q o;cases x with
 | int i=>exact Dz b f σ c (.int i) (.int j) v u Q l g z ⟨i,j,rfl,rfl,r,e⟩
 | _=>exact False.elim e
def BB:pz X (unaryOp .USub) (λx H Q=>match x with|.int i=>Q (.int (-i)) H|_=>False):=by
 intro a s σ H x v Q I b q;cases x with
 | int i=>exact HQ a s σ H _ v Q I b ⟨i,rfl,q⟩
 | _=>exact False.elim q
end
section
variable {X:Cx}
def Tm{c:List (Addr × Obj)}{s:g0}{σ:St}{H:Hp}{l b:Addr}{xs k:List V}{Q:VK}(I:ai X c σ H s)(hl:aG X.K H l xs)(hb:aG X.K H b k)(hz:xs.length+k.length<=sizeLine)
 (q:∀p H',bc H p (.lst (xs++k)) H'->Q (.ref p) H'):wpAny (model X.prog X.w) X.A (binaryOp .Add (.ref l) (.ref b)) (EP X c σ Q) X.xe s:=by
 obtain⟨d,r,pl,_⟩:=I.list hl;obtain⟨a,x,m,_⟩:=I.list hb;have G:=r.length;have D:=x.length;obtain⟨⟨cls,C,data,y⟩,v,u,n,hd⟩:=pl.isList;obtain⟨⟨o,h,j,i⟩,g,f,B,e⟩:=m.isList;simp only at u hd f e;subst u hd f e;have z:d.toArray++a.toArray=(d++a).toArray:=by simp
 refine concat_meets ⟨_,v,rfl⟩ ⟨_,g,rfl⟩ noFill_list_add seq_list_add PySem.F.slot_list_add PySem.F.entry_list_add (PySem.F.args_list_add_2 _ _) (list_addW l b d.toArray a.toArray n B C h y i (by rw[Yv,Yv];omega)) ⟨v,g,?_⟩;rw[z];exact⟨.ref _,_,I.lnew (t':=s.toks) (r.append x) (by rw[Yo];omega),rfl,q _ _ (.mk' I.fresh)⟩
def Fi(K:W.Frag):R2:=λx y H Q=>match x,y with
 | .int i,.int j=>Q (.int (i+j)) H
 | .ref l,.ref b=>∃xs zs,aG K H l xs/\aG K H b zs/\xs.length+zs.length<=sizeLine/\∀p H',bc H p (.lst (xs++zs)) H'->Q (.ref p) H'
 | _,_=>False
def Sz:bb X (binaryOp .Add) (Fi X.K):=by
 intro a s σ H x y v u Q I c d q;cases x with
 | int i =>
  cases y with
  | int j=>exact Nq a s σ H _ _ v u Q I c d ⟨i,j,rfl,rfl,q⟩
  | _=>exact False.elim q
 | ref l =>
  cases y with
  | ref b =>
   obtain⟨xs,h,f,e,g,q⟩:=q;cases c;cases d;exact Tm I f e g q
  | _=>exact False.elim q
 | _=>exact False.elim q
def SB:R2:=λx y H Q=>match x,y with
 | .int i,.int j=>tX i j/\Q (.int (i*j)) H
 | .ref l,.int k=>∃xs,H l=some (.lst xs)/\-(2 ^ 63)<=k/\k<2 ^ 63/\xs.length*k.toNat<=sizeLine/\∀p H',bc H p (.lst (List.replicate k.toNat xs).flatten) H'->Q (.ref p) H'
 | _,_=>False
def qM:bb X (binaryOp .Mult) SB:=by
 intro a s σ H x y v u Q I b c q;cases x with
 | int i =>
  cases y with
  | int j=>exact Nk a s σ H _ _ v u Q I b c ⟨i,j,rfl,rfl,q.1,q.2⟩
  | _=>exact False.elim q
 | ref l =>
  cases y with
  | int k =>
   obtain⟨xs,g,e,h,f,q⟩:=q;exact Nh a s σ H _ _ v u Q I b c ⟨l,k,xs,rfl,rfl,g,e,h,f,λp d=>q p _ (.mk' d)⟩
  | _=>exact False.elim q
 | _=>exact False.elim q
def vt(x:V)(c:Bool):Bool:=match x with
 | .bl d=>d == c
 | _=>false
def C0{x:V}{v:Value}{c:Bool}(r:aT x v)(a:∀f,x ≠ .ty f):plainIs v (.bool c)=true/\(v == Value.bool c)=vt x c:=by
 cases x with
 | non=>cases r;exact⟨rfl,rfl⟩
 | bl d=>cases r;exact⟨rfl,by cases d<;>cases c<;>rfl⟩
 | int _=>obtain⟨t,rfl⟩:=r;exact⟨rfl,rfl⟩
 | str _=>obtain⟨t,rfl⟩:=r;exact⟨rfl,rfl⟩
 | byt _=>obtain⟨t,rfl⟩:=r;exact⟨rfl,rfl⟩
 | flt _=>obtain⟨t,rfl⟩:=r;exact⟨rfl,rfl⟩
 | ref _=>cases r;exact⟨rfl,rfl⟩
 | ty f=>exact aab rfl (a f)
def vN(neg:Bool):R2:=λx y H Q=>match y with
 | .non=>Q (.bl (if neg then !decide (x=.non) else decide (x=.non))) H
 | .bl c=>(∀f,x ≠ .ty f)/\Q (.bl (if neg then !vt x c else vt x c)) H
 | _=>False
def hE:bb X (compareOp .Is) (vN false):=by
 intro a s σ H x y v u Q I b d q;cases y with
 | non=>exact Nn a s σ H x _ v u Q I b d ⟨rfl,q⟩
 | bl c =>
  cases d;obtain⟨f,e⟩:=C0 (c:=c) b q.1;exact wpAny_is_plain f ⟨.bl _,H,I,by rw[e];rfl,q.2⟩
 | _=>exact False.elim q
def vF:bb X (compareOp .IsNot) (vN true):=by
 intro a s σ H x y v u Q I b d q;cases y with
 | non=>exact Ni a s σ H x _ v u Q I b d ⟨rfl,q⟩
 | bl c =>
  cases d;obtain⟨f,e⟩:=C0 (c:=c) b q.1;exact wpAny_isNot_plain f ⟨.bl _,H,I,by rw[e];rfl,q.2⟩
 | _=>exact False.elim q
end
def aO(K:W.Frag)(H:Hp)(d:PyData)(x:V):Prop:=∀(X:Cx) (a:List (Addr × Obj)) (σ:St) (s:g0) (u:Value),X.K=K->ai X a σ H s->aT x u->∃as,Reads s.heap u d as
def cu(K:W.Frag)(H:Hp)(ds:List PyData)(xs:List V):Prop:=∀(X:Cx) (a:List (Addr × Obj)) (σ:St) (s:g0) (us:List Value),X.K=K->ai X a σ H s->aM xs us->∃as,ReadsAll s.heap us ds as
section
variable {K:W.Frag}{H:Hp}
def aO.non:aO K H .none .non:=λ_ _ _ _ _ _ _ r=>by cases r;exact⟨_,.none⟩
def aO.int(i:Int):aO K H (.int i) (.int i):=λ_ _ _ _ _ _ _ r=>by obtain⟨t,rfl⟩:=r;exact⟨_,.int i t⟩
def aO.str(x:Str):aO K H (.str x) (.str x):=λ_ _ _ _ _ _ _ r=>by obtain⟨t,rfl⟩:=r;exact⟨_,.str x t⟩
def cu.nil:cu K H [] []:=λ_ _ _ _ _ _ _ r=>by cases r;exact⟨_,.nil⟩
def cu.cons{d:PyData}{ds:List PyData}{x:V}{xs:List V}(a:aO K H d x)(b:cu K H ds xs):cu K H (d::ds) (x::xs):=λX c σ s us e I r=>by
 cases r with
 | cons r1 r2 =>
  obtain⟨as,f⟩:=a X c σ s _ e I r1;obtain⟨bs,hb⟩:=b X c σ s _ e I r2;exact⟨_,.cons f hb⟩
def aO.lst{ds:List PyData}{p:Addr}{xs:List V}(h:aG K H p xs)(b:cu K H ds xs):aO K H (.list ds) (.ref p):=λX a σ s u e I r=>by
 cases r;subst e;obtain⟨c,d,⟨o,n,i,g,_,hd⟩,_⟩:=I.list h;obtain⟨as,f⟩:=b X a σ s c rfl I d;exact⟨_,.list i g hd (by simpa using f)⟩
theorem cu.ints:∀ns:f6,cu K H (ns.map PyData.int) (ns.map V.int)
 | []=>.nil
 | n::ns=>.cons (.int n) (cu.ints ns)
end
open SeqAt (shaped)
def oj(K:W.Frag)(neg:Bool):R2:=λx y H Q=>match x,y with
 | .int i,.int j=>Q (.bl (if neg then !decide (i=j) else decide (i=j))) H
 | .bl a,.bl b=>Q (.bl (if neg then !(a == b) else a == b)) H
 | _,_=>∃d e,aO K H d x/\aO K H e y/\shaped d=true/\shaped e=true/\Q (.bl (if neg then !d.eqv e else d.eqv e)) H
section
variable {X:Cx}
def Fu{a:List (Addr × Obj)}{s:g0}{σ:St}{H:Hp}{x y:V}{v u:Value}{Q:VK}{neg:Bool}(g:X.A.units+64<cLine)(I:ai X a σ H s)(h:aT x v)(i:aT y u)
 (q:∃d e,aO X.K H d x/\aO X.K H e y/\shaped d=true/\shaped e=true/\Q (.bl (if neg then !d.eqv e else d.eqv e)) H) :
 wpAny (model X.prog X.w) X.A (compareOp (if neg then .NotEq else .Eq) v u) (EP X a σ Q) X.xe s:=by
 obtain⟨d,e,hd,he,c,b,q⟩:=q;obtain⟨as,f⟩:=hd X a σ s v rfl I h;obtain⟨bs,rb⟩:=he X a σ s u rfl I i;cases neg with
 | true=>exact ne_dataH f rb c b g ⟨.bl _,H,I,rfl,q⟩
 | false=>exact eq_dataH f rb c b g ⟨.bl _,H,I,rfl,q⟩
def FB{i j:Int}:decide (V.int i=V.int j)=decide (i=j):=by simp
def So(e:X.A.units+64<cLine):bb X (compareOp .Eq) (oj X.K false):=by
 intro a s σ H x y v u Q I b c q;have D:=λd=>Fu (neg:=false) (Q:=Q) e I b c d;cases x with
 | int i =>
  cases y with
  | int j=>exact DB a s σ H _ _ v u Q I b c ⟨rfl,by rw[FB];exact q⟩
  | _=>exact D q
 | bl i =>
  cases y with
  | bl j=>exact DB a s σ H _ _ v u Q I b c ⟨rfl,by rw[ro];exact q⟩
  | _=>exact D q
 | _=>exact D q
def RZ(e:X.A.units+64<cLine):bb X (compareOp .NotEq) (oj X.K true):=by
 intro a s σ H x y v u Q I b c q;have D:=λd=>Fu (neg:=true) (Q:=Q) e I b c d;cases x with
 | int i =>
  cases y with
  | int j=>exact Dy a s σ H _ _ v u Q I b c ⟨rfl,by rw[FB];exact q⟩
  | _=>exact D q
 | bl i =>
  cases y with
  | bl j=>exact Dy a s σ H _ _ v u Q I b c ⟨rfl,by rw[ro];exact q⟩
  | _=>exact D q
 | _=>exact D q
def qQ(K:W.Frag)(neg:Bool):R2:=λx y H Q=>match y with
 | .ref p=>∃xs,(aG K H p xs\/bq K H p xs)/\fI x=true/\xs.all fI=true/\Q (.bl (if neg then !dZ x xs else dZ x xs)) H
 | _=>False
def Sk:bb X (compareOp .In) (qQ X.K false):=No.imp λx y H Q q=>by
 cases y with
 | ref p=>obtain⟨xs,c,a,b,q⟩:=q;exact⟨p,xs,rfl,c,a,b,q⟩
 | _=>exact False.elim q
def RY:bb X (compareOp .NotIn) (qQ X.K true):=Nj.imp λx y H Q q=>by
 cases y with
 | ref p=>obtain⟨xs,c,a,b,q⟩:=q;exact⟨p,xs,rfl,c,a,b,q⟩
 | _=>exact False.elim q
def Fc(K:W.Frag):R2:=λx y H Q=>match x,y with
 | .ref p,.int i=>∃xs v,(aG K H p xs\/bq K H p xs)/\cv xs i=some v/\Q v H
 | _,_=>False
def R9:fL X (Fc X.K):=(Pw.or Pu).imp λx y H Q q=>by
 cases x with
 | ref p =>
  cases y with
  | int i =>
   obtain⟨xs,v,a,b,q⟩:=q;rcases a with a|a
   ·exact .inl ⟨p,xs,i,v,rfl,rfl,a,b,q⟩
   ·exact .inr ⟨p,xs,i,v,rfl,rfl,a,b,q⟩
  | _=>exact False.elim q
 | _=>exact False.elim q
def Fa(K:W.Frag):V->Option Int->Option Int->Hp->VK->Prop:=λx lo b H Q=>match x with
 | .ref a=>∃xs,aG K H a xs/\∀p H',bc H p (.lst (cn xs lo b)) H'->Q (.ref p) H'
 | _=>False
def RQ:i6 X (Fa X.K):=by
 intro b s σ H x v i h lo f e Q I d hs pl j q;cases x with
 | ref a=>obtain⟨xs,g,q⟩:=q;exact Kh b s σ H _ v i h lo f e Q I d hs pl j ⟨a,xs,rfl,g,λp c=>q p _ (.mk' c)⟩
 | _=>exact False.elim q
def vM(K:W.Frag):List V->Hp->VK->Prop:=λxs H Q=>match xs with
 | [.ref p]=>∃ys,(aG K H p ys\/bq K H p ys)/\Q (.int ys.length) H
 | _=>False
def TF:cG X (.builtin "len") (vM X.K):=Tp.imp λxs H Q q=>by
 unfold vM at q
 split at q
 ·obtain⟨ys,a,q⟩:=q;exact⟨_,ys,rfl,a,q⟩
 ·exact q.elim
def vL(K:W.Frag):List V->Hp->VK->Prop:=λxs H Q=>match xs with
 | [.ref p]=>∃ys,(aG K H p ys\/bq K H p ys)/\∀l H',bc H l (.lst ys) H'->Q (.ref l) H'
 | _=>False
def TD:cG X (.type "list") (vL X.K):=To.imp λxs H Q q=>by
 unfold vL at q
 split at q
 ·obtain⟨ys,a,q⟩:=q;exact⟨_,ys,rfl,a,λl hl=>q l _ (.mk' hl)⟩
 ·exact q.elim
def Fd:List V->Hp->VK->Prop:=λxs H Q=>match xs with
 | [.int i]=>Q (.int i) H
 | [.bl k]=>Q (.int (if k then 1 else 0)) H
 | _=>False
def TH:cG X (.type "int") Fd:=Tq.imp λxs H Q q=>by
 unfold Fd at q
 split at q
 ·exact .inl ⟨_,rfl,q⟩
 ·exact .inr ⟨_,rfl,q⟩
 ·exact q.elim
def vO(K:W.Frag):List V->Hp->VK->Prop:=λxs H Q=>match xs with
 | [x,.ty T]=>∃t b,cw K H x t/\W.kitOne K t (.type T)=some b/\Q (.bl b) H
 | [x,.ref C]=>∃t b,cw K H x t/\W.kitOne K t (.ref C)=some b/\Q (.bl b) H
 | _=>False
def TJ:cG X (.builtin "isinstance") (vO X.K):=by
 intro f s σ H xs us Q I r q;unfold vO at q
 split at q
 ·obtain⟨t,b,d,a,q⟩:=q;obtain⟨u,g,rfl,c,e⟩:=t5 r;cases e;exact Ej I c d a λh=>⟨.bl b,H,I.tok _,rfl,q⟩
 ·obtain⟨t,b,d,a,q⟩:=q;obtain⟨u,g,rfl,c,e⟩:=t5 r;cases e;exact Ej I c d a λh=>⟨.bl b,H,I.tok _,rfl,q⟩
 ·exact q.elim
def T6 {x:Str} {T:String} {pos:Pos} (b:Gl X x) (hm:X.mg x=none) (c:bootBuiltins x=some (.type T)) (a:x ≠ "__name__":=by decide) (hd:(x == ("__debug__" : Str))=false:=by decide):PE X (.Name x pos) (tC (.ty T)) :=
 M8 b hm c rfl a hd
end
def dY:Expr->Bool
 | .Starred _ _=>true
 | _=>false
def cS{e:Expr}{a:List Expr}{env:Env}(h:dY e=false):starEach (e::a) env=(false,eval e env)::starEach a env:=by
 cases e<;>first|rfl|cases h
def di:List Expr->Bool
 | []=>true
 | e::r=>!dY e && di r
theorem gU{env:Env}{pos:Pos}:∀ {a:List Expr},di a=true->(backTo pos (starEach a env)).any (·.1)=false
 | [],_=>rfl
 | e::r,h=>by
  have h':(!dY e && di r)=true:=h;rw[YT]at h';have b:dY e=false:=by simpa using h'.1
  rw[cS b];show (false || (backTo pos (starEach r env)).any (·.1))=false;rw[Bool.false_or];exact gU h'.2
def du{e:Expr}{a:List Expr}(h:di (e::a)=true):dY e=false/\di a=true:=by
 have h':(!dY e && di a)=true:=h;rw[YT]at h';exact⟨by simpa using h'.1,h'.2⟩
def Dw{X:Cx}{e:Expr}{a:List Expr}{b:TE}{t:TA}(c:PE X e b)(hr:PA X a t)(hs:dY e=false:=by rfl):PA X (e::a) (uj b t):=Na c hr (cS hs)
def rX:Expr->Option V
 | .Constant (.int i) _ _=>some (.int i)
 | .Constant (.bool b) _ _=>some (.bl b)
 | .Constant .none _ _=>some .non
 | .Constant (.str x) _ _=>some (.str x)
 | _=>none
def rW:List Expr->Option (List V)
 | []=>some []
 | e::r=>match rX e,rW r with
  | some v,some vs=>some (v::vs)
  | _,_=>none
def B5(vs:List V):TA:=λ_ H Q=>Q vs H
def MZ{X:Cx}{e:Expr}{v:V}(h:rX e=some v):PE X e (tC v):=by
 unfold rX at h
 split at h
 ·cases h;exact qk
 ·cases h;exact Ds
 ·cases h;exact Do
 ·cases h;exact Dn
 ·cases h
def Te{e:Expr}{v:V}(h:rX e=some v):dY e=false:=by
 cases e<;>first|rfl|cases h
theorem Dv{X:Cx}:∀ {a:List Expr} {vs:List V},rW a=some vs->PA X a (B5 vs)
 | [],vs,h=>by
  cases h;exact Du
 | e::r,vs,h=>by
  unfold rW at h
  split at h
  ·rename_i v ws h1 h2;cases h;exact Dw (MZ h1) (Dv h2) (Te h1)
  ·cases h
section
variable {X:Cx}{es:List Expr}{t:TA}{pos:Pos}
def DZ(t:TA):TE:=λσ H Q=>t σ H λxs a=>xs.length<=sizeLine/\∀p H',bc a p (.tup xs) H'->Q (.ref p) H'
def D4(t:TA):TE:=λσ H Q=>t σ H λxs a=>xs.length<=sizeLine/\∀p H',bc a p (.lst xs) H'->Q (.ref p) H'
def OR{x1}(h:PA X es t):PE X (.Tuple es x1 pos) (DZ t):=by
 intro a s σ H Q I g;refine wpAny_Tuple_spliced (aB (h pos a s σ H _ I g) λus s1 ⟨xs,c,d,r,z,q⟩=>⟨by rw[<- r.length];exact z,?_⟩);have f:c s1.heap.objs.size=none:=d.hok.fresh (Ym _);refine⟨.ref s1.heap.objs.size,upd c s1.heap.objs.size (.tup xs),d.laid (t':=s1.toks) (λb u e=>YA _ e) (Ym _) ?_,rfl,q _ _ (.mk' f)⟩;exact⟨z,us,r,⟨_,YR _ rfl,rfl,_,rfl⟩⟩
def OW(h:PA X es t):PE X (.List es pos) (D4 t):=by
 intro a s σ H Q I g;refine wpAny_List_spliced (aB (h pos a s σ H _ I g) λus s1 ⟨xs,c,d,r,z,q⟩=>⟨by rw[<- r.length];exact z,?_⟩);have f:c s1.heap.objs.size=none:=d.hok.fresh (Ym _);refine⟨.ref s1.heap.objs.size,upd c s1.heap.objs.size (.lst xs),d.laid (t':=s1.toks) (λb u e=>YA _ e) (Ym _) ?_,rfl,q _ _ (.mk' f)⟩;exact⟨z,us,0,r,YR _ rfl⟩
def D6:TE:=λ_ H Q=>∀p H',bc H p (.dK []) H'->Q (.ref p) H'
def OY:PE X (.Dict [] [] pos) D6:=MW.imp λσ H Q q=>λp a=>q p _ (.mk' a)
end
def cI{Q:VK}{H:Hp}{a b:Bool}(k:Q (.bl a) H)(e:a=b):Q (.bl b) H:=e ▸ k
def vp:V->Bool
 | .int _=>true
 | .bl _=>true
 | _=>false
def El:V->Bool
 | .bl _=>true
 | _=>false
inductive gf (K:W.Frag) (H:Hp):V->Prop where
 | non:gf K H .non
 | bl (b:Bool):gf K H (.bl b)
 | int (i:Int):gf K H (.int i)
 | str (x:Str):gf K H (.str x)
 | lst {a:Addr} {xs:List V} (e:H a=some (.lst xs)):gf K H (.ref a)
 | tup {a:Addr} {xs:List V} (e:H a=some (.tup xs)):gf K H (.ref a)
 | dK {a:Addr} {kvs:List (aU × V)} (e:H a=some (.dK kvs)):gf K H (.ref a)
def gf.isInt {K:W.Frag} {H:Hp} {v:V} (k:gf K H v):∃ty,cw K H v ty/\W.kitOne K ty (.type "int")=some (vp v):=by
 cases k with
 | non=>exact⟨_,.non,by with_unfolding_all rfl⟩
 | bl b=>exact⟨_,.bl b,by with_unfolding_all rfl⟩
 | int i=>exact⟨_,.int i,by with_unfolding_all rfl⟩
 | str x=>exact⟨_,.str x,by with_unfolding_all rfl⟩
 | lst e=>exact⟨_,.lst e,by with_unfolding_all rfl⟩
 | tup e=>exact⟨_,.tup e,by with_unfolding_all rfl⟩
 | dK e=>exact⟨_,.dK e,by with_unfolding_all rfl⟩
def gf.isBl {K:W.Frag} {H:Hp} {v:V} (k:gf K H v):∃ty,cw K H v ty/\W.kitOne K ty (.type "bool")=some (El v):=by
 cases k with
 | non=>exact⟨_,.non,by with_unfolding_all rfl⟩
 | bl b=>exact⟨_,.bl b,by with_unfolding_all rfl⟩
 | int i=>exact⟨_,.int i,by with_unfolding_all rfl⟩
 | str x=>exact⟨_,.str x,by with_unfolding_all rfl⟩
 | lst e=>exact⟨_,.lst e,by with_unfolding_all rfl⟩
 | tup e=>exact⟨_,.tup e,by with_unfolding_all rfl⟩
 | dK e=>exact⟨_,.dK e,by with_unfolding_all rfl⟩
def sz{n:Nat}(h:Nat.ble n 1000=true):n<=sizeLine:=YK (YI h) (by decide)
def bM{n:Nat}(h:n<=100000):n<=sizeLine:=YK h (by decide)
def fA{n:Nat}(h:n<=100000):n<sizeLine:=Nat.lt_of_le_of_lt h (by decide)
section
variable {X:Cx}
def LB(bs:List Bool):(List.range bs.length).map (λi=>(bs[i]?).getD false)=bs:=by
 apply List.ext_getElem
 ·simp
 ·intro i b a;simp[YM a]
def LC(bs:List Bool):((List.range bs.length).all λi=>(bs[i]?).getD false)=bs.all id:=by
 conv=>rhs;rw[<- LB bs]
 rw[List.all_map]
 rfl
def vQ(K:W.Frag)(one:Bool):List V->Hp->VK->Prop:=λxs H Q=>match xs with
 | [.ref p]=>∃bs:List Bool,aG K H p (bs.map V.bl)/\Q (.bl (if one then bs.any id else bs.all id)) H
 | _=>False
def T9{prog:Program}{w:World}{A:Around}{bs:List Bool}{a:List Value}(r:aM (bs.map V.bl) a):TruthOf prog w A (λi v=>a.toArray[i]? = some v) λi=>(bs[i]?).getD false:=λi v s Q E hP hQ=>by
 dsimp only at hP hQ;have d:i<a.length:=by
  have:=(a2e.mp hP).1;simpa using this
 have hl:=r.length;rw[Yl]at hl;have hb:i<bs.length:=by omega
 obtain⟨u,c,b⟩:=r.get (i:=i) (x:=V.bl bs[i]) (by simp[hb]);have e:a.toArray[i]? = some u:=by simpa using c
 rw[e]at hP;cases hP;cases b;rw[YM hb]at hQ;exact wpAny_truthy_bool hQ
def TL (h:X.calm=true):cG X (.builtin "all") (vQ X.K false):=by
 intro d s σ H xs us Q I r q;unfold vQ at q
 split at q
 ·rename_i p;obtain⟨bs,j,q⟩:=q;obtain⟨u,rfl,g⟩:=iD r;cases g;obtain⟨a,f,pl,_⟩:=I.list j;have hl:=f.length;rw[Yl]at hl;have c:p≠s.heap.objs.size:=by
   obtain⟨o,n,e,_⟩:=pl;exact YB (Ys e)
  refine call_all_walk (wpAny_pyIter_list pl.isList ⟨s.heap.objs.size,_,_,_,_,_,λi=>(bs[i]?).getD false,rfl,Walks.list (A:=X.A.in1) (show X.A.in1.handled=none from I.ok.hd h) s.heap.objs.size p c a.toArray,⟨⟨_,YR _ rfl,rfl,rfl⟩,?_⟩,T9 f,λh' l k=>?_⟩)
  ·exact pl.isList.at λo e=>YA _ e
  ·refine⟨.bl _,H,I.kept (h':=h') (t':=l) λb o e=>k b o (λz=>?_) (YA _ e),?_,q⟩
   ·have e':b=s.heap.objs.size:=by simpa using z
    exact aab (Ys e) (by rw[e'];exact Y5 _)
   ·show Value.bool _=Value.bool _;rw[Yv,<- hl,LC]
    rfl
 ·exact q.elim
def vH(K:W.Frag):List V->Hp->VK->Prop:=λxs H Q=>match xs with
 | [.ref p]=>∃ys,aG K H p ys/\∀l H',bc H l (.tup ys) H'->Q (.ref l) H'
 | _=>False
def Tz:cG X (.type "tuple") (vH X.K):=Tn.imp λxs H Q q=>by
 unfold vH at q
 split at q
 ·obtain⟨ys,a,q⟩:=q;exact⟨_,ys,rfl,.inl ⟨a,λl hl=>q l _ (.mk' hl)⟩⟩
 ·exact q.elim
def Fh:V->List V->Hp->VK->Prop:=λx vs H Q=>match x,vs with
 | .ref l,[y]=>∃xs,H l=some (.lst xs)/\xs.length<sizeLine/\Q .non (upd H l (.lst (xs++[y])))
 | _,_=>False
def ju:eK X "list.append" Fh:=by
 intro a s σ H x vs v us Q I b d q;unfold Fh at q
 split at q
 ·obtain⟨xs,e,c,q⟩:=q;exact NU a s σ H _ _ v us Q I b d ⟨_,xs,_,rfl,rfl,e,c,q⟩
 ·exact q.elim
def vP(K:W.Frag):V->List V->Hp->VK->Prop:=λx vs H Q=>match x,vs with
 | .ref l,[.ref b]=>∃xs zs,H l=some (.lst xs)/\H b=some (.lst zs)/\xs.length+zs.length<=sizeLine/\Q .non (upd H l (.lst (xs++zs)))
 | _,_=>False
def OP:eK X "list.extend" (vP X.K):=by
 intro a s σ H x vs v us Q I c e q;unfold vP at q
 split at q
 ·obtain⟨xs,b,f,d,g,q⟩:=q;exact NR a s σ H _ _ v us Q I c e ⟨_,_,xs,b,rfl,rfl,f,d,g,q⟩
 ·exact q.elim
def iR(xs:List V)(i:Int)(y:V):List V:=xs.take (if i<0 then (i+xs.length).toNat else min i.toNat xs.length)++y::xs.drop (if i<0 then (i+xs.length).toNat else min i.toNat xs.length)
def Fe:V->List V->Hp->VK->Prop:=λx vs H Q=>match x,vs with
 | .ref l,[.int i,y]=>∃xs,H l=some (.lst xs)/\xs.length<sizeLine/\-(2 ^ 63)<=i/\i<2 ^ 63/\Q .non (upd H l (.lst (iR xs i y)))
 | _,_=>False
def DW:eK X "list.insert" Fe:=by
 intro d s σ H x vs v us Q I f j q;unfold Fe at q
 split at q
 ·obtain⟨xs,hH,hz,m,g,q⟩:=q;cases f;obtain⟨u,c,rfl,h,o⟩:=t5 j;obtain⟨t,rfl⟩:=h;obtain⟨z,a,n,r,hl,e⟩:=I.lstM hH;rename_i l i y;have b:¬(!Builtin.List.listFitsIndex i)=true:=by
   rw[fitsIndex_both m g];exact YC
  refine call_meets F.slot_list_insert ⟨_,e,rfl⟩ F.entry_list_insert (F.args_list_insert_3 _ _ _) (AutoSeq1.list_insert_list_int_val_1 l a.toArray n i t c b (by rw[Yv];omega)) ⟨e,?_⟩;generalize hk:(if i<0 then (i+(xs.length:Int)).toNat else min i.toNat xs.length)=k at *;refine⟨.non,_,I.lset (its':=a.take k++c::a.drop k) (ys:=iR xs i y) hH e ?_ ?_ ?_,rfl,q⟩
  ·show (a.toArray.extract 0 (if i<0 then (i+(a.toArray.size:Int)).toNat else min i.toNat a.toArray.size)).push c++a.toArray.extract (if i<0 then (i+(a.toArray.size:Int)).toNat else min i.toNat a.toArray.size)=_;rw[Yv,<- hl,hk]
   apply Array.toList_inj.mp
   simp
   first|done|omega|exact YW (by simp;omega)|(rw[YW (by simp;omega)])
  ·unfold iR;rw[hk];exact (r.take k).append (.cons o (r.drop k))
  ·unfold iR;rw[hk,Yo,Y7,Yp,YY];omega
 ·exact q.elim
end
structure bz (P:Program) (w:World) (K:W.Frag) (mg:Str->Option Value) (base:Heap) (x:Str) (k:Nat) (f:Addr) (fd:FuncData) (ps:List Str) (sp:Sp):Prop where
 gm:mg x=some (.ref f)
 kp:W.keepIn K (.ref f)=true
 b:ak K fd ps []
 ok:bH P w K mg base bO k f fd ps sp
section
variable {X:Cx}{k j:Nat}{f:Addr}{fd:FuncData}{ps:List Str}{sp:Sp}{x:Str}{p pos:Pos}{e:Expr}{es:List Expr}{t:TA}
def Tx(F:bz X.prog X.w X.K X.mg X.base x j f fd ps sp)(hr:bS k X.A)(d:PA X (e::es) t)(g:j<=k:=by decide)(h:Gl X x:=by rfl)
 (a:(x == ("__debug__" : Str))=false:=by decide) (c:di (e::es)=true:=by rfl) :
 PE X (.Call (.Name x p) (e::es) [] pos) (jM sp [] E0 t):=Dr F.ok (hr.mono g) h F.gm F.kp F.b .nil Dt d a (cS (du c).1) (gU (du c).2)
def Tv{id:String}{r:List V->Hp->VK->Prop}(d:cG X (.builtin id) r)(hm:X.mg x=none)(f:bootBuiltins x=some (.builtin id))(c:PA X (e::es) t)(g:Gl X x:=by rfl)(hx:x ≠ "__name__":=by decide)(a:(x == ("__debug__" : Str))=false:=by decide)
 (b:di (e::es)=true:=by rfl):PE X (.Call (.Name x p) (e::es) [] pos) (jN r t):=M5 d g hm f c hx a (cS (du b).1) (gU (du b).2)
def Tr{T:String}{r:List V->Hp->VK->Prop}(d:cG X (.type T) r)(hm:X.mg x=none)(f:bootBuiltins x=some (.type T))(c:PA X (e::es) t)(g:Gl X x:=by rfl)(hx:x ≠ "__name__":=by decide)(a:(x == ("__debug__" : Str))=false:=by decide)
 (b:di (e::es)=true:=by rfl):PE X (.Call (.Name x p) (e::es) [] pos) (jN r t):=M4 d g hm f c hx a (cS (du b).1) (gU (du b).2)
def gi{n:Int}{u:Tok}(hm:X.mg x=some (.int n u))(a:Gl X x:=by rfl)(hd:(x == ("__debug__" : Str))=false:=by decide):PE X (.Name x pos) (tC (.int n)):=Dq a hm ⟨u,rfl⟩ hd
end
def fK(cells:List (Str × Addr)):List (Str × NameKind)->List (Str × Addr)->List (Str × Addr)
 | [],acc=>acc
 | (n,k)::r,acc=>fK cells r (if (k == NameKind.free)=true then (n,(cells.lookup n).getD 0)::acc else acc)
def FM{scope:Scope}{env:Env}(h:∀n,(n,NameKind.free)∈scope.names->∃c,env.cells.lookup n=some c):closureFor scope env=pure (fK env.cells scope.names []):=by
 unfold closureFor;have key:∀(l:List (Str × NameKind)) (a:List (Str × Addr)),(∀n,(n,NameKind.free)∈l->∃c,env.cells.lookup n=some c) ->
  (forIn l a (λx __s=>match x with
    | (name,kind) =>
     if (kind == NameKind.free)=true then do
      let __do_lift <- cellOf env name
      pure (ForInStep.yield ((name,__do_lift)::__s))
     else pure (ForInStep.yield __s)):Sem (List (Str × Addr)))=pure (fK env.cells l a):=by
  intro l
  induction l with
  | nil=>intro a _;rfl
  | cons x r ih =>
   intro a d;obtain⟨n,k⟩:=x;have hr:∀n,(n,NameKind.free)∈r->∃c,env.cells.lookup n=some c:=λn g=>d n (Y6 _ g);rw[List.forIn_cons];by_cases hk:(k == NameKind.free)=true
   ·have b:k=NameKind.free:=by simpa using hk
    subst b;obtain⟨c,f⟩:=d n Zo;have e:cellOf env n=pure c:=by unfold cellOf;rw[f]
    show (if (NameKind.free == NameKind.free)=true then _ else _) >>= _=_;rw[aaa hk,e];show (forIn r ((n,c)::a) _:Sem (List (Str × Addr)))=_;rw[ih _ hr];show _=pure (fK env.cells r (if (NameKind.free == NameKind.free)=true then (n,(List.lookup n env.cells).getD 0)::a else a));rw[aaa hk,f]
    rfl
   ·show (if (k == NameKind.free)=true then _ else _) >>= _=_;rw[on hk];show (forIn r a _:Sem (List (Str × Addr)))=_;rw[ih _ hr];show _=pure (fK env.cells r (if (k == NameKind.free)=true then _ else a));rw[on hk]
 show (forIn scope.names [] _ >>= _:Sem (List (Str × Addr)))=_;rw[key _ _ h]
 rfl
theorem y9{cells:List (Str × Addr)}:∀(l:List (Str × NameKind)) (a:List (Str × Addr)) (x:Str) (c:Addr),(fK cells l a).lookup x=some c->(∀n,(n,NameKind.free)∈l->∃c,cells.lookup n=some c)->((x,NameKind.free)∈l/\cells.lookup x=some c)\/a.lookup x=some c
 | [],a,x,c,h,_=>.inr h
 | (n,k)::r,a,x,c,h,hf=>by
  have hr:∀n,(n,NameKind.free)∈r->∃c,cells.lookup n=some c:=λn f=>hf n (Y6 _ f);rcases y9 r _ x c h hr with ⟨h1,h2⟩|h1
  ·exact .inl ⟨Y6 _ h1,h2⟩
  ·by_cases hk:(k == NameKind.free)=true
   ·rw[aaa hk]at h1;have b:k=NameKind.free:=by simpa using hk
    subst b;obtain⟨g,d⟩:=hf n Zo;rw[d]at h1;rw[Zd]at h1;by_cases e:(x == n)=true
    ·rw[e]at h1;have e':x=n:=by simpa using e
     subst e';have:g=c:=YL h1;subst this;exact .inl ⟨Zo,d⟩
    ·have e':(x == n)=false:=by simpa using e
     rw[e']at h1;exact .inr h1
   ·rw[on hk]at h1;exact .inr h1
theorem za{cells:List (Str × Addr)}:∀(l:List (Str × NameKind)) (a:List (Str × Addr)) (x:Str),((x,NameKind.free)∈l\/∃c,a.lookup x=some c)->∃c,(fK cells l a).lookup x=some c
 | [],a,x,h=>by
  rcases h with h|h
  ·cases h
  ·exact h
 | (n,k)::r,a,x,h=>by
  unfold fK;refine za r _ x ?_;rcases h with h|⟨c,h⟩
  ·rcases Yz.mp h with e|e
   ·cases e;exact .inr ⟨_,by simp;rfl⟩
   ·exact .inl e
  ·refine .inr ?_;by_cases hk:(k == NameKind.free)=true
   ·rw[aaa hk,Zd];cases (x == n)
    ·exact⟨c,h⟩
    ·exact⟨_,rfl⟩
   ·rw[on hk];exact⟨c,h⟩
section
variable {prog:Program}{w:World}{A:Around}{s:g0}{R:Result->g0->Prop}
def Tk{d a b:Expr}{f:List Expr}{scope:Scope}{pos:Pos}{it e:Value}{env:Env}(I:Nat->g0->Prop)
 (turn:∀n s,I n s->wpAny (model prog w) A (pyNext it) (λr i=>match r with
   | none=>R (.ok .next) i
   | some v=>wpAny (model prog w) A (letOwnedTupleGo a it v) (λ_ g=>wpAny (model prog w) A (assign a env v) (λ_ o =>
    wpAny (model prog w) A (forIn f true λc r=>if r=true then do let ok <- isTrue c env (eval c env);pure (ForInStep.yield ok) else pure (ForInStep.yield r)) (λok k =>
     if ok=true then wpAny (model prog w) A (eval d env) (λx p =>
      wpAny (model prog w) A (call (.builtin "list.append") [e,x]) (λ_ u=>∃m,m<n/\I m u) (λ_ _=>False) p) (λ_ _=>False) k
     else ∃m,m<n/\I m k) (λ_ _=>False) o) (λ_ _=>False) g) (λ_ _=>False) i) (λ_ _=>False) s)
 (n:Nat) (h:I n s) :
 codeAny (model prog w) A (.compLoop (.ListComp d [⟨a,b,f,0⟩] scope pos) 0 it e env) R s:=by
 refine codeAny_loop rfl I (λn s hI=>?_) n h;show wpAny _ A ((compTurn (.ListComp d [⟨a,b,f,0⟩] scope pos) 0 it e env).onRaise (λx=>do noteFrame x env;theTreesLotGoes x)) _ _ s;refine wpAny_noted ?_;rw[compTurn_list];refine kb (wpAny_standAt (kb (wpAny_mono (turn n s hI) (λr i q=>?_) λ_ _ h'=>h'.elim)));cases r with
 | none=>exact no q
 | some v =>
  refine kb (wpAny_mono q (λ_ g j=>?_) λ_ _ h'=>h'.elim);refine kb (wpAny_mono j (λ_ o y=>kb (wpAny_mono y (λok k l=>?_) λ_ _ h'=>h'.elim)) λ_ _ h'=>h'.elim);cases ok with
  | false=>exact no ⟨rfl,l⟩
  | true =>
   exact kb (kb (wpAny_mono l (λx p z=>kb (wpAny_mono z (λ_ u B=>no (no ⟨rfl,B⟩)) λ_ _ h'=>h'.elim)) λ_ _ h'=>h'.elim))
end
def cN(X:Cx)(Nc:List Str)(scope:Scope)(C:Addr)(s:g0)(H:Hp)(fp:List Addr):Cx where
 prog:=X.prog
 w:=X.w
 K:=X.K
 mg:=X.mg
 base:=X.base
 A:=X.A
 N:=Nc
 s₀:=s
 H₀:=H
 env:=compEnvC scope (fK X.env.cells scope.names []) C X.env
 outer:=X.stack
 stack:=X.stack
 ex:=fp
 fn:=λ_=>false
 calm:=X.calm
 pn:=X.pn
 xe:=λ_ _=>False
def mZ(X:Cx)(b:List Expr)(t:TT):Prop :=
 ∀(a:List (Addr × Obj)) (s:g0) (σ:St) (H:Hp) (Q:Bool->Hp->Prop),ai X a σ H s->t σ H Q ->
  wpAny (model X.prog X.w) X.A (forIn b true λc r=>if r=true then do let ok <- isTrue c X.env (eval c X.env);pure (ForInStep.yield ok) else pure (ForInStep.yield r)) (TP X a σ Q) X.xe s
def iE:TT:=λ_ H Q=>Q true H
def L8{X:Cx}:mZ X [] iE:=λ_ _ _ H _ I h=>wpAny_tests_nil ⟨H,I,h⟩
def L7{X:Cx}{c:Expr}{t:TT}(h:PT X c t):mZ X [c] t:=λa s σ H Q I q=>wpAny_tests_one (h a s σ H Q I q)
def bT.adopt{P:Program}{w:World}{H:Hp}{h:Heap}{a:Addr}{o:HO}(x:bT P w H h)(d:H a=none)(new:ci P w (upd H a o) h a o):bT P w (upd H a o) h:=λb u e=>by
 by_cases hb:b=a
 ·subst hb;rw[aJ]at e;cases e;exact new
 ·rw[ay hb]at e;exact (x b u e).stay (λc v _ q=>q) (λc q=>by rw[ay (aI q d)];exact q) λc xs q=>by rw[ay (aI q d)];exact q
def jc(J:It)(e:Hp)(h:St)(g:TG)(d:TT)(k:TE)(Q:VK):Prop:=∃W:Nat->Nat->List V->St->Hp->Prop,
 (∃m,W 0 m [] h e)/\∀i m ys σ1 H2,W i m ys σ1 H2 ->
   (J.stop i H2/\ys.length<=sizeLine/\∀p H',bc H2 p (.lst ys) H'->Q (.ref p) H') \/
   (J.go i H2/\ys.length<sizeLine/\∃Nx:List V->St->Hp->Prop,(∀ys' σ' H',Nx ys' σ' H'->∃m',m'<m/\W (i+1) m' ys' σ' H') /\
     ∀x H',J.yld i H2 x H'->g x σ1 H' λa j=>d a j λb c=>if b=true then k a c λy f=>Nx (ys++[y]) a f else Nx ys a c)
def pS(nv:Nat)(caps:List Nat)(d:TI)(g:TG)(a:TT)(c:TE):TE:=λσ H Q=>d σ H λJ b=>jc J b (List.replicate nv none++caps.map λj=>(σ[j]?).join) g a c Q
structure cZ (X:Cx) (Nc:List Str) (nv:Nat) (caps:List Nat) (scope:Scope):Prop where
 kind:scope.kind=.function
 nocell:∀y∈scope.names,y.2 ≠ .cell
 names:∀y∈scope.names,y.2=.local->scope.names.lookup y.1=some .local
 free:∀n,(n,NameKind.free)∈scope.names->X.env.kindOf n=some .cell\/X.env.kindOf n=some .free
 len:Nc.length=nv+caps.length
 cap:∀k j,caps[k]? = some j->∃x,Nc[nv+k]? = some x/\X.N[j]? = some x/\scope.names.lookup x=some .free
def FK(fns:List (Str × NameKind))(N Nc:List Str)(nv:Nat)(caps:List Nat)(a:Scope):Bool :=
 (a.kind == .function) && (a.names.all λy=>!(y.2 == .cell)) && (a.names.all λy=>!(y.2 == .local) || a.names.lookup y.1 == some .local) &&
 (a.names.all λy=>!(y.2 == .free) || (fns.lookup y.1 == some .cell || fns.lookup y.1 == some .free)) && (Nc.length == nv+caps.length) &&
 ((List.range caps.length).all λk=>match caps[k]?,Nc[nv+k]? with
   | some j,some x=>N[j]? == some x && a.names.lookup x == some .free
   | _,_=>false)
def cZ.of{X:Cx}{fns:List (Str × NameKind)}{N Nc:List Str}{nv:Nat}{caps:List Nat}{b:Scope}(c:X.env.scope.names=fns)(hN:X.N=N)(h:FK fns N Nc nv caps b=true):cZ X Nc nv caps b:=by
 unfold FK at h;simp only [YT]at h;obtain⟨⟨⟨⟨⟨l,f⟩,p⟩,i⟩,m⟩,g⟩:=h;refine⟨by simpa using l,λy a e=>?_,λy a e=>?_,λn d=>?_,by simpa using m,λk j e=>?_⟩
 ·have:=ZV.mp f y a;rw[e]at this;simp at this
 ·have:=ZV.mp p y a;rw[e]at this;simpa using this
 ·have:=ZV.mp i _ d;show X.env.scope.names.lookup n=some .cell\/X.env.scope.names.lookup n=some .free;rw[c];simpa using this
 ·have o:k<caps.length:=(Yr.mp e).1;have:=ZV.mp g k (YE.mpr o);rw[e]at this;cases ex:Nc[nv+k]? with
  | none=>rw[ex]at this;simp at this
  | some x =>
   rw[ex]at this;simp only [YT]at this;exact⟨x,rfl,by rw[hN];simpa using this.1,by simpa using this.2⟩
theorem qC{env:Env}:∀ {names:List (Str × NameKind)} {x:Str} {k:NameKind},
 (names.map λ(n,k)=>if (k == NameKind.free && env.scope.kind == .function && env.kindOf n == some .cell) then (n,NameKind.cell) else (n,k)).lookup x=some k ->
 ∃k0,names.lookup x=some k0/\(k=k0\/(k0=.free/\k=.cell))
 | [],_,_,h=>by simp at h
 | (n,k0)::r,x,k,h=>by
  have h':List.lookup x ((if (k0 == NameKind.free && env.scope.kind == .function && env.kindOf n == some .cell)=true then (n,NameKind.cell) else (n,k0)) ::
   r.map λ(n,k)=>if (k == NameKind.free && env.scope.kind == .function && env.kindOf n == some .cell) then (n,NameKind.cell) else (n,k))=some k:=h
  cases hx:x == n with
  | true =>
   refine⟨k0,by simp[Zd,hx],?_⟩;by_cases hc:(k0 == NameKind.free && env.scope.kind == .function && env.kindOf n == some .cell)=true
   ·rw[aaa hc,Zd,hx]at h';have:NameKind.cell=k:=YL h';refine .inr ⟨?_,this.symm⟩;rw[YT,YT]at hc;simpa using hc.1.1
   ·rw[on hc,Zd,hx]at h';exact .inl (YL h').symm
  | false =>
   have b:(r.map λ(n,k)=>if (k == NameKind.free && env.scope.kind == .function && env.kindOf n == some .cell) then (n,NameKind.cell) else (n,k)).lookup x=some k:=by
    by_cases hc:(k0 == NameKind.free && env.scope.kind == .function && env.kindOf n == some .cell)=true
    ·rw[aaa hc,Zd,hx]at h';exact h'
    ·rw[on hc,Zd,hx]at h';exact h'
   obtain⟨k1,c,a⟩:=qC b;exact⟨k1,by simp[Zd,hx,c],a⟩
def i4{a b n:Addr}(h:a<n)(h':n<=b):a≠b:=YB (Yn h h')
theorem nU{α β:Type}[BEq α][LawfulBEq α]:∀ {l:List (α × β)} {x:α} {k:β},l.lookup x=some k->(x,k)∈l
 | [],_,_,h=>by simp at h
 | (n,k0)::r,x,k,h=>by
  cases hx:x == n with
  | true =>
   simp only [Zd,hx]at h;cases h;have e:x=n:=by simpa using hx
   subst e;exact Zo
  | false =>
   simp only [Zd,hx]at h;exact Y6 _ (nU h)
section
variable {X:Cx}{elt tg iter:Expr}{ifs:List Expr}{scope:Scope}{Nc:List Str}{nv:Nat}{caps:List Nat}
def PF{f:List (Addr × Obj)}{σ:St}{H:Hp}{s:g0}{fp:List Addr}{O:Heap}{tk:Nat}{D C:Addr}{m:Str->Option Value}(S:cZ X Nc nv caps scope)(I:ai X f σ H s)
 (R:∀b∈fp,fM X f H b) (U:∀b∈fp,b<s.heap.objs.size) (hD:s.heap.objs.size<=D) (hC:s.heap.objs.size<=C) (hDC:D≠C) (hn:O.Ns C m) {oD:Obj} (hDo:O.get? D=some oD) (hDd:∀v,oD.data ≠ .cell v) (r:∀b o,s.heap.get? b=some o->O.get? b=some o) :
 ai (cN X Nc scope C s H fp) (f++[(D,oD)]) (List.replicate nv none++caps.map λj=>(σ[j]?).join) H { s with heap:=O,toks:=tk }:=by
 have B:∀n,(n,NameKind.free)∈scope.names->∃c,X.env.cells.lookup n=some c:=λn hm=>I.ok.has n (S.free n hm);have clX:∀x c,(fK X.env.cells scope.names []).lookup x=some c->(x,NameKind.free)∈scope.names/\X.env.cells.lookup x=some c:=λx c e=>by
  rcases y9 _ _ _ _ e B with h|h
  ·exact h
  ·simp at h
 have W:∀b∈dJ X.stack,b<s.heap.objs.size:=λb hb=>by
  obtain⟨_,o,ho,_⟩:=I.stack.mem hb;exact Ys ho
 have cellLt:∀x c,X.env.cells.lookup x=some c->c<s.heap.objs.size:=λx c e=>by
  obtain⟨v,q⟩:=I.cell x c e;exact q.lt
 refine⟨⟨I.ok.mod,S.kind,I.ok.glob,I.ok.blt,hC,λx y c Y V=>I.ok.inj x y c (clX x c Y).2 (clX y c V).2,λx hx=>?_,λx c z=>aab z (by show ¬(false=true);decide),I.ok.hd,I.ok.frames,.inl rfl,λb hb=>⟨?_,λx c e z=>?_⟩,λb o e=>I.bs b o e,YK I.ok.bsz I.sz,λb o e hb=>?_,λb hb z=>?_,I.stack,I.stkFree⟩,
  rfl,I.bare,Un.kept r,⟨m,hn,λi x v h1 G h3=>?_⟩,λx c e=>?_,I.hok.fresh hC,λx c e=>I.freeC x c (clX x c e).2,λp hp=>?_,I.hok.kept r,?_⟩
 ·-- a cell or free name of the block has its cell
  have g:(relabel scope X.env).names.lookup x=some .cell\/(relabel scope X.env).names.lookup x=some .free:=hx;have hm:(x,NameKind.free)∈scope.names:=by
   rcases g with g|g
   ·obtain⟨k0,e,z⟩:=qC g;rcases z with z|⟨z,_⟩
    ·subst z;exact aab rfl (S.nocell _ (nU e))
    ·subst z;exact nU e
   ·obtain⟨k0,e,z⟩:=qC g;rcases z with z|⟨_,z⟩
    ·subst z;exact nU e
    ·cases z
  exact za _ _ _ (.inl hm)
 ·exact YB (Yn (U b hb) hC)
 ·exact (R b hb).2.2.2.2.1 x c (clX x c e).2 z
 ·have hx:=(R b hb).2.2.2.1;rcases hx with z|z
  ·exact I.ok.noex b o e z
  ·exact aab (Yn (Yn (Ys e) I.ok.bsz) z) (Y5 _)
 ·rcases Yz.mp (I.stkSub b z) with q|q
  ·exact (R b hb).2.1 q
  ·exact (R b hb).2.2.1 q
 ·-- the names' values
  have hi:nv<=i:=by
   refine Nat.le_of_not_lt λF=>?_;rw[Zj (by simpa using F),a0a,aaa F]at G;cases G
  obtain⟨k,rfl⟩:=Nat.le.dest hi;rw[Zi (by simp)]at G;simp only [ZH,ZW,Yt]at G;cases ek:caps[k]? with
  | none=>rw[ek]at G;cases G
  | some j =>
   rw[ek]at G;have l:(σ[j]?).join=some v:=YL G;have hσ:σ[j]? = some (some v):=by
    cases e:σ[j]? with
    | none=>rw[e]at l;cases l
    | some z=>rw[e]at l;cases z with
     | none=>cases l
     | some z=>have:z=v:=YL l;rw[this]
   obtain⟨y,Y,V,e3⟩:=S.cap k j ek;have L:Nc[nv+k]? = some x:=h1;rw[Y]at L;cases L;have hm:=nU e3;have hk:=S.free x hm;obtain⟨m0,a5,hl⟩:=I.loc;obtain⟨u,ru,lk⟩:=hl j x v V hσ (by
    rcases hk with z|z
    ·exact .inr (.inl z)
    ·exact .inr (.inr z))
   refine⟨u,ru,?_⟩;rcases lk with ⟨z,_⟩|⟨_,c,hc,hcell⟩
   ·rcases hk with J|J<;>rw[z]at J<;>cases J
   ·refine .inr ⟨?_,c,?_,hcell.keeps r⟩
    ·rcases h3 with z|z|z
     ·exfalso
      obtain⟨k0,e,J⟩:=qC (show (relabel scope X.env).names.lookup x=some .local from z);rw[e3]at e;cases e;rcases J with J|⟨_,J⟩<;>cases J
     ·exact .inl z
     ·exact .inr z
    ·obtain⟨c',M⟩:=za (cells:=X.env.cells) scope.names [] x (.inl hm);rw[(clX x c' M).2]at hc;cases hc;exact M
 ·obtain⟨v,z⟩:=I.cell x c (clX x c e).2;exact⟨v,z.keeps r⟩
 ·-- f
  have N:p∈X.pn++(f++[(D,oD)]):=hp;rw[<- YU]at N;rcases Yx.mp N with z|z
  ·obtain⟨e,n,ne,nf,d⟩:=I.pin p z;have F:=Ys e;refine⟨r _ _ e,n,YB (Yn F hC),λq=>?_,d⟩;rcases Yz.mp (I.stkSub p.1 q) with q|q
   ·exact ne q
   ·exact nf q
  ·have e:p=(D,oD):=by simpa using z
   subst e;exact⟨hDo,I.hok.fresh hD,hDC,λq=>aab (Yn (W _ q) hD) (Y5 _),hDd⟩
 ·show (List.replicate nv none++caps.map λj=>(σ[j]?).join).length=Nc.length;rw[Yo,ZH,Yl,S.len]
abbrev iq(its:List Value)(n:Nat):Obj:={ cls:=.type "list",data:=.seq its.toArray n }
def Ec(a:List Value)(n:Nat):∀v,(iq a n).data ≠ .cell v:=λv z=>by
 have b:Data.seq a.toArray n=Data.cell v:=z;cases b
def FJ{g:TG}{tt:TT}{te:TE}{pos:Pos}{a:List (Addr × Obj)}{σ:St}{H:Hp}{s:g0}{Q:VK}{E:Value->g0->Prop}{RR:Value->Addr->Result->g0->Prop}(hc:X.calm=true)(S:cZ X Nc nv caps scope)
 (hg:∀C s H fp,PG (cN X Nc scope C s H fp) tg g) (ht:∀C s H fp,mZ (cN X Nc scope C s H fp) ifs tt) (he:∀C s H fp,PE (cN X Nc scope C s H fp) elt te)
 {it:Addr} {fp:List Addr} {tn:Nat->Heap->Prop} {J:It} (I:ai X a σ H s) (T:jE X.prog X.w X.K tg J fp it tn) (st:tn 0 s.heap) (N:∀b∈fp,fM X a H b)
 {W:Nat->Nat->List V->St->Hp->Prop} {m0:Nat} (w0:W 0 m0 [] (List.replicate nv none++caps.map λj=>(σ[j]?).join) H)
 (turn:∀i m ys O H2,W i m ys O H2->(J.stop i H2/\ys.length<=sizeLine/\∀p l,bc H2 p (.lst ys) l->Q (.ref p) l) \/
   (J.go i H2/\ys.length<sizeLine/\∃Nx:List V->St->Hp->Prop,(∀ys' σ' l,Nx ys' σ' l->∃m',m'<m/\W (i+1) m' ys' σ' l) /\
     ∀x l,J.yld i H2 x l->g x O l λσ2 H3=>tt σ2 H3 λb H4=>if b=true then te σ2 H4 λy H5=>Nx (ys++[y]) σ2 H5 else Nx ys σ2 H4))
 (hRR:∀(D C:Addr) (s1:g0) (l:Hp),ai X a σ l s1->fM X a l C->(∃m,s1.heap.Ns C m)->Q (.ref D) l->RR (.ref D) C (.ok .next) s1) :
 wpAny (model X.prog X.w) X.A (newList []) (λal s₃=>wpAny (model X.prog X.w) X.A (newFunctionEnv scope X.env.globals (fK X.env.cells scope.names []) [] X.env.qual none .none (some X.env)) (λa3 s₄ =>
  codeAny (model X.prog X.w) X.A (.compStart (.ListComp elt [⟨tg,iter,ifs,0⟩] scope pos) 0 (.ref it) al { a3 with scope:=relabel scope X.env }) (RR al a3.locals) s₄) E s₃) E s:=by
 refine wpAny_newObj_type (wpAny_newFunctionEnv S.nocell (by intro y hy;simp at hy) (λh₁ G k=>?_) S.kind);dsimp only at G k ⊢;generalize hH2:s.heap.push { cls:=.type "list",dict:=none,data:=.seq ([]:List Value).toArray }=h2 at G k ⊢;have hC:h2.objs.size=s.heap.objs.size+1:=by rw[<- hH2,ZG]
 have hDC:s.heap.objs.size≠h2.objs.size:=by rw[hC];exact YB (Yu _)
 have hCle:s.heap.objs.size<=h2.objs.size:=by rw[hC];exact ZQ _
 have a7:∀b o,s.heap.get? b=some o->h₁.get? b=some o:=λb o e=>k.extBut b o (YB (Yn (Ys e) hCle)) (YA _ (hH2 ▸ YA _ e));have a1:h₁.get? s.heap.objs.size=some (iq [] 0):=k.extBut _ _ hDC (YA _ (hH2 ▸ YR _ rfl));have Y:∀b∈fp,b<s.heap.objs.size:=λb hb=>by
  obtain⟨o,ho,_⟩:=T.obj _ _ st b hb;exact Ys ho
 have az:∀b∈dJ X.stack,b<s.heap.objs.size:=λb hb=>by
  obtain⟨_,o,ho,_⟩:=I.stack.mem hb;exact Ys ho
 have cellLt:∀x c,X.env.cells.lookup x=some c->c<s.heap.objs.size:=λx c e=>by
  obtain⟨v,q⟩:=I.cell x c e;exact q.lt
 have U:∀n,(n,NameKind.free)∈scope.names->∃c,X.env.cells.lookup n=some c:=λn hm=>I.ok.has n (S.free n hm);have clX:∀x c,(fK X.env.cells scope.names []).lookup x=some c->X.env.cells.lookup x=some c:=λx c e=>by
  rcases y9 _ _ _ _ e U with h|h
  ·exact h.2
  ·simp at h
 have pinLt:∀p∈X.pn++a,p.1<s.heap.objs.size:=λp L=>Ys (I.pin p L).1;generalize hDD:s.heap.objs.size=D at a1 hDC ⊢;generalize hCC:h2.objs.size=C at hDC hCle G k ⊢;have leD:s.heap.objs.size<=D:=ZP hDD;have leC:s.heap.objs.size<=C:=by omega
 have a5:∀ {B:Hp} (o:Obj),(∀b∈fp,B b=none)->∀b∈fp,fM (cN X Nc scope C s H fp) (a++[(D,o)]) B b:=λ{B} o hn b hb=>by
  refine⟨hn b hb,YB (Yn (Y b hb) leC),λz=>?_,.inl hb,λx c e z=>(N b hb).2.2.2.2.1 x c (clX x c e) z,λp L=>?_⟩
  ·rcases Yz.mp (I.stkSub b z) with q|q
   ·exact (N b hb).2.1 q
   ·exact (N b hb).2.2.1 q
  ·have af:p∈X.pn++(a++[(D,o)]):=L;rw[<- YU]at af;rcases Yx.mp af with z|z
   ·exact (N b hb).2.2.2.2.2 p z
   ·have e:p=(D,o):=by simpa using z
    subst e;exact λq=>i4 (Y b hb) leD q.symm
 have loop:∀s₃:g0,s₃ = { s with heap:=h₁,toks:=s.toks+([]:List (Str × Value)).length } ->
  codeAny (model X.prog X.w) X.A (.compLoop (.ListComp elt [⟨tg,iter,ifs,0⟩] scope pos) 0 (.ref it) (.ref D) (compEnvC scope (fK X.env.cells scope.names []) C X.env)) (RR (.ref D) C) s₃:=by
  rintro s₃ rfl;refine Tk (λn s'=>∃(i:Nat) (ys:List V) (f:List Value) (nn:Nat) (O:St) (B:Hp),ai (cN X Nc scope C s H fp) (a++[(D,iq f nn)]) O B s'/\tn i s'.heap/\(∀b∈fp,B b=none)/\aM ys f/\W i n ys O B) ?_ m0
   ⟨0,[],[],0,_,H,PF S I N Y leD leC hDC G a1 (Ec _ _) a7,T.keep _ _ _ st λb _ o e=>a7 b o e,λb hb=>(N b hb).1,.nil,w0⟩
  rintro n s' ⟨i,ys,f,nn,O,B,I1,aj,ag,rv,w1⟩;have pinD:∀ {σ':St} {l:Hp} {a9:g0} {pl:List (Addr × Obj)},ai (cN X Nc scope C s H fp) ((a++[(D,iq f nn)])++pl) σ' l a9->a9.heap.get? D=some (iq f nn)/\l D=none:=λ{σ' l a9 pl} I'=>by
   have z:=I'.pin (D,iq f nn) (YF _ (Y1 _ (YF _ (by simp))));exact⟨z.1,z.2.1⟩
  rcases turn i n ys O B w1 with ⟨stop,hz,q⟩|⟨go,hz,Nx,hNx,step⟩
  ·refine aB (T.done (cN X Nc scope C s H fp) rfl rfl rfl hc i _ s' O B _ I1 (a5 _ ag) aj stop) λr s4 ⟨hr,I4⟩=>?_;subst hr;obtain⟨eD,nD⟩:=pinD (pl:=[]) (by rw[Y8];exact I4);obtain⟨m,hnC,_⟩:=I4.loc;have u4:Un (dJ X.stack) fp H B s.heap s4.heap:=I4.base;have dNone:s.heap.get? D=none:=a1u (ZP hDD);have noD:∀b o,s.heap.get? b=some o->b≠D:=λb o e z=>by rw[z,dNone]at e;cases e
   have u5:Un (dJ X.stack) fp H (upd B D (.lst ys)) s.heap s4.heap:=by
    refine⟨u4.keep,u4.slot,λb o e n hx=>?_,u4.there,λb xs e=>?_,λb o u e=>?_,λb ps e=>?_⟩
    ·rw[ay (noD b o e)];exact u4.free b o e n hx
    ·have z:=u4.tups b xs e;rw[ay (aI z nD)];exact z
    ·have z:=u4.frzs b o u e;rw[ay (aI z nD)];exact z
    ·obtain⟨more,z⟩:=u4.tbls b ps e;exact⟨more,by rw[ay (aI z nD)];exact z⟩
   have hok:bT X.prog X.w (upd B D (.lst ys)) s4.heap:=bT.adopt I4.hok nD ⟨hz,f,nn,rv,eD⟩;have IX:ai X a σ (upd B D (.lst ys)) s4:=I.call' I4.os u5 hok I4.bare λb hb=>⟨(N b hb).2.2.2.1,(N b hb).2.1,(N b hb).2.2.2.2.1,(N b hb).2.2.2.2.2⟩;have fpC:fM X a (upd B D (.lst ys)) C:=by
    have hl:X.env.locals<s.heap.objs.size:=I.lt;exact⟨by rw[ay (Ne.symm hDC)];exact I4.free,(i4 hl leC).symm,I.nofs leC,.inr (YK I.sz leC),λx c e z=>i4 (cellLt x c e) leC z,λp L z=>i4 (pinLt p L) leC z⟩
   exact hRR D C s4 _ IX fpC ⟨m,hnC⟩ (q D _ (.mk' nD))
  ·refine aB (T.item (cN X Nc scope C s H fp) rfl rfl rfl hc i _ s' O B _ I1 (a5 _ ag) aj go) λr s4 ⟨u,hr,h4⟩=>?_;subst hr;refine aB h4 λ_ s5 ⟨x,H5,I5,r5,y5,a4,aA⟩=>?_;have aC:=I5.pinned (a5 _ aA) (T.obj _ _ a4);have back:∀ {σ7:St} {H7:Hp} {s7:g0},ai (cN X Nc scope C s H fp) ((a++[(D,iq f nn)])++nN fp s5.heap) σ7 H7 s7->tn (i+1) s7.heap/\∀b∈fp,H7 b=none:=λ{σ7 H7 s7} I7=>by
    refine⟨T.keep _ _ _ a4 λb hb o e=>(I7.pin (b,o) (YF _ (YF _ (qA hb e)))).1,λb hb=>?_⟩;obtain⟨o,e,d⟩:=T.obj _ _ a4 b hb;exact (I7.pin (b,o) (YF _ (YF _ (qA hb e)))).2.1
   refine aB (hg _ _ _ _ _ s5 O H5 x u _ aC r5 (step x H5 y5)) λ_ s6 ⟨σ6,H6,I6,q6⟩=>?_;refine aB (ht _ _ _ _ _ s6 σ6 H6 _ I6 q6) λb s7 ⟨H7,I7,q7⟩=>?_;cases b with
   | false =>
    obtain⟨m',hm,w7⟩:=hNx _ _ _ q7;obtain⟨t7,f7⟩:=back I7;exact⟨m',hm,i+1,ys,f,nn,σ6,H7,I7.unpinned,t7,f7,rv,w7⟩
   | true =>
    refine aB (he _ _ _ _ _ s7 σ6 H7 _ I7 q7) λR s8 ⟨y,H8,I8,r8,n8⟩=>?_;obtain⟨m',hm,w8⟩:=hNx _ _ _ n8;obtain⟨t8,f8⟩:=back I8;obtain⟨eD,nD⟩:=pinD I8;have aL:=rv.length;refine call_meets F.slot_list_append ⟨_,eD,rfl⟩ F.entry_list_append (F.args_list_append_2 _ _) (PySem.list_append D f.toArray nn R (by rw[Yv];omega)) ⟨eD,?_⟩;have ea:f.toArray.push R=(f++[R]).toArray:=by simp
    obtain⟨n9,e9⟩:∃n9,(s8.heap.update D (Obj.mapSeq (·.push R))).get? D=some (iq (f++[R]) n9):=⟨_,by
     have z:=PySem.IsL.update eD (·.push R);rw[ea]at z;exact z⟩
    have M:∀b o,b≠D->s8.heap.get? b=some o->(s8.heap.update D (Obj.mapSeq (·.push R))).get? b=some o:=λb o hb e=>(a0x _ _ (Ne.symm hb)).trans e;have aw:∀b∈fp,b≠D:=λb hb z=>i4 (Y b hb) leD z;have ax:ai (cN X Nc scope C s H fp) a σ6 H8 s8:=I8.pins_of λp L=>I8.pin p (YF _ (Y1 _ (Y1 _ L)));have I9:=ax.turned (t':=s8.toks) (it:=D) M nD hDC (.inr leD) (λx c e z=>i4 (cellLt x c (clX x c e)) leD z) (λp L z=>i4 (pinLt p L) leD z);have t9:tn (i+1) (s8.heap.update D (Obj.mapSeq (·.push R))):=T.keep _ _ _ t8 λb hb o e=>M b o (aw b hb) e;refine⟨m',hm,i+1,ys++[y],f++[R],n9,σ6,H8,I9.pins_of λp L=>?_,t9,f8,rv.append (.cons r8 .nil),w8⟩;rcases Yx.mp L with z|z
    ·exact I9.pin p (YF _ z)
    ·have e:p=(D,iq (f++[R]) n9):=by simpa using z
     subst e;exact⟨e9,nD,hDC,λq=>i4 (az _ q) leD rfl,Ec _ _⟩
 have b2:=λ(s₃:g0) (e:s₃ = { s with heap:=h₁,toks:=s.toks+([]:List (Str × Value)).length })=>loop s₃ e;exact codeAny_compStart_list (loop _ rfl) (T.self _ 0 _ _ _ (T.keep _ _ _ st λb _ o e=>a7 b o e) (loop _ rfl))
def M0{k:TI}{g:TG}{l:TT}{p:TE}{pos:Pos}(F:X.calm=true)(S:cZ X Nc nv caps scope)(hi:PI X tg iter k)
 (hg:∀C s H fp,PG (cN X Nc scope C s H fp) tg g) (V:∀C s H fp,mZ (cN X Nc scope C s H fp) ifs l) (he:∀C s H fp,PE (cN X Nc scope C s H fp) elt p)
 (hs:∀x,foldedSetIterable iter X.env x=pure x:=by intro _;rfl):PE X (.ListComp elt [⟨tg,iter,ifs,0⟩] scope pos) (pS nv caps k g l p):=by
 intro d s σ H Q I h;rw[eval_ListComp];have a:∀n,(n,NameKind.free)∈scope.names->∃c,X.env.cells.lookup n=some c:=λn hm=>I.ok.has n (S.free n hm);refine wpAny_comprehension_free (use:=none) rfl hs (FM a) S.kind S.names (aB (hi d s σ H _ I h) λv s1 U=>aB U λa0 s2 R=>?_);obtain⟨it,fp,tn,J,H2,rfl,z,T,f,u,W,⟨m0,M⟩,turn⟩:=R;refine FJ (RR:=λj C=>compPost (model X.prog X.w) X.A X.xe none (EP X d σ Q) j C) F S hg V he z T f u M turn λD C B G y fC i q=>?_;obtain⟨m,i⟩:=i;refine⟨m,i,λh' sb=>?_⟩;obtain⟨r,f1,O,Y,L,N⟩:=fC;exact⟨.ref D,G,y.turned (t':=B.toks) (it:=C) (λb o hb e=>sb.extBut b o hb e) r f1 Y L N,rfl,q⟩
def Me{G:TI}{g:TG}{L:TT}{R:TE}{pos f k:Pos}{i:Nat}{y:Str}(hN:X.N.Nodup)(hy:X.N[i]? = some y)(hx:i7 X.env.scope y)(hc:X.calm=true)(S:cZ X Nc nv caps scope)(hi:PI X tg iter G)
 (hg:∀C s H fp,PG (cN X Nc scope C s H fp) tg g) (ht:∀C s H fp,mZ (cN X Nc scope C s H fp) ifs L) (he:∀C s H fp,PE (cN X Nc scope C s H fp) elt R)
 (F:swapsWith (.ListComp elt [⟨tg,iter,ifs,0⟩] scope pos) (some (.Name y k)) f.line X.env=pure true:=by rfl)
 (hs:∀x,foldedSetIterable iter X.env x=pure x:=by intro _;rfl) (hf:X.fn y=true\/X.env.scope.names.lookup y=some .local:=by first|exact .inl rfl|exact .inr rfl|assumption) :
 PS X (.Assign [.Name y k] (.ListComp elt [⟨tg,iter,ifs,0⟩] scope pos) f) (jO (pS nv caps G g L R) (eB i)):=by
 intro a s σ H D0 I h;have d:∀n,(n,NameKind.free)∈scope.names->∃c,X.env.cells.lookup n=some c:=λn hm=>I.ok.has n (S.free n hm);rw[exec_Assign_Name_used _ _ _ _ F];refine kb (wpAny_standAt (kb ?_));show wpAny _ X.A (do let _ <- comprehension (.ListComp elt [⟨tg,iter,ifs,0⟩] scope pos) scope X.env _ (newList []) false (eval iter X.env) (some (assign (.Name y k) X.env))) _ _ s;refine kb (wpAny_mono (wpAny_comprehension_free (use:=some (assign (.Name y k) X.env)) (Q:=λ_ l=>SP X a D0 .next l) rfl hs (FM d) S.kind S.names
  (aB (hi a s σ H _ I h) λv s1 h1=>aB h1 λai s2 h2=>?_)) (λ_ l hq=>no (no hq)) λ_ _ e=>e)
 obtain⟨it,fp,tn,J,H2,rfl,I2,T,p,V,W,⟨m0,w0⟩,turn⟩:=h2;refine FJ (RR:=λB C=>compPost (model X.prog X.w) X.A X.xe (some (assign (.Name y k) X.env)) (λ_ l=>SP X a D0 .next l) B C) (Q:=λx H1=>eB i x σ H1 D0.nx) hc S hg ht he I2 T p V w0 turn λD C s4 H4 I4 fC r q=>?_;obtain⟨m,r⟩:=r;obtain⟨U,O,a9,f3,M,f5⟩:=fC;show wpAny _ X.A (assign (.Name y k) X.env (.ref D)) _ _ _;refine wpAny_assign_Name (Ca I4 hN hy hx (show aT (.ref D) (.ref D) from rfl) (λs5 Y j=>?_) hf);obtain⟨a5,j,u⟩:=j;have hCa:C≠a5:=by
  rcases u with z|z
  ·rw[z];exact O
  ·exact λe=>M _ _ z e.symm
 refine⟨m,r.sameBut j hCa,λh' sb=>?_⟩;exact⟨_,H4,Y.turned (t':=s5.toks) (it:=C) (λb o hb e=>sb.extBut b o hb e) U O f3 M f5,q⟩
end
def mT{K:W.Frag}{a:Addr}{xs:List V}{cs:St}{k:TT}{r:TE}{H:Hp}{Q:VK}(f:Nat->List V->Hp->Prop)(v:f 0 [] H)(hl:∀i ys H,i<=xs.length->f i ys H->aG K H a xs/\ys.length<=i)(hz:xs.length<=sizeLine)
 (hs:∀i x ys H (N:List V->Hp->Prop),xs[i]? = some x->f i ys H->(∀c d,f (i+1) c d->N c d)->k (some x::cs) H λb o=>if b=true then r (some x::cs) o λy s=>N (ys++[y]) s else N ys o)
 (hd:∀ys H p d,f xs.length ys H->bc H p (.lst ys) d->Q (.ref p) d) :
 jc (i9 K a) H (List.replicate 1 none++cs) (eB 0) k r Q:=by
 refine⟨λi m ys σ H=>m=xs.length-i/\i<=xs.length/\f i ys H/\∃h,σ=h::cs,⟨xs.length,by simp,YS _,v,none,rfl⟩,?_⟩;rintro i m ys σ n ⟨rfl,u,p,h,rfl⟩;obtain⟨q,B⟩:=hl i ys n u p;by_cases hlt:i<xs.length
 ·refine .inr ⟨⟨xs,xs[i],q,by simp[hlt]⟩,by omega,λc l d=>f (i+1) c d/\∃h,l=h::cs,λc l d ⟨j,e⟩=>⟨xs.length-(i+1),by omega,rfl,hlt,j,e⟩,λx d y=>?_⟩;obtain⟨e,y⟩:=y;subst e;exact hs i x ys d (λc d=>f (i+1) c d/\∃h,some x::cs=h::cs) (y xs q) p λ_ _ z=>⟨z,_,rfl⟩
 ·have e:i=xs.length:=by omega
  subst e;exact .inl ⟨⟨xs,q,Ym _⟩,by omega,λj d g=>hd ys n j d p g⟩
def FI{lo:Int}{n:Nat}{cs:St}{j:TT}{q:TE}{H:Hp}{Q:VK}(d:Nat->List V->Hp->Prop)(u:d 0 [] H)(hl:∀i ys H,i<=n->d i ys H->ys.length<=i)(hz:n<=sizeLine)
 (hs:∀i ys H (N:List V->Hp->Prop),i<n->d i ys H->(∀a c,d (i+1) a c->N a c)->j (some (.int (lo+i))::cs) H λb o=>if b=true then q (some (.int (lo+i))::cs) o λy r=>N (ys++[y]) r else N ys o)
 (hd:∀ys H p c,d n ys H->bc H p (.lst ys) c->Q (.ref p) c) :
 jc (iC lo n) H (List.replicate 1 none++cs) (eB 0) j q Q:=by
 refine⟨λi m ys σ H=>m=n-i/\i<=n/\d i ys H/\∃f,σ=f::cs,⟨n,by simp,YS _,u,none,rfl⟩,?_⟩;rintro i m ys σ l ⟨rfl,s,p,f,rfl⟩;have v:=hl i ys l s p;by_cases hlt:i<n
 ·refine .inr ⟨hlt,by omega,λa k c=>d (i+1) a c/\∃f,k=f::cs,λa k c ⟨h,e⟩=>⟨n-(i+1),by omega,rfl,hlt,h,e⟩,λx c y=>?_⟩;obtain⟨e,y⟩:=y;subst e y;exact hs i ys c (λa c=>d (i+1) a c/\∃f,some (V.int (lo+i))::cs=f::cs) hlt p λ_ _ z=>⟨z,_,rfl⟩
 ·have e:i=n:=by omega
  subst e;exact .inl ⟨Ym _,by omega,λh c g=>hd ys l h c p g⟩
def gz{α:Type}(xs:List α)(lo a:Option Int):List α:=(xs.drop (HT.sIx xs.length 0 lo)).take (HT.sIx xs.length xs.length a-HT.sIx xs.length 0 lo)
def Td{α β:Type}(f:α->β)(xs:List α)(lo a:Option Int):gz (xs.map f) lo a=(gz xs lo a).map f:=by
 unfold gz;rw[Yl,Zx,Zy]
def oS{α:Type}(xs:List α)(k:Nat):gz xs none (some (k:Int))=xs.take k:=by
 unfold gz HT.sIx;simp only [ZX,Nat.sub_zero];have h:¬((k:Int)<0):=by omega
 rw[on h,Zw,<- a0c,Yy]
def i3{α:Type}(xs:List α)(k:Nat):gz xs (some (k:Int)) none=xs.drop k:=by
 unfold gz HT.sIx;have h:¬((k:Int)<0):=by omega
 dsimp only;rw[on h,Zw];by_cases hk:k<=xs.length
 ·rw[Zz hk];exact YW (by simp)
 ·rw[a1a (by omega),List.drop_length,a1b,a1c (by omega)]
def oU{α:Type}(xs:List α)(k m:Nat):gz xs (some (k:Int)) (some ((k:Int)+(m:Int)))=(xs.drop k).take m:=by
 unfold gz HT.sIx;have h:¬((k:Int)<0):=by omega
 have h':¬((k:Int)+(m:Int)<0):=by omega
 have e:((k:Int)+(m:Int)).toNat=k+m:=by omega
 dsimp only;rw[on h,on h',Zw,e];by_cases hk:k<=xs.length
 ·rw[Zz hk];by_cases hm:k+m<=xs.length
  ·rw[Zz hm,ZW]
  ·rw[a1a (by omega),YW (by simp),YW (by simp;omega)]
 ·rw[a1a (by omega:xs.length<=k),List.drop_length,a1b,a1c (by omega),a1b]
def fg(ns a:f6):Int:=if ns=a then 0 else if HT.lexLt ns a=true then -1 else 1
def Pc(p a b:f6):HT.lexLt (p++a) (p++b)=HT.lexLt a b:=by
 induction p with
 | nil=>rfl
 | cons x p ih=>show (if x=x then HT.lexLt (p++a) (p++b) else _)=_;rw[aaa rfl,ih]
def V5(p a b:f6):fg (p++a) (p++b)=fg a b:=by
 unfold fg;rw[Pc];by_cases h:a=b
 ·rw[aaa h,aaa (by rw[h])]
 ·rw[on h,on (λe=>h (a2f e))]
def V2{x y:Int}(a b:f6)(h:x<y):fg (x::a) (y::b) = -1:=by
 unfold fg;rw[on (λe=>by injection e;omega)];have:HT.lexLt (x::a) (y::b)=true:=by
  show (if x=y then _ else decide (x<y))=true;rw[on (by omega),aad h]
 rw[aaa this]
def V3{x y:Int}(a b:f6)(h:y<x):fg (x::a) (y::b)=1:=by
 unfold fg;rw[on (λe=>by injection e;omega)];have:¬HT.lexLt (x::a) (y::b)=true:=by
  show ¬(if x=y then _ else decide (x<y))=true;rw[on (by omega),aae (by omega)];exact YC
 rw[on this]
def V0(a:f6):fg a a=0:=by unfold fg;rw[aaa rfl]
def dL(ns:f6)(lo a:Option Int):cn (ns.map V.int) lo a=(gz ns lo a).map V.int:=Td _ _ _ _
def rm(ns a:f6):PyData.eqv (.list (ns.map PyData.int)) (.list (a.map PyData.int))=decide (ns=a):=by
 show PyData.eqvAll _ _=_;exact W.ked_eqvAll ns a
def SN{K:W.Frag}{H:Hp}{a b:Addr}{ns c:f6}{neg:Bool}{Q:VK}(e:aG K H a (ns.map V.int))(d:aG K H b (c.map V.int))(q:Q (.bl (if neg then !decide (ns=c) else decide (ns=c))) H) :
 oj K neg (.ref a) (.ref b) H Q:=by
 refine⟨_,_,aO.lst e (cu.ints ns),aO.lst d (cu.ints c),W.ke_shaped_ints ns,W.ke_shaped_ints c,?_⟩;rw[rm];exact q
def V4(x y:Int)(a b:f6):fg (x::a) (y::b)=if x=y then fg a b else if x<y then -1 else 1:=by
 by_cases h:x=y
 ·subst h;rw[aaa rfl];exact V5 [x] a b
 ·rw[on h];by_cases h':x<y
  ·rw[aaa h',V2 _ _ h']
  ·rw[on h',V3 _ _ (by omega)]
def V1:fg [] []=0:=V0 []
def VZ{ns a:f6}:fg ns a=0 ↔ ns=a:=by
 unfold fg;by_cases h:ns=a
 ·simp[h]
 ·rw[on h]
  constructor
  ·intro e
   split at e<;>omega
  ·exact λe=>aab e h
structure QE (X:Cx) (e:Expr) (t:TE):Prop where
 h:PE X e t
structure QT (X:Cx) (e:Expr) (t:TT):Prop where
 h:PT X e t
structure QW (X:Cx) (e:Expr) (t:TT):Prop where
 h:PW X e t
structure QA (X:Cx) (es:List Expr) (t:TA):Prop where
 h:PA X es t
structure QS (X:Cx) (st:Stmt) (t:TS):Prop where
 h:PS X st t
structure gF (X:Cx) (st:List Stmt) (t:TS):Prop where
 h:fo X st t
structure QG (X:Cx) (e:Expr) (t:TG):Prop where
 h:PG X e t
structure pB (X:Cx) (es:List Expr) (t:hZ):Prop where
 h:pC X es t
structure QI (X:Cx) (tg e:Expr) (t:TI):Prop where
 h:PI X tg e t
structure QO (X:Cx) (e:Option Expr) (t:TO):Prop where
 h:PO X e t
structure tS (X:Cx) (es:List Expr) (t:TT):Prop where
 h:mZ X es t
section
variable {X:Cx}{a b c e o:Expr}{es bL:List Expr}{pos p p2:Pos}{ta tb tc te to:TE}{tA tB' tt:TT}{t tk:TA}
def aj{i j pos}:QE X (.Constant (.int i) j pos) (tC (.int i)):=⟨qk⟩
def dW{b j pos}:QE X (.Constant (.bool b) j pos) (tC (.bl b)):=⟨Ds⟩
def ce{j pos}:QE X (.Constant .none j pos) (tC .non):=⟨Do⟩
def dC{x j pos}:QE X (.Constant (.str x) j pos) (tC (.str x)):=⟨Dn⟩
def aa(i:Nat){x:Str}(hN:X.N[i]? = some x:=by rfl)(b:tQ X.env.scope x:=by first|exact Or.inl rfl|exact Or.inr (Or.inl rfl)|exact Or.inr (Or.inr rfl))(hd:(x == ("__debug__" : Str))=false:=by decide)
 (a:(x == ("__classdict__" : Str))=false:=by decide):QE X (.Name x pos) (mV i):=⟨vv i hN b hd a⟩
def bE{x:Str}{n:Int}{u:Tok}(hm:X.mg x=some (.int n u))(a:Gl X x:=by rfl)(hd:(x == ("__debug__" : Str))=false:=by decide):QE X (.Name x pos) (tC (.int n)):=⟨gi hm a hd⟩
def fG {x:Str} {v:V} {u:Value} (a:Gl X x) (hm:X.mg x=some u) (r:aT v u) (hd:(x == ("__debug__" : Str))=false:=by decide):QE X (.Name x pos) (tC v):=⟨Dq a hm r hd⟩
def nK {x:Str} {T:String} (b:Gl X x) (hm:X.mg x=none) (c:bootBuiltins x=some (.type T)) (a:x ≠ "__name__":=by decide) (hd:(x == ("__debug__" : Str))=false:=by decide):QE X (.Name x pos) (tC (.ty T)):=⟨T6 b hm c a hd⟩
def dF{j:Int}{k:Nat}(c:QE X a ta)(b:0<j/\j<1073741824:=by decide):QE X (.BinOp a .FloorDiv (.Constant (.int j) k p) pos) (D5 j ta):=⟨OX c.h b⟩
def cU{j:Int}{k:Nat}(c:QE X a ta)(b:0<j:=by decide):QE X (.BinOp a .Mod (.Constant (.int j) k p) pos) (D3 j ta):=⟨OV c.h b⟩
def az{c:Operator}{r:R2}(d:bb X (binaryOp c) r)(e:QE X a ta)(hb:QE X b tb):QE X (.BinOp a c b pos) (iF r ta tb):=⟨MN d e.h hb.h⟩
def C9{b:UnaryOp}{r:V->Hp->VK->Prop}(c:pz X (unaryOp b) r)(d:QE X a ta):QE X (.UnaryOp b a pos) (BO r ta):=⟨ML c d.h⟩
def Dc(b:QE X a ta):QE X (.UnaryOp .Not a pos) (D2 ta):=⟨OU b.h⟩
def gQ(c:QE X a ta)(hb:QE X (.BoolOp .And (b::bL) pos) tb):QE X (.BoolOp .And (a::b::bL) pos) (D7 ta tb):=⟨O0 c.h hb.h⟩
def qg(c:QE X a ta)(hb:QE X (.BoolOp .Or (b::bL) pos) tb):QE X (.BoolOp .Or (a::b::bL) pos) (D1 ta tb):=⟨OT c.h hb.h⟩
def ii{op}(h:QE X a ta):QE X (.BoolOp op [a] pos) ta:=⟨MO h.h⟩
def iM{c:CmpOp}{r:R2}(d:bb X (compareOp c) r)(e:QE X a ta)(hb:QE X b tb)(hm:behindInMarks c b=false):QE X (.Compare a [c] [b] pos) (iF r ta tb):=⟨M3 d e.h hb.h hm⟩
def nJ{f d:CmpOp}{r g:R2}(k:bb X (compareOp f) r)(e:bb X (compareOp d) g)(i:QE X a ta)(hb:QE X b tb)(j:QE X c tc)
 (hm:lastMarks [f,d] [b,c]=false:=by with_unfolding_all rfl):QE X (.Compare a [f,d] [b,c] pos) (qB r g ta tb tc):=⟨OZ k e i.h hb.h j.h hm⟩
def gw(d:QT X c tA)(e:QE X a ta)(hb:QE X b tb):QE X (.IfExp c a b pos) (BY tA ta tb):=⟨MT d.h e.h hb.h⟩
def dG(h:QW X e tt):QT X e tt:=⟨PW.pt h.h⟩
def mD(b:QT X a tA):QW X (.BoolOp .And [a] pos) tA:=⟨L4 b.h⟩
def fU(b:QT X a tA):QW X (.BoolOp .Or [a] pos) tA:=⟨L1 b.h⟩
def jq(c:QT X a tA)(hb:QW X (.BoolOp .And (b::bL) pos) tB'):QW X (.BoolOp .And (a::b::bL) pos) (B7 tA tB'):=⟨L5 c.h hb.h⟩
def fV(c:QT X a tA)(hb:QW X (.BoolOp .Or (b::bL) pos) tB'):QW X (.BoolOp .Or (a::b::bL) pos) (BT tA tB'):=⟨L3 c.h hb.h⟩
def eS(b:QT X a tA):QT X (.UnaryOp .Not a pos) (BU tA):=⟨L9 b.h⟩
def aQ{c:CmpOp}{r:R2}(d:bb X (compareOp c) r)(e:QE X a ta)(hb:QE X b tb)(hm:behindInMarks c b=false):QT X (.Compare a [c] [b] pos) (mB (iF r ta tb)):=⟨NS d e.h hb.h hm⟩
def Db{f d:CmpOp}{r g:R2}(k:bb X (compareOp f) r)(e:bb X (compareOp d) g)(i:QE X a ta)(hb:QE X b tb)(j:QE X c tc)
 (hm:lastMarks [f,d] [b,c]=false:=by with_unfolding_all rfl):QT X (.Compare a [f,d] [b,c] pos) (mB (qB r g ta tb tc)):=⟨NT k e i.h hb.h j.h hm⟩
def dD(h:QE X e te)(he:∀whole,isTrue e X.env whole=(do let v <- whole;standAt e.pos;holding [v] (truthy v)):=by intro _;rfl):QT X e (mB te):=⟨NO h.h he⟩
def LU(h:QE X e te)(he:∀whole,isTrue e X.env whole=(do let v <- whole;standAt e.pos;holding [v] (truthy v)):=by intro _;rfl):QT X e (vj X.K te):=⟨NP h.h he⟩
def ad:QA X [] jL:=⟨Du⟩
def ab(a:QE X e te)(hr:QA X es t)(hs:dY e=false:=by rfl):QA X (e::es) (uj te t):=⟨Dw a.h hr.h hs⟩
def uQ{vs:List V}(h:rW es=some vs):QA X es (B5 vs):=⟨Dv h⟩
def aR(h:QA X es t):QE X (.List es pos) (D4 t):=⟨OW h.h⟩
def cm{x1}(h:QA X es t):QE X (.Tuple es x1 pos) (DZ t):=⟨OR h.h⟩
def De:QE X (.Dict [] [] pos) D6:=⟨OY⟩
def dU:QO X none BV:=⟨Mw⟩
def bU(h:QE X e te):QO X (some e) (BS te):=⟨Mv h.h⟩
def cD{r:V->Option Int->Option Int->Hp->VK->Prop}{lo b:Option Expr}{tl a:TO}(hr:i6 X r)(he:QE X e te)(hl:QO X lo tl)(c:QO X b a):QE X (.Subscript e (.Slice lo b none p2) pos) (BP r te tl a):=⟨MM hr he.h hl.h c.h⟩
def aE{r:R2}(hr:fL X r)(c:QE X a ta)(hb:QE X b tb)(hs:Gn b):QE X (.Subscript a b pos) (iF r ta tb):=⟨MS hr c.h hb.h hs⟩
section
variable {k j:Nat}{f:Addr}{fd:FuncData}{ps:List Str}{sp:Sp}{x:Str}
def aD(F:bz X.prog X.w X.K X.mg X.base x j f fd ps sp)(hr:bS k X.A)(c:QA X (e::es) t)(d:j<=k:=by decide)(g:Gl X x:=by rfl)
 (a:(x == ("__debug__" : Str))=false:=by decide) (b:di (e::es)=true:=by rfl):QE X (.Call (.Name x p) (e::es) [] pos) (jM sp [] E0 t):=⟨Tx F hr c.h d g a b⟩
def bu{id:String}{r:List V->Hp->VK->Prop}(d:cG X (.builtin id) r)(hm:X.mg x=none)(f:bootBuiltins x=some (.builtin id))(c:QA X (e::es) t)(g:Gl X x:=by rfl)(hx:x ≠ "__name__":=by decide)(a:(x == ("__debug__" : Str))=false:=by decide)
 (b:di (e::es)=true:=by rfl):QE X (.Call (.Name x p) (e::es) [] pos) (jN r t):=⟨Tv d hm f c.h g hx a b⟩
def eV{T:String}{r:List V->Hp->VK->Prop}(d:cG X (.type T) r)(hm:X.mg x=none)(f:bootBuiltins x=some (.type T))(c:QA X (e::es) t)(g:Gl X x:=by rfl)(hx:x ≠ "__name__":=by decide)(a:(x == ("__debug__" : Str))=false:=by decide)
 (b:di (e::es)=true:=by rfl):QE X (.Call (.Name x p) (e::es) [] pos) (jN r t):=⟨Tr d hm f c.h g hx a b⟩
end
section
variable {name:Str}{apos cpos:Pos}{T id:String}{r:V->List V->Hp->VK->Prop}
def LS (d:PlainAttrs T) (slot:Slot T name id) (c:typeOf (.builtin id)=pure (.type "method_descriptor")) (hm:eK X id r) (e:QE X o to)
 (a:attributeBase o name X.env (eval o X.env)=eval o X.env:=by rfl) (b:(apos.endLine == cpos.line)=true:=by rfl):QE X (.Call (.Attribute o name apos) [] [] cpos) (uk X.K T r to):=⟨M6 d slot c hm e.h a b⟩
theorem DG{env:Env}{pos:Pos}:∀ {a:List Expr},di a=true->(backTo pos (starEach a env)).all (λx=>!x.1)=true
 | [],_=>rfl
 | e::r,h=>by
  obtain⟨c,b⟩:=du h;rw[cS c];show (!false && (backTo pos (starEach r env)).all (λx=>!x.1))=true;rw[DG b]
  rfl
def LT (g:PlainAttrs T) (slot:Slot T name id) (d:typeOf (.builtin id)=pure (.type "method_descriptor")) (hm:eK X id r) (j:QE X o to) (i:QA X (e::es) t)
 (a:attributeBase o name X.env (eval o X.env)=eval o X.env:=by rfl) (c:di (e::es)=true:=by rfl) (f:decide ((e::es).length+0+0<30)=true:=by rfl)
 (b:(apos.endLine == cpos.line)=true:=by rfl):QE X (.Call (.Attribute o name apos) (e::es) [] cpos) (ul X.K T r to t) :=
 ⟨M7 g slot d hm j.h i.h a (by rw[DG c];exact f) b (cS (du c).1) (gU (du c).2)⟩
end
section
variable {st:Stmt}{sts ss2:List Stmt}{s t1 u1:TS}{tg it:Expr}{g:TG}{gs:hZ}{wi:TI}
def aN:gF X [] nh:=⟨Mb⟩
def af(b:QS X st t1)(a:gF X sts u1):gF X (st::sts) (m9 t1 u1):=⟨Mc b.h a.h⟩
def ag(a:QS X st t1):gF X [st] t1:=⟨Ma a.h⟩
def eU:QS X st BW:=⟨Mh⟩
def C5:QS X (.Break pos) B6:=⟨Mp⟩
def am(he:QE X e te):QS X (.Return (some e) pos) (BR te):=⟨Mg he.h⟩
def ck(he:QE X e te)(hs:swapsWith e none pos.line X.env=pure false:=by rfl):QS X (.Expr e pos) (B1 te):=⟨Mn he.h hs⟩
def aL(a:QT X c tA)(b:gF X sts t1)(hb:gF X ss2 u1):QS X (.If c sts ss2 pos) (iG tA t1 u1):=⟨Mi a.h b.h hb.h⟩
def aP{i:Nat}{x:Str}{a:Pos}(hN:X.N.Nodup)(c:X.N[i]? = some x)(hx:i7 X.env.scope x)(he:QE X e te)(hs:swapsWith e (some (.Name x a)) pos.line X.env=pure false:=by rfl)(b:X.fn x=true\/X.env.scope.names.lookup x=some .local:=by first|exact .inl rfl|exact .inr rfl|assumption) :
 QS X (.Assign [.Name x a] e pos) (jO te (eB i)):=⟨Mf hN c hx he.h hs b⟩
def C6(he:QE X e te)(a:QG X tg g)(hs:swapsWithSole [tg] e pos.line X.env=pure false:=by rfl)(hw:swappedStores [tg] e X.env=pure none:=by rfl)
 (b:(assignEach [tg] X.env).map (·.2)=[assign tg X.env]:=by rfl):QS X (.Assign [tg] e pos) (jO te g):=⟨Mq he.h a.h hs hw b⟩
def bi{i:Nat}{x:Str}(hN:X.N.Nodup)(b:X.N[i]? = some x)(hx:i7 X.env.scope x)(a:X.fn x=true\/X.env.scope.names.lookup x=some .local:=by first|exact .inl rfl|exact .inr rfl|assumption):QG X (.Name x pos) (eB i):=⟨MJ hN b hx a⟩
def fE:pB X [] vK:=⟨MG⟩
def cC(b:QG X e g)(a:pB X es gs)(hs:(assignEach (e::es) X.env).map (·.2)=assign e X.env::(assignEach es X.env).map (·.2):=by rfl):pB X (e::es) (qT g gs):=⟨MH b.h a.h hs⟩
def LR{k n:Nat}(b:X.calm=true)(h:pB X es gs)(a:(assignEach es X.env).length=n:=by rfl)(hst:(assignEach es X.env).findIdx? (·.1)=none:=by rfl):QG X (.Tuple es k pos) (qP X.K n gs):=⟨MI b h.h a hst⟩
def LQ{l:Expr}{tl:TE}(hl:QE X l tl):QI X tg l (vx X.K tl):=⟨ME hl.h⟩
def LP{l:Expr}{tl:TE}(hl:QE X l tl):QI X tg l (vw X.K tl):=⟨MA hl.h⟩
def nI (b:Gl X "range") (hm:X.mg "range" = none) (c:QA X [a] t) (hs:dY a=false:=by rfl):QI X tg (.Call (.Name "range" p) [a] [] pos) (Er t):=⟨MD b hm c.h (cS hs)⟩
def C8 (d:Gl X "range") (hm:X.mg "range" = none) (e:QA X [a,b] t) (hs:dY a=false:=by rfl) (c:dY b=false:=by rfl):QI X tg (.Call (.Name "range" p) [a,b] [] pos) (Ep t) :=
 ⟨MC d hm e.h (by rw[cS hs,cS c];rfl) (cS c)⟩
def cq{body:List Stmt}{a:TS}(b:PassesOwn (model X.prog X.w) X.A X.env X.xe)(d:X.calm=true)(c:QI X tg it wi)(e:QG X tg g)(hb:gF X body a)
 (hs:∀x,foldedSetIterable it X.env x=pure x:=by intro _;rfl):QS X (.For tg it body [] pos) (BZ wi g a):=⟨Mj b d c.h e.h hb.h hs⟩
def LO{body:List Stmt}{a:TS}(d:PassesOwn (model X.prog X.w) X.A X.env X.xe)(b:QT X c tA)(hb:gF X body a):QS X (.While c body [] pos) (BN tA a):=⟨Md d b.h hb.h⟩
def fD:tS X [] iE:=⟨L8⟩
def LN(h:QT X c tA):tS X [c] tA:=⟨L7 h.h⟩
def iL{scope:Scope}{Nc:List Str}{nv:Nat}{caps:List Nat}{a:List Expr}(c:X.calm=true)(S:cZ X Nc nv caps scope)(b:QI X tg it wi)
 (f:∀C s H fp,QG (cN X Nc scope C s H fp) tg g) (d:∀C s H fp,tS (cN X Nc scope C s H fp) a tt) (he:∀C s H fp,QE (cN X Nc scope C s H fp) e te)
 (hs:∀x,foldedSetIterable it X.env x=pure x:=by intro _;rfl):QE X (.ListComp e [⟨tg,it,a,0⟩] scope pos) (pS nv caps wi g tt te) :=
 ⟨M0 c S b.h (λC s H fp=>(f C s H fp).h) (λC s H fp=>(d C s H fp).h) (λC s H fp=>(he C s H fp).h) hs⟩
def mE{scope:Scope}{Nc:List Str}{nv:Nat}{caps:List Nat}{b:List Expr}{a d:Pos}{i:Nat}{y:Str}(hN:X.N.Nodup)(k:X.N[i]? = some y)(hx:i7 X.env.scope y)(l:X.calm=true)(S:cZ X Nc nv caps scope)(j:QI X tg it wi)
 (n:∀C s H fp,QG (cN X Nc scope C s H fp) tg g) (m:∀C s H fp,tS (cN X Nc scope C s H fp) b tt) (he:∀C s H fp,QE (cN X Nc scope C s H fp) e te)
 (c:swapsWith (.ListComp e [⟨tg,it,b,0⟩] scope pos) (some (.Name y d)) a.line X.env=pure true:=by rfl)
 (hs:∀x,foldedSetIterable it X.env x=pure x:=by intro _;rfl) (f:X.fn y=true\/X.env.scope.names.lookup y=some .local:=by first|exact .inl rfl|exact .inr rfl|assumption) :
 QS X (.Assign [.Name y d] (.ListComp e [⟨tg,it,b,0⟩] scope pos) a) (jO (pS nv caps wi g tt te) (eB i)) :=
 ⟨Me hN k hx l S j.h (λC s H fp=>(n C s H fp).h) (λC s H fp=>(m C s H fp).h) (λC s H fp=>(he C s H fp).h) c hs f⟩
end
end
section
variable {X:Cx}{K:W.Frag}{a b c e o:Expr}{es bL:List Expr}{pos p p2:Pos}{ta tb tc te to:TE}{tA tB' tt:TT}{t tk:TA}
def aF(h:X.K=K):fL X (Fc K):=by subst h;exact R9
def cJ(h:X.K=K):i6 X (Fa K):=by subst h;exact RQ
def bj(h:X.K=K):bb X (binaryOp .Add) (Fi K):=by subst h;exact Sz
def cf(h:X.K=K)(a:X.A.units+64<cLine):bb X (compareOp .Eq) (oj K false):=by subst h;exact So a
def gZ(h:X.K=K)(a:X.A.units+64<cLine):bb X (compareOp .NotEq) (oj K true):=by subst h;exact RZ a
def E8(h:X.K=K):bb X (compareOp .In) (qQ K false):=by subst h;exact Sk
def E6(h:X.K=K):bb X (compareOp .NotIn) (qQ K true):=by subst h;exact RY
def bD (h:X.K=K):cG X (.builtin "len") (vM K):=by subst h;exact TF
def gC (h:X.K=K):cG X (.type "list") (vL K):=by subst h;exact TD
def zA (h:X.K=K):cG X (.type "tuple") (vH K):=by subst h;exact Tz
def TK (h:X.K=K) (a:X.calm=true):cG X (.builtin "all") (vQ K false):=by subst h;exact TL a
def oY (h:X.K=K):cG X (.builtin "isinstance") (vO K):=by subst h;exact TJ
def gW (h:X.K=K):eK X "list.extend" (vP K):=by subst h;exact OP
def dE(h:X.K=K)(q:QE X e te)(he:∀whole,isTrue e X.env whole=(do let v <- whole;standAt e.pos;holding [v] (truthy v)):=by intro _;rfl):QT X e (vj K te):=by subst h;exact LU q he
def c8{tg l:Expr}{tl:TE}(h:X.K=K)(hl:QE X l tl):QI X tg l (vx K tl):=by subst h;exact LQ hl
def C7{tg l:Expr}{tl:TE}(h:X.K=K)(hl:QE X l tl):QI X tg l (vw K tl):=by subst h;exact LP hl
def fF{k n:Nat}{a:hZ}(h:X.K=K)(c:X.calm=true)(q:pB X es a)(b:(assignEach es X.env).length=n:=by rfl)(hst:(assignEach es X.env).findIdx? (·.1)=none:=by rfl):QG X (.Tuple es k pos) (qP K n a):=by subst h;exact LR c q b hst
def cT {name:Str} {b a:Pos} {T id:String} {r:V->List V->Hp->VK->Prop} (h:X.K=K) (j:PlainAttrs T) (slot:Slot T name id) (f:typeOf (.builtin id)=pure (.type "method_descriptor")) (hm:eK X id r) (l:QE X o to) (k:QA X (e::es) t)
 (c:attributeBase o name X.env (eval o X.env)=eval o X.env:=by rfl) (i:di (e::es)=true:=by rfl) (g:decide ((e::es).length+0+0<30)=true:=by rfl)
 (d:(b.endLine == a.line)=true:=by rfl):QE X (.Call (.Attribute o name b) (e::es) [] a) (ul K T r to t):=by subst h;exact LT j slot f hm l k c i g d
def Da {name:Str} {b a:Pos} {T id:String} {r:V->List V->Hp->VK->Prop} (h:X.K=K) (f:PlainAttrs T) (slot:Slot T name id) (e:typeOf (.builtin id)=pure (.type "method_descriptor")) (hm:eK X id r) (g:QE X o to)
 (c:attributeBase o name X.env (eval o X.env)=eval o X.env:=by rfl) (d:(b.endLine == a.line)=true:=by rfl):QE X (.Call (.Attribute o name b) [] [] a) (uk K T r to):=by subst h;exact LS f slot e hm g c d
end
def aH.okQ{P:Program}{w:World}{K:W.Frag}{mg:Str->Option Value}{base:Heap}{x qual:Str}{st:Stmt}{f:Addr}{c:FuncData}{N ps:List Str}{k:Nat}{sp:Sp}(F:aH K x qual st f c)(S:ax N ps (ae st))(len:∀vs H Q E,sp vs H Q E->vs.length=ps.length)
 (b:∀(a:Value) (A:Around) (outer:List Env) (s:g0) (H:Hp) (vs:List V) (Q:VK) (E:XK),bS k (A.deeper (envOfC qual (ae st) s.heap.objs.size f a))->sp vs H Q E ->
   ∃t,gF (i0 bO P w K mg base N qual (ae st) f a A outer s H E).nox (aq st) t/\t { nx:=λ_ d=>Q .non d,rt:=Q } (gL N vs) H):bH P w K mg base bO (k+1) f c ps sp :=
 F.ok S len λa A outer s H vs Q E hr h=>let ⟨t,q,r⟩:=b a A outer s H vs Q E hr h;⟨t,q.h,r⟩
section
variable {X:Cx}{pins:List (Addr × Obj)}{σ:St}{H:Hp}{s:g0}{h':Heap}
def ai.turnedL{t':Nat}{fp:List Addr}(I:ai X pins σ H s)(k:∀b o,b∉fp->s.heap.get? b=some o->h'.get? b=some o)(f:∀b∈fp,fM X pins H b):ai X pins σ H { s with heap:=h',toks:=t' }:=by
 have d:∀b u,H b=some u->b∉fp:=λb u e z=>by rw[(f b z).1]at e;cases e
 refine I.step (g':=s.gens) (d':=s.drawn) (ch:=fp) (λb hb=>?_) (λb o _ _ a e _=>k b o a e) (λb o _ _ a e _=>⟨o.slots,k b o a e⟩) (λ_ _ _ _ n=>n) (λb o a e=>⟨o,k b o a e⟩) (λ_ _ e=>e) (λ_ _ _ e=>e) (λb ps e=>⟨#[],by rw[e];simp⟩) (λm hm=>?_) (λb u e=>?_) I.bare
 ·obtain⟨y,g,B,x,h,i⟩:=f b hb;exact⟨x,g,h,i⟩
 ·obtain⟨o,l,p,j,r⟩:=hm;exact⟨o,l,p,k _ o (λz=>(f _ z).2.1 rfl) j,r⟩
 ·refine (I.hok b u e).stay (λc v a q=>k c v ?_ q) (λ_ q=>q) λ_ _ q=>q;rcases a with z|z
  ·rw[z];exact d b u e
  ·exact d c _ z
def ai.turnedN{t':Nat}{fp:List Addr}{T:Addr}{d:HO}(I:ai X pins σ H s)(k:∀b o,b∉fp->s.heap.get? b=some o->h'.get? b=some o)(c:∀b∈fp,fM X pins H b)(hT:s.heap.objs.size<=T)
 (new:ci X.prog X.w (upd H T d) h' T d):ai X pins σ (upd H T d) { s with heap:=h',toks:=t' }:=by
 have v:ai X pins σ H { s with heap:=h',toks:=t' }:=I.turnedL k c;have f:H T=none:=I.hok.fresh hT;have ne:∀b u,H b=some u->b≠T:=λb u e z=>by rw[z,f]at e;cases e
 refine I.step (g':=s.gens) (d':=s.drawn) (ch:=fp) (λb hb=>?_) (λb o _ _ a e _=>k b o a e) (λb o _ _ a e _=>⟨o.slots,k b o a e⟩) (λb o _ e n=>?_) (λb o a e=>⟨o,k b o a e⟩) (λb xs e=>by rw[ay (ne b _ e)];exact e) (λb o u e=>by rw[ay (ne b _ e)];exact e) (λb ps e=>⟨#[],by rw[ay (ne b _ e),e];simp⟩) (λm hm=>?_) (v.hok.adopt f new) I.bare
 ·obtain⟨x,g,y,q,h,i⟩:=c b hb;exact⟨q,g,h,i⟩
 ·rw[ay (λz=>aab (Yn (Ys e) (by rw[z];exact hT)) (Y5 _))];exact n
 ·obtain⟨o,l,p,j,r⟩:=hm;exact⟨o,l,p,k _ o (λz=>(c _ z).2.1 rfl) j,r⟩
end
def m4(K:W.Frag)(a:Addr):It :=
 ⟨λi H=>∃xs x,aG K H a xs/\xs[i]? = some x,λi H x b=>∃p v,x=.ref p/\(∀xs,aG K H a xs->xs[i]? = some v)/\bc H p (.tup [.int (i:Int),v]) b,λi H=>∃xs,aG K H a xs/\xs.length<=i⟩
def M9{P:Program}{w:World}{H:Hp}{h:Heap}{T:Addr}{c a:V}{b u2:Value}(hT:h.IsTuple T #[b,u2])(d:aT c b)(e:aT a u2):ci P w (upd H T (.tup [c,a])) h T (.tup [c,a]):=by
 refine⟨sz rfl,[b,u2],.cons d (.cons e .nil),?_⟩;exact hT
def Iz{P:Program}{w:World}{K:W.Frag}{es:List Expr}{V:Nat}{pp:Pos}(a e it:Addr)(F:e≠it):jE P w K (.Tuple es V pp) (m4 K a) [e,it] e (λi h=>(∃f,IsEnum h e it i f)/\h.IsListIter it a i) where
 mem:=by simp
 obj:=λi h st b hb=>by
  obtain⟨⟨f,l⟩,o,e2,c,d⟩:=st;have n:b=e\/b=it:=by simpa using hb
  rcases n with z|z
  ·subst z;exact⟨_,l,λv z=>by cases (show Data.fields _=Data.cell v from z)⟩
  ·subst z;exact⟨o,e2,λv z=>by rw[d]at z;cases z⟩
 keep:=λi h h' st k=>by
  obtain⟨⟨f,l⟩,q⟩:=st
  exact⟨⟨f,k e (by simp) _ l⟩,q.at λo x=>k it (by simp) o x⟩
 item:=by
  intro X hP hw hK U i g s σ H E I G st O;subst hP hw hK;obtain⟨⟨f,l⟩,q⟩:=st;obtain⟨xs,x,J,hx⟩:=O;obtain⟨M,R,p,hz⟩:=I.list J;obtain⟨u,hu,ru⟩:=R.get hx;have j:e<s.heap.objs.size:=Ys l;have r:it<s.heap.objs.size:=by obtain⟨_,z,_⟩:=q;exact Ys z
  refine wpAny_pyNext_enum_item l q p.isList (x:=u) (by simpa using hu) F λh' ho D hT hsz Y=>?_;refine⟨_,rfl,wpAny_letOwnedTupleGo_enum (s:={ s with heap:=h',toks:=s.toks+1 }) ho λB N m=>?_⟩;have hTe:s.heap.objs.size≠e:=Z9 j;have hT2:B.get? s.heap.objs.size=some { cls:=.type "tuple",data:=.seq #[.int i s.toks,u] }:=(m.2 _ hTe).trans hT;have I2:ai X g σ (upd H s.heap.objs.size (.tup [.int (i:Int),x])) { s with heap:=B,toks:=s.toks+1 }:=by
   refine I.turnedN (fp:=[e,it]) (λb o hb S=>?_) G (Ym _) (M9 ⟨_,hT2,rfl,_,rfl⟩ ⟨_,rfl⟩ ru);have C:b≠e:=λz=>hb (by simp[z]);have L:b≠it:=λz=>hb (by simp[z]);exact (m.2 b C).trans (Y b o C L S)
  refine⟨.ref s.heap.objs.size,_,I2,rfl,⟨_,x,rfl,λys hy=>by rw[I.list_inj hy J];exact hx,.mk' I.fresh⟩,⟨⟨_,by simpa using N⟩,D.at λo y=>(m.2 it F.symm).trans y⟩,λb hb=>?_⟩;have n:b=e\/b=it:=by simpa using hb
  rw[ay (by rcases n with z|z<;>(rw[z];first|exact YB j|exact YB r))];exact (G b hb).1
 done:=by
  intro X hP hw hK U i g s σ H E I G st O;subst hP hw hK;obtain⟨⟨f,l⟩,q⟩:=st;obtain⟨xs,J,hx⟩:=O;obtain⟨M,R,p,hz⟩:=I.list J;have hl:=R.length;refine wpAny_pyNext_enum_end (I.ok.hd U) l q p.isList (by simp;omega) λh' eb=>⟨rfl,I.turnedL (t':=s.toks) (fp:=[e,it]) (λb o hb S=>eb b o (λz=>hb (by simp[z])) S) G⟩
 self:=λ_ _ _ _ _ st h=>wpAny_pyIter_enum st.1.choose_spec h
def Et(K:W.Frag)(c:TA):TI:=λσ H R=>c σ H λvs b=>∃a xs,vs=[.ref a]/\aG K b a xs/\R (m4 K a) b
section
variable {X:Cx}{tg:Expr}{es:List Expr}{kk:Nat}{pp:Pos}
def MF {a:Expr} {k:TA} {p pos:Pos} (y:Gl X "enumerate") (hm:X.mg "enumerate" = none) (v:PA X [a] k) (hs:starEach [a] X.env=[(false,eval a X.env)]:=by rfl):PI X (.Tuple es kk pp) (.Call (.Name "enumerate" p) [a] [] pos) (Et X.K k):=by
 intro c s σ H R I h;refine Call_ (ir I y hm boot_enumerate (Zs (aB (v pos c s σ H _ I h) λus s1 ⟨vs,j,f,o,n⟩=>?_) hs rfl));obtain⟨l,xs,e,B,q⟩:=n;subst e;cases o with
 | cons r rr =>
  cases rr;cases r;obtain⟨m,C,pl,hz⟩:=f.list B;refine call_enumerate_list pl.isList λh' he g hsz x=>?_;refine wpAny_pyIter_enum (s:={ s1 with heap:=h' }) he ?_;have u:ai X c σ j { s1 with heap:=h' }:=f.kept (t':=s1.toks) x;refine⟨s1.heap.objs.size+1,[s1.heap.objs.size+1,s1.heap.objs.size],_,m4 X.K l,j,rfl,u,Iz l _ _ (Nat.succ_ne_self _),⟨⟨_,he⟩,g⟩,λb hb=>?_,q⟩;have i:b=s1.heap.objs.size+1\/b=s1.heap.objs.size:=by simpa using hb
  have d:s1.heap.objs.size<=b:=by
   rcases i with z|z
   ·rw[z];exact ZQ _
   ·rw[z];exact Ym _
  exact f.fpOk d (f.hok.fresh d)
end
def Ls:typeLookup (.type "list_reverseiterator") "__len__" = pure none:=by rw[typeLookup_type,builtinLookup_eq_fast];kernel_rfl
def Lu:typeLookup (.type "list_reverseiterator") "__length_hint__" = pure (some (.builtin "list_reverseiterator.__length_hint__")):=by rw[typeLookup_type,builtinLookup_eq_fast];kernel_rfl
section
variable {prog:Program}{w:World}{A:Around}{E:Value->g0->Prop}{s:g0}{r:Addr}
def Lv {Q:Bool->g0->Prop} (hT:s.TypeIs (.ref r) "list_reverseiterator") (h:Q false s):wpAny (model prog w) A (Builtin.List.listLengthHint (.ref r)) Q E s:=by
 unfold Builtin.List.listLengthHint;refine kb (wpAny_specialOf hT Ls ?_);show wpAny _ A (specialOf (Value.ref r) (Str.ofString "__length_hint__") >>= _) _ _ _;refine kb (wpAny_specialOf hT Lu ?_);generalize hid:("list_reverseiterator.__length_hint__" : String)=id0
 wp_delta
 rw[show splitId id0=some ("list_reverseiterator", "__length_hint__") from by subst hid;decide +kernel];subst hid;refine kb (wpAny_isInstance (T := "list_reverseiterator") (b:=true) hT (by rw[isSubtype_type];kernel_rfl) ?_);refine wpAny_ite_split (λa=>aab a (by decide)) (λ_=>?_);refine wpAny_ite_split (λ_=>?_) (λa=>aab (by decide +kernel) a);refine wpAny_ite_split (λa=>aab a (by decide +kernel)) (λ_=>?_);exact no h
def Lx{R:Result->g0->Prop}{l:Addr}{items:Array Value}(x:A.handled=none)(S:Addr)(res:Value)(q:Nat)(k:l≠r)(hSr:S≠r)(hSl:S≠l)(d:s.heap.IsRevIter r l ((items.size:Int)-1))(hl:s.heap.IsList l items)
 (hS:s.heap.get? S=some { cls:=.type "list",data:=.seq #[] q })
 (hR:∀h' tk a h,(∀b o,b≠S->b≠r->s.heap.get? b=some o->h'.get? b=some o)->h'.get? S=some { cls:=.type "list",dict:=none,data:=.seq a h,slots:=#[] }->ItemsOf (λi v=>items[items.size-1-i]? = some v) a items.size->R (.ok (.ret res)) { s with heap:=h',toks:=tk }) (u:items.size<=sizeLine) :
 wpAny (model prog w) A.in1 (Builtin.List.listExtendWith (.ref S) (.ref r) res)
  (λfin g=>match fin with|.done f=>R (.ok f) g|.again h=>h.quiet=true/\codeAny (model prog w) A h R g) (λe g=>R (.error e) g) s:=by
 have W:=(Walks.listRev (prog:=prog) (w:=w) (A:=A.in1) x r l k items);have hSf:S∉[r,l]:=by simp[hSr,hSl]
 unfold Builtin.List.listExtendWith;refine kb (wpAny_typeOf (T := "list_reverseiterator") d.typeIs ?_);have z:Builtin.List.listSameRef (.ref S) (.ref r)=false:=by simp[Builtin.List.listSameRef,hSr]
 have y:(Value.type "list_reverseiterator" == Value.type "list")=false:=by decide
 have B:(Value.type "list_reverseiterator" == Value.type "tuple")=false:=by decide
 simp only [z,y,B,Bool.or_false,a0z,if_false];refine kb (wpAny_pyIter_revIter d ?_);refine kb (wpAny_holding (Lv d.typeIs ?_));refine wpAny_ite_split (λp=>aab p (by decide +kernel)) (λ_=>no ⟨plainId_quiet PySem.F.plain_extend_loop _,?_⟩);refine codeAny_extend_loopS W.toS u S hSf res items.size 0 _ #[] q rfl (YS _) ⟨YS _,by simpa using d,hl⟩ hS (ItemsOf.nil _) λg a h hm n j=>?_;rw[Moved.eq_with hm];refine hR g.heap g.toks a h (λb o hb m e=>hm.heap b o (λc=>?_) e) n j;rcases Yz.mp c with e'|c
 ·exact hb e'
 ·exact m (YH.mp c)
def Ly{l:Addr}{items:Array Value}{Q:Value->g0->Prop}(u:A.handled=none)(g:l≠r)(d:s.heap.IsRevIter r l ((items.size:Int)-1))(hl:s.heap.IsList l items)(n:items.size<=sizeLine)
 (hQ:∀h' k a h,(∀b o,b≠r->s.heap.get? b=some o->h'.get? b=some o)->h'.get? s.heap.objs.size=some { cls:=.type "list",dict:=none,data:=.seq a h,slots:=#[] }->ItemsOf (λi v=>items[items.size-1-i]? = some v) a items.size->Q (.ref s.heap.objs.size) { s with heap:=h',toks:=k }) :
 wpAny (model prog w) A (call (.type "list") [.ref r]) Q E s:=by
 refine callType_codes (Q₁:=λobj m=>obj=.ref s.heap.objs.size/\m = { s with heap:=s.heap.push { cls:=.type "list",data:=.seq #[] } }) PySem.F.called_list (PySem.F.typeCall_list_1 _) PySem.F.entry_list_init
  (code_list_new _ ⟨rfl,rfl⟩) λobj m p=>?_
 obtain⟨rfl,rfl⟩:=p;have hS:(s.heap.push { cls:=.type "list",data:=.seq #[] }).get? s.heap.objs.size=some { cls:=.type "list",data:=.seq #[] }:=YR _ rfl;have lr:r<s.heap.objs.size:=by obtain⟨o,e,_⟩:=d;exact Ys e
 have ll:l<s.heap.objs.size:=by obtain⟨o,e,_⟩:=hl;exact Ys e
 refine⟨⟨_,hS,rfl⟩,PySem.F.args_list_init_2 _ _,?_⟩;show wpAny _ _ (do let old <- Builtin.List.listItems (.ref s.heap.objs.size);Builtin.List.listUpdate (.ref s.heap.objs.size) (λ_=>#[]);letGo old.toList.reverse;Builtin.List.listExtendWith (.ref s.heap.objs.size) (.ref r) .none) _ _ _;refine kb ?_;unfold Builtin.List.listItems;refine kb (wpAny_seqItems hS rfl (no ?_));show wpAny _ _ (updateSeq s.heap.objs.size (λ_=>#[]) >>= λ_=>letGo (#[]:Array Value).toList.reverse >>= λ_=>Builtin.List.listExtendWith (.ref s.heap.objs.size) (.ref r) .none) _ _ _;refine kb (wpAny_updateSeq hS rfl ?_);have hS₂:=Heap.get?_update_self (Obj.mapSeq (λ_=>(#[]:Array Value))) hS rfl;have c:∀b o,b≠s.heap.objs.size->s.heap.get? b=some o->((s.heap.push { cls:=.type "list",data:=.seq #[] }).update s.heap.objs.size (Obj.mapSeq (λ_=>(#[]:Array Value)))).get? b=some o :=
  λb o hb e=>(a0x _ _ (Ne.symm hb)).trans (YA _ e)
 refine kb (wpAny_letGo ?_);refine Lx (A:=A.in1) u _ .none _ g (Z9 lr) (Z9 ll) (d.at λo e=>c r o (YB lr) e) (hl.at λo e=>c l o (YB ll) e) hS₂ (λh' k a h q j f=>?_) n;exact⟨rfl,hQ h' k a h (λb o hb e=>q b o (YB (Ys e)) hb (c b o (YB (Ys e)) e)) j f⟩
end
def BQ(K:W.Frag)(c:TA):TE:=λσ H Q=>c σ H λvs b=>∃a xs,vs=[.ref a]/\aG K b a xs/\∀p H',bc b p (.lst xs.reverse) H'->Q (.ref p) H'
def OS {X:Cx} {a:Expr} {F:TA} {p1 y pos f:Pos} (S:X.calm=true) (D:Gl X "list") (C:X.mg "list" = none) (x:Gl X "reversed") (B:X.mg "reversed" = none) (O:PA X [a] F) (hs:starEach [a] X.env=[(false,eval a X.env)]:=by rfl)
 (p:starEach [.Call (.Name "reversed" y) [a] [] f] X.env=[(false,eval (.Call (.Name "reversed" y) [a] [] f) X.env)]:=by rfl):PE X (.Call (.Name "list" p1) [.Call (.Name "reversed" y) [a] [] f] [] pos) (BQ X.K F):=by
 intro g s σ H Q I h;refine Call_ (ir I D C boot_list (Zs ?_ p rfl));rw[p];refine Calls.spliced_cons (Call_ (ir I x B boot_reversed (Zs (aB (O f g s σ H _ I h) λus s1 ⟨vs,V,n,N,M⟩=>?_) hs rfl)));obtain⟨l,xs,e,W,q⟩:=M;subst e;cases N with
 | cons r rr =>
  cases rr;cases r;obtain⟨c,G,pl,hz⟩:=n.list W;have m:=G.length;refine call_reversed_list pl.isList (Calls.spliced_nil ?_);have ll:l<s1.heap.objs.size:=by obtain⟨o,_,e,_⟩:=pl;exact Ys e
  have R:ai X g σ V { s1 with heap:=s1.heap.push (revObj l ((c.toArray.size:Int)-1)) }:=n.kept (t':=s1.toks) λb o e=>YA _ e;refine Ly (s:={ s1 with heap:=s1.heap.push (revObj l ((c.toArray.size:Int)-1)) }) (items:=c.toArray) (I.ok.hd S) (YB ll) ⟨_,YR _ rfl,rfl,rfl⟩ (pl.isList.at λo e=>YA _ e) (by rw[Yv,<- m];exact hz) λh' U d J L hS j=>?_;have k:d.toList=c.reverse:=by
   refine ZY λi=>?_;have hn:d.size=c.length:=j.1.trans Yv;have Y:∀i v,d[i]? = some v->c.toArray[c.length-1-i]? = some v:=λi v e=>by
    have z:=j.2 i v e
    rwa [Yv]at z
   by_cases hlt:i<c.length
   ·have u:i<d.size:=by omega
    have e1:=Y i d[i] (a1d u);rw[a2g hlt,Array.getElem?_toList,a1d u,<- e1];simp
   ·rw[Zb (by rw[Z8];omega),Zb (by rw[a0y];omega)]
  have rr:aM xs.reverse c.reverse:=G.reverse;refine⟨.ref _,_,?_,rfl,q _ _ (.mk' R.fresh)⟩;refine n.turnedN (s:=s1) (fp:=[s1.heap.objs.size]) (t':=U) (λb o hb e=>L b o (λz=>hb (by simp[z])) (YA _ e)) (λb hb=>?_) ?_ ⟨by rw[a0y];exact hz,c.reverse,J,rr,?_⟩
  ·have e:b=s1.heap.objs.size:=by simpa using hb
   subst e;exact n.fpOk (Ym _) n.fresh
  ·exact YK (ZQ _) (ZP (ZG _ _).symm)
  ·have e:d=c.reverse.toArray:=by rw[<- k]
   rw[<- e];exact hS
def jI(lo c:Int)(n:Nat):It:=⟨λi _=>i<n,λi H x a=>a=H/\x=.int (lo+i*c),λi _=>n<=i⟩
def Iw{P:Program}{w:World}{K:W.Frag}{tg:Expr}(it:Addr)(lo c:Int)(n:Nat):jE P w K tg (jI lo c n) [it] it (λi h=>IsRangeIter h it (lo+(i:Nat)*c) ((n:Int)-(i:Nat)) c) where
 mem:=by simp
 obj:=λi h st b hb=>by
  have e:b=it:=by simpa using hb
  subst e;exact⟨_,st,λv z=>by
   have C:Data.fields _=Data.cell v:=z;cases C⟩
 keep:=λi h h' st k=>k it (by simp) _ st
 item:=by
  intro X hP hw hK p i a s σ H E I f st r;subst hP hw hK;obtain⟨m,g,x,q,j,l⟩:=f it (by simp);have W:=Walks.range (prog:=X.prog) (w:=X.w) (I.ok.hd p) it lo c n;refine W.item i s _ _ r st λv h' u B d y=>?_;obtain⟨t,rfl⟩:=B;have F:ai X a σ H { s with heap:=h',toks:=u }:=I.turned (λb o hb e=>y b o (by simpa using hb) e) m g q j l;exact⟨_,rfl,qL (s:={ s with heap:=h',toks:=u }) (n := "range_iterator") d rfl rfl (by decide) ⟨.int (lo+i*c),H,F,⟨t,rfl⟩,⟨rfl,rfl⟩,d,λb hb=>(f b hb).1⟩⟩
 done:=by
  intro X hP hw hK p i a s σ H E I f st r;subst hP hw hK;obtain⟨m,g,x,q,j,l⟩:=f it (by simp);exact wpAny_pyNext_range_end (I.ok.hd p) st (by have:n<=i:=r;omega) λh' D=>⟨rfl,I.turned (t':=s.toks) (λb o hb e=>D b o hb e) m g q j l⟩
 self:=λ_ _ _ _ _ st h=>wpAny_pyIter_rangeiter st h
def Eo(a:TA):TI:=λσ H R=>a σ H λvs b=>∃(n c:Nat),vs=[.int 0,.int (n:Int),.int (c:Int)]/\n<=1000000000/\0<c/\c<=1000000/\R (jI 0 (c:Int) ((n+(c-1))/c)) b
def Kd{n c:Nat}(d:n<=1000000000)(g:0<c)(f:c<=1000000):Builtin.Range.rangeSize 0 (n:Int) (c:Int)=(((n+(c-1))/c:Nat):Int)/\Builtin.Range.small 0 (n:Int) (c:Int)=true:=by
 have e:Builtin.Range.rangeSize 0 (n:Int) (c:Int)=(((n+(c-1))/c:Nat):Int):=by
  rw[rangeSize_pos (by omega) (by omega)];rw[Int.natCast_ediv]
  congr 1
  omega
 refine⟨e,?_⟩;have b:(n+(c-1))/c<=n+(c-1):=a1e _ _;have a:(((n+(c-1))/c:Nat):Int)*(c:Int)<=n+(c-1):=by
  have:=Nat.div_mul_le_self (n+(c-1)) c;rw[<- Int.natCast_mul];omega
 unfold Builtin.Range.small;rw[e];generalize (n+(c-1))/c=k at b a ⊢;simp only [Builtin.Range.rangeFitsLong,YT,Bool.or_eq_true,decide_eq_true_eq,beq_iff_eq];refine⟨by omega,Or.inr ?_⟩;rw[aaa (by omega)];simp only [YT,decide_eq_true_eq];omega
section
variable {X:Cx}{tg:Expr}
def MB {a b d:Expr} {m:TA} {p pos:Pos} (B:Gl X "range") (hm:X.mg "range" = none) (v:PA X [a,b,d] m) (hs:starEach [a,b,d] X.env=(false,eval a X.env)::starEach [b,d] X.env:=by rfl) (g:(backTo pos (starEach [b,d] X.env)).any (·.1)=false:=by rfl) :
 PI X tg (.Call (.Name "range" p) [a,b,d] [] pos) (Eo m):=by
 intro f s σ H R I h;refine Call_ (ir I B hm boot_range (Zs (aB (v pos f s σ H _ I h) λus s1 ⟨vs,l,C,u,i⟩=>?_) hs g));obtain⟨n,c,e,i,x,D,q⟩:=i;subst e;cases u with
 | cons r rr =>
  cases rr with
  | cons r' rr =>
   cases rr with
   | cons r'' rr =>
    cases rr;obtain⟨t,rfl⟩:=r;obtain⟨t',rfl⟩:=r';obtain⟨j,rfl⟩:=r'';obtain⟨e,sm⟩:=Kd i x D;refine call_range_3 (by omega) ?_ (Or.inl (a1y (by omega)));refine wpAny_pyIter_range (IsRange.new ..) sm ?_;have k:ai X f σ l { s1 with heap:=s1.heap.push { cls:=.type "range",data:=.fields #[.int 0 t,.int n t',.int c j] },toks:=s1.toks }:=C.kept λb o e=>YA _ e;refine⟨_,[_],_,_,l,rfl,k.kept (t':=s1.toks) λb o e=>YA _ e,Iw _ 0 (c:Int) ((n+(c-1))/c),?_,λb hb=>?_,q⟩
    ·show IsRangeIter _ _ (0+((0:Nat):Int)*_) ((((n+(c-1))/c:Nat):Int)-((0:Nat):Int)) _;have z:(0:Int)+((0:Nat):Int)*(c:Int)=0:=by simp
     have y:((((n+(c-1))/c:Nat):Int)-((0:Nat):Int))=Builtin.Range.rangeSize 0 (n:Int) (c:Int):=by rw[e];simp
     rw[z,y];exact YR _ rfl
    ·have e:=YH.mp hb;subst e;exact k.fpOk (Ym _) (k.hok.fresh (Ym _))
def Fl{lo c:Int}{n:Nat}{g:TG}{tb:TS}{D:fN}{σ:St}{H:Hp}(b:Nat->St->Hp->Prop)(k:b 0 σ H)
 (hs:∀i σ H,i<n->b i σ H->g (.int (lo+i*c)) σ H λd h=>tb { D with nx:=b (i+1),ct:=b (i+1),bk:=D.nx } d h) (hd:∀σ H,b n σ H->D.nx σ H) :
 ∃W:Nat->Nat->St->Hp->Prop,(∃m,W 0 m σ H)/\∀i m σ H,W i m σ H ->
  ((jI lo c n).stop i H/\D.nx σ H)\/((jI lo c n).go i H/\∃N:St->Hp->Prop,(∀f a,N f a->∃m',m'<m/\W (i+1) m' f a)/\∀x a,(jI lo c n).yld i H x a->g x σ a λd h=>tb { D with nx:=N,ct:=N,bk:=D.nx } d h):=by
 refine⟨λi m σ H=>m=n-i/\i<=n/\b i σ H,⟨n,by simp,YS _,k⟩,?_⟩;rintro i m σ H ⟨rfl,l,p⟩;by_cases hlt:i<n
 ·refine .inr ⟨hlt,b (i+1),λf a j=>⟨n-(i+1),by omega,rfl,hlt,j⟩,λx a y=>?_⟩;obtain⟨e,rfl⟩:=y;subst e;exact hs i σ a hlt p
 ·have e:i=n:=by omega
  subst e;exact .inl ⟨Ym _,hd σ H p⟩
def hG{K:W.Frag}{a:Addr}{xs:List V}{g:TG}{tb:TS}{D:fN}{σ:St}{H:Hp}(c:Nat->St->Hp->Prop)(n:c 0 σ H)(hl:∀i σ H,i<=xs.length->c i σ H->aG K H a xs)
 (hs:∀i x p σ H b,xs[i]? = some x->c i σ H->bc H p (.tup [.int (i:Int),x]) b->g (.ref p) σ b λd h=>tb { D with nx:=c (i+1),ct:=c (i+1),bk:=D.nx } d h) (hd:∀σ H,c xs.length σ H->D.nx σ H) :
 ∃W:Nat->Nat->St->Hp->Prop,(∃m,W 0 m σ H)/\∀i m σ H,W i m σ H ->
  ((m4 K a).stop i H/\D.nx σ H)\/((m4 K a).go i H/\∃N:St->Hp->Prop,(∀f b,N f b->∃m',m'<m/\W (i+1) m' f b)/\∀x b,(m4 K a).yld i H x b->g x σ b λd h=>tb { D with nx:=N,ct:=N,bk:=D.nx } d h):=by
 refine⟨λi m σ H=>m=xs.length-i/\i<=xs.length/\c i σ H,⟨xs.length,by simp,YS _,n⟩,?_⟩;rintro i m σ H ⟨rfl,k,p⟩;have q:=hl i σ H k p;by_cases hlt:i<xs.length
 ·refine .inr ⟨⟨xs,xs[i],q,by simp[hlt]⟩,c (i+1),λf b j=>⟨xs.length-(i+1),by omega,rfl,hlt,j⟩,λx b y=>?_⟩;obtain⟨pp,v,rfl,y,l⟩:=y;exact hs i v pp σ H b (y xs q) p l
 ·have e:i=xs.length:=by omega
  subst e;exact .inl ⟨⟨xs,q,Ym _⟩,hd σ H p⟩
end
def vJ(K:W.Frag):List V->Hp->VK->Prop:=λxs H Q=>match xs with
 | [.ref p]=>∃ns:f6,aG K H p (ns.map V.int)/\Q (.int ns.sum) H
 | _=>False
theorem Dm(ns:f6):∀k,k<=ns.length->preSum (λi=>(ns[i]?).getD 0) k=(ns.take k).sum
 | 0,_=>by simp[preSum]
 | k+1,h=>by
  have a:k<ns.length:=by omega
  rw[preSum,Dm ns k (by omega),<- List.take_append_getElem a,List.sum_append];simp[YM a]
def TC {X:Cx} (m:X.calm=true):cG X (.builtin "sum") (vJ X.K):=by
 intro h s σ H xs us Q I r q;unfold vJ at q
 split at q
 ·rename_i p;obtain⟨ns,C,q⟩:=q;obtain⟨u,rfl,l⟩:=iD r;cases l;obtain⟨a,j,pl,_⟩:=I.list C;have hl:=j.length;rw[Yl]at hl;have c:p<s.heap.objs.size:=by
   obtain⟨o,n,e,_⟩:=pl;exact Ys e
  have f:p≠s.heap.objs.size:=YB c;refine call_sum_walkG (wpAny_pyIter_list pl.isList ⟨s.heap.objs.size,_,_,_,_,_,λi=>(ns[i]?).getD 0,rfl,Walks.list (A:=X.A.in1) (show X.A.in1.handled=none from I.ok.hd m) s.heap.objs.size p f a.toArray,⟨⟨_,YR _ rfl,rfl,rfl⟩,?_⟩,λb hb=>?_,λi v g=>?_,λh' D t' k=>?_⟩)
  ·exact pl.isList.at λo e=>YA _ e
  ·have d:b=s.heap.objs.size\/b=p:=by simpa using hb
   show b<(s.heap.push _).objs.size;rw[ZG];rcases d with z|z
   ·rw[z];exact Yu _
   ·rw[z];exact Nat.lt_succ_of_lt c
  ·have F:i<a.length:=by
    have:=(a2e.mp g).1;simpa using this
   have hb:i<ns.length:=by omega
   obtain⟨u,y,B⟩:=j.get (i:=i) (x:=V.int ns[i]) (by simp[hb]);have e:a.toArray[i]? = some u:=by simpa using y
   rw[e]at g;cases g;obtain⟨t,rfl⟩:=B;exact⟨t,by simp[hb]⟩
  ·refine⟨.int ns.sum,H,I.kept (h':=h') (t':=D) λb o e=>k b o (λz=>?_) (YA _ e),⟨t',?_⟩,q⟩
   ·have e':b=s.heap.objs.size:=by simpa using z
    exact aab (Ys e) (by rw[e'];exact Y5 _)
   ·rw[Yv,<- hl,Dm ns _ (Ym _),Yy]
 ·exact q.elim
def Xb(i j:Int):Prop:=0<=j/\(Builtin.Int.intBits i:Int)+j<=2 ^ 27
def E4{X:Cx}:bb X (binaryOp .LShift) (gI Xb λi j=>.int (i*2 ^ j.toNat)):=qR (nO λ_ _ _ _ _ _ _ a q=>lshift_int a.1 a.2 q)
def Ff:V->List V->Hp->VK->Prop:=λx vs H Q=>match x,vs with
 | .int i,[]=>Q (.int (Builtin.Int.intBits i)) H
 | _,_=>False
def OQ {X:Cx}:eK X "int.bit_length" Ff:=by
 intro a s σ H x vs v us Q I c b q;unfold Ff at q
 split at q
 ·obtain⟨t,rfl⟩:=c;cases b;exact call_int_bit_length ⟨.int _,H,I.tok _,⟨_,rfl⟩,q⟩
 ·exact q.elim
section
variable {X:Cx}{K:W.Frag}{a b c e o:Expr}{es bL:List Expr}{pos p p2 pos2:Pos}{t:TA}{kk:Nat}
def TB (h:X.K=K) (a:X.calm=true):cG X (.builtin "sum") (vJ K):=by subst h;exact TC a
def LW (h:X.K=K) (g:X.calm=true) (c:X.mg "list" = none) (e:X.mg "reversed" = none) (f:QA X [a] t) (d:Gl X "list":=by rfl) (b:Gl X "reversed":=by rfl) (hs:dY a=false:=by rfl) :
 QE X (.Call (.Name "list" p) [.Call (.Name "reversed" p2) [a] [] pos2] [] pos) (BQ K t):=by subst h;exact⟨OS g d c b e f.h (cS hs) (cS rfl)⟩
def gP (h:X.K=K) (b:Gl X "enumerate") (hm:X.mg "enumerate" = none) (c:QA X [a] t) (hs:dY a=false:=by rfl):QI X (.Tuple es kk p2) (.Call (.Name "enumerate" p) [a] [] pos) (Et K t):=by subst h;exact⟨MF b hm c.h (cS hs)⟩
def uP {tg:Expr} (f:Gl X "range") (hm:X.mg "range" = none) (g:QA X [a,b,c] t) (hs:dY a=false:=by rfl) (d:dY b=false:=by rfl) (e:dY c=false:=by rfl):QI X tg (.Call (.Name "range" p) [a,b,c] [] pos) (Eo t) :=
 ⟨MB f hm g.h (cS hs) (by rw[cS d,cS e];rfl)⟩
end
def cH:f6->List Value->Bool
 | [],[]=>true
 | n::r,.int m _::u=>n == m && cH r u
 | _,_=>false
theorem cH.vals:∀ {ns:f6} {us:List Value},cH ns us=true->aM (ns.map V.int) us
 | [],[],_=>.nil
 | n::r,.int m _::u,h=>by
  have h':(n == m && cH r u)=true:=h;rw[YT,beq_iff_eq]at h';obtain⟨rfl,a⟩:=h';exact .cons ⟨_,rfl⟩ (cH.vals a)
def dB {K:W.Frag} {a:Addr} {d:Option Addr} {b:Array Value} {n:Nat} {c:Array (Option Value)} {ns:f6} (h:K.lookup a=some ⟨.type "tuple",d,.seq b n,c⟩) (e:cH ns b.toList=true) (hz:b.size<=1000:=by decide) (H:Hp):bq K H a (ns.map V.int) :=
 .inr ⟨_,b,n,h,rfl,rfl,sz (a1f hz),cH.vals e⟩
def bc.after{H b a:Hp}{p:Addr}{o:HO}(s:ah H b)(g:bc b p o a):bc H p o a:=⟨s.free g.nw,s.trans g.sm,g.at_⟩
def bc.then{H b a:Hp}{p:Addr}{o:HO}(g:bc H p o b)(s:ah b a):bc H p o a:=⟨g.nw,g.sm.trans s,s _ _ g.at_⟩
def aY(b:Nat)(ps:f6):Int:=ps.foldl (λa p=>a*2 ^ b+p) 0
theorem uh(b:Nat):∀(ps:f6) (a:Int),ps.foldl (λa p=>a*2 ^ b+p) a=a*2 ^ (b*ps.length)+aY b ps
 | [],a=>by simp[aY]
 | p::r,a=>by
  unfold aY;rw[ZU,ZU,uh b r,uh b r,Y7,ZA,YG];generalize (2:Int) ^ (b*r.length)=X;generalize (2:Int) ^ b=Y;rw[Zp,Zp,Zl,a0d Y X];omega
def gv(b:Nat)(ps a:f6):aY b (ps++a)=aY b ps*2 ^ (b*a.length)+aY b a:=by
 conv=>lhs;unfold aY
 rw[a1g,uh b a]
 rfl
def BI(b:Nat)(ps:f6)(p:Int):aY b (ps++[p])=aY b ps*2 ^ b+p:=by
 rw[gv];simp[aY]
def cB(k:Nat):(0:Int)<2 ^ k:=Int.pow_pos (by decide)
def gu{b:Nat}:∀ {ps:f6},(∀p∈ps,0<=p/\p<2 ^ b)->0<=aY b ps/\aY b ps<2 ^ (b*ps.length):=by
 intro ps h
 induction ps with
 | nil=>simp[aY]
 | cons p r ih =>
  have c:=h p (.head _);have g:=ih λq d=>h q (.tail _ d);have e:aY b (p::r)=p*2 ^ (b*r.length)+aY b r:=by
   have:=gv b [p] r;simpa [aY] using this
  rw[e,Y7,ZA,YG];have a:=cB (b*r.length);generalize (2:Int) ^ (b*r.length)=X at *;generalize (2:Int) ^ b=Y at *;have i:0<=p*X:=a0e c.1 (YN a);have f:p*X+X<=X*Y:=by
   have:(p+1)*X<=Y*X:=a0f (by omega) (YN a);rw[Zp,a0g]at this;rw[a0d X Y];exact this
  omega
def bF(b a:Nat)(n:Int):f6:=(List.range a).map λi=>n/2 ^ (b*(a-1-i))%2 ^ b
def ij(b a:Nat)(n:Int):(bF b a n).length=a:=by simp[bF]
def Mr(b a:Nat)(n:Int):((List.range a).map λi=>n/2 ^ (b*i)%2 ^ b).reverse=bF b a n:=by
 refine ZY λi=>?_;by_cases h:i<a
 ·rw[a2g (by simpa using h)];simp[bF,h,show a-1-i<a by omega]
 ·rw[Zb (by simp;omega),Zb (by simp[bF];omega)]
def nM{b a:Nat}{n x:Int}(h:x∈bF b a n):0<=x/\x<2 ^ b:=by
 obtain⟨i,_,rfl⟩:=Y3.mp h;exact⟨ZK _ (ZB (cB b)),ZL _ (cB b)⟩
def S2(n:Int)(b j:Nat):n/2 ^ (b*j)/2 ^ b=n/2 ^ (b*(j+1)):=by
 rw[ZC (YN (cB _)),<- YG,ZA]
def OA(x:Int)(b:Nat):x-x/2 ^ b*2 ^ b=x%2 ^ b:=by
 rw[Int.emod_def,a0d]
def bv(n:Int):Int:=if n=0 then 45 else if n<11 then 47+n else if n<37 then 54+n else if n=37 then 95 else 59+n
def iB:f6:=[45,48,49,50,51,52,53,54,55,56,57,65,66,67,68,69,70,71,72,73,74,75,76,77,78,79,80,81,82,83,84,85,86,87,88,89,90,95,97,98,99,100,101,102,103,104,105,106,107,108,109,110,111,112,113,114,115,116,117,118,119,120,121,122]
def Wj:∀k:Fin 64,iB[k.val]? = some (bv (k.val:Int)):=by decide
def Gq{n:Int}(a:0<=n)(h:n<64):iB[n.toNat]? = some (bv n):=by
 have:=Wj ⟨n.toNat,by omega⟩;simpa [ZZ a] using this
def bf(r:f6):Nat:=(8*r.length+5)/6
def d8(r:f6):Int:=aY 8 r*2 ^ (6*bf r-8*r.length)
def bo(r:f6):f6:=(List.range (bf r)).map λk=>d8 r/2 ^ (6*(bf r-1-k))%64
def bG(r:f6):f6:=(bo r).map bv
def hJ(r:f6):(bG r).length=bf r:=by simp[bG,bo]
abbrev Byts(r:f6):Prop:=∀p∈r,0<=p/\p<256
def Fx{a b:f6}{j:Nat}(g:a.length=3*j)(hb:Byts b):bo (a++b)=bo a++bo b:=by
 have d:bf a=4*j:=by unfold bf;omega
 have c:bf (a++b)=4*j+bf b:=by unfold bf;rw[Yo];omega
 have s1:d8 a=aY 8 a:=by unfold d8;rw[d,g,show 6*(4*j)-8*(3*j)=0 by omega];simp
 have lb:=gu (b:=8) (ps:=b) hb;have h:8*b.length<=6*bf b:=by unfold bf;omega
 have sb:0<=d8 b/\d8 b<2 ^ (6*bf b):=by
  unfold d8;have e:(2:Int) ^ (6*bf b)=2 ^ (8*b.length)*2 ^ (6*bf b-8*b.length):=by rw[<- YG];congr 1;omega
  rw[e];exact⟨a0e lb.1 (YN (cB _)),a2h lb.2 (cB _)⟩
 have f:d8 (a++b)=d8 a*2 ^ (6*bf b)+d8 b:=by
  rw[s1];unfold d8;rw[gv,c,Yo,g,show 6*(4*j+bf b)-8*(3*j+b.length)=6*bf b-8*b.length by omega,Zp,Zl,<- YG,
   show 8*b.length+(6*bf b-8*b.length)=6*bf b by omega]
 refine ZY λk=>?_;have i:(bo a).length=4*j:=by simp[bo,d]
 by_cases h1:k<4*j
 ·rw[Zj (by omega)];simp only [bo,d,c];rw[Yt,Yt,Ze (by omega),Ze h1];simp only [Y9,f];rw[show 6*(4*j+bf b-1-k)=6*bf b+6*(4*j-1-k) by omega,YG,<- ZC (YN (cB _)),ZM,Z0 _ _ (ZB (cB _)),a1h sb.1 sb.2,Zq]
 ·rw[Zi (by omega),i];by_cases h2:k<4*j+bf b
  ·simp only [bo,c];rw[Yt,Yt,Ze h2,Ze (by omega)];simp only [Y9,f];rw[show 4*j+bf b-1-k=bf b-1-(k-4*j) by omega];have e:(2:Int) ^ (6*bf b)=2 ^ (6*(k-4*j))*64*2 ^ (6*(bf b-1-(k-4*j))):=by
    rw[show (64:Int)=2 ^ 6 by decide,<- YG,<- YG];congr 1;omega
   rw[e,<- Zl,ZM,Z0 _ _ (ZB (cB _)),<- Zl,Int.add_mul_emod_self_right]
  ·rw[Zb (by simp[bo,c];omega),Zb (by simp[bo];omega)]
def oR{a b:f6}{j:Nat}(c:a.length=3*j)(hb:Byts b):bG (a++b)=bG a++bG b:=by
 unfold bG;rw[Fx c hb,Yw]
def ug(b:Nat)(g:f6)(k:Nat):aY b (g++List.replicate k 0)=aY b g*2 ^ (b*k):=by
 have z:∀k,aY b (List.replicate k 0)=0:=λk=>by
  induction k with
  | zero=>rfl
  | succ k ih =>
   have e:=gv b [0] (List.replicate k 0);rw[ih,show aY b [0]=0 by simp[aY],Int.zero_mul]at e;exact e
 rw[gv,z,ZH,Int.add_zero]
def Fw{g:f6}(b:0<g.length)(a:g.length<=3):(bF 6 4 (aY 8 (g++List.replicate (3-g.length) 0))).take (g.length+1)=bo g:=by
 rw[ug];have hm:g.length=1\/g.length=2\/g.length=3:=by omega
 unfold bo d8 bf bF;generalize aY 8 g=N;rcases hm with e|e|e<;>rw[e]<;>simp[List.range,List.range.loop]<;>omega
def iY{r:f6}{x:Int}(h:x∈bo r):0<=x/\x<64:=by
 obtain⟨i,_,rfl⟩:=Y3.mp h;omega
def de{α:Type}{a:List α}{i:Nat}{y:α}(h:a[i]? = some y):a.take (i+1)=a.take i++[y]:=by rw[a0h,h];rfl
def Re{α β:Type}{xs:List α}{a:List β}{i:Nat}{x:α}(hl:a.length=xs.length)(h:xs[i]? = some x):∃y,a[i]? = some y:=by
 have:=(Yr.mp h).1;exact⟨a[i]'(by omega),by simp⟩
def oW{K:W.Frag}{a:Addr}{xs:List V}{cs:St}{f:TE}{H:Hp}{Q:VK}(d:List V)(hl:d.length=xs.length)(h:aG K H a xs)(hz:xs.length<=sizeLine)
 (hs:∀(i:Nat) x y b (N:VK),xs[i]? = some x->d[i]? = some y->ah H b->(∀c,ah b c->N y c)->f (some x::cs) b N) (hd:∀p b,bc H p (.lst d) b->Q (.ref p) b) :
 jc (i9 K a) H (List.replicate 1 none++cs) (eB 0) iE f Q:=by
 refine mT (λi ys b=>ah H b/\ys=d.take i) ⟨ah.refl _,rfl⟩ (λi ys b k z=>⟨z.1.seq h,by rw[z.2,Yp];omega⟩) hz (λi x ys b N hx z hN=>?_) λys b p c z g=>?_
 ·obtain⟨s,rfl⟩:=z;obtain⟨y,e⟩:=Re hl hx;simp only [iE,if_true];exact hs i x y b _ hx e s λc j=>hN _ _ ⟨s.trans j,by rw[de e]⟩
 ·obtain⟨s,rfl⟩:=z;rw[<- hl,Yy]at g;exact hd p c (g.after s)
def Th{lo:Int}{n:Nat}{cs:St}{f:TE}{H:Hp}{Q:VK}(c:List V)(hl:c.length=n)(hz:n<=sizeLine)
 (hs:∀(i:Nat) y a (N:VK),i<n->c[i]? = some y->ah H a->(∀b,ah a b->N y b)->f (some (.int (lo+(i:Int)))::cs) a N) (hd:∀p a,bc H p (.lst c) a->Q (.ref p) a) :
 jc (iC lo n) H (List.replicate 1 none++cs) (eB 0) iE f Q:=by
 refine FI (λi ys a=>ah H a/\ys=c.take i) ⟨ah.refl _,rfl⟩ (λi ys a d z=>by rw[z.2,Yp];omega) hz (λi ys a N d z hN=>?_) λys a p b z g=>?_
 ·obtain⟨s,rfl⟩:=z;have e:c[i]? = some (c[i]'(by omega)):=by simp
  simp only [iE,if_true];exact hs i (c[i]'(by omega)) a _ d e s λb h=>hN _ _ ⟨s.trans h,by rw[de e]⟩
 ·obtain⟨s,rfl⟩:=z;rw[<- hl,Yy]at g;exact hd p b (g.after s)
def dz{ns:f6}{i:Nat}{x:V}(h:(ns.map V.int)[i]? = some x):∃p,ns[i]? = some p/\x=.int p:=by
 rw[Yt]at h;cases e:ns[i]? with
 | none=>rw[e]at h;cases h
 | some p=>rw[e]at h;cases h;exact⟨p,rfl,rfl⟩
def sr(x y:Int):Int:=if x=y then 0 else if x<y then -1 else 1
theorem Gg{b:Nat}:∀ {ns a:f6},ns.length=a.length->(∀p∈ns,0<=p/\p<2 ^ b)->(∀p∈a,0<=p/\p<2 ^ b)->fg ns a=sr (aY b ns) (aY b a)
 | [],[],_,_,_=>by simp[V1,sr]
 | x::ns,y::a,hl,h1,h2=>by
  have d:ns.length=a.length:=by simpa using hl
  have ih:=Gg d (λp c=>h1 p (.tail _ c)) (λp c=>h2 p (.tail _ c));have i:=gu (b:=b) (ps:=ns) λp c=>h1 p (.tail _ c);have e:=gu (b:=b) (ps:=a) λp c=>h2 p (.tail _ c);have g:aY b (x::ns)=x*2 ^ (b*ns.length)+aY b ns:=by simpa [aY] using gv b [x] ns
  have f:aY b (y::a)=y*2 ^ (b*ns.length)+aY b a:=by rw[d];simpa [aY] using gv b [y] a
  rw[<- d]at e;rw[V4,g,f,ih];have c:=cB (b*ns.length);generalize (2:Int) ^ (b*ns.length)=X at *;generalize aY b ns=u at *;generalize aY b a=v at *;unfold sr;by_cases hxy:x=y
  ·subst hxy;rw[aaa rfl]
   (repeat' split)<;>omega
  ·rw[on hxy];by_cases h:x<y
   ·have m:x*X+X<=y*X:=by
     have:=a0f (show x+1<=y by omega) (YN c);rw[Zp,a0g]at this;exact this
    rw[aaa h,on (by omega),aaa (by omega)]
   ·have m:y*X+X<=x*X:=by
     have:=a0f (show y+1<=x by omega) (YN c);rw[Zp,a0g]at this;exact this
    rw[on h,on (by omega),on (by omega)]
def BJ{b:Nat}{ns a:f6}(hl:ns.length=a.length)(d:∀p∈ns,0<=p/\p<2 ^ b)(c:∀p∈a,0<=p/\p<2 ^ b):aY b ns=aY b a ↔ ns=a:=by
 have e:=Gg hl d c
 constructor
 ·intro z;rw[z,sr,aaa rfl]at e;exact VZ.mp e
 ·rintro rfl;rfl
def SU{r:f6}{k j:Nat}(e:r.length+k=3*j):bo (r++List.replicate k 0)=bo r++List.replicate (4*j-bf r) 0:=by
 have a:bf (r++List.replicate k 0)=4*j:=by unfold bf;rw[Yo,ZH];omega
 have hM:8*r.length<=6*bf r/\6*bf r<=8*r.length+5:=by unfold bf;omega
 have s1:d8 (r++List.replicate k 0)=aY 8 r*2 ^ (8*k):=by
  unfold d8;rw[a,ug,Yo,ZH,show 6*(4*j)-8*(r.length+k)=0 by omega];simp
 refine ZY λi=>?_;have d:(bo r).length=bf r:=by simp[bo]
 by_cases h1:i<bf r
 ·rw[Zj (by omega)];simp only [bo,a];rw[Yt,Yt,Ze (by omega),Ze h1];simp only [Y9,s1]
  congr 1
  unfold d8;have b:(2:Int) ^ (8*k)=2 ^ (6*bf r-8*r.length)*2 ^ (24*j-6*bf r):=by rw[<- YG];congr 1;omega
  have c:(2:Int) ^ (6*(4*j-1-i))=2 ^ (6*(bf r-1-i))*2 ^ (24*j-6*bf r):=by rw[<- YG];congr 1;omega
  rw[b,c,<- Zl,Int.mul_ediv_mul_of_pos_left _ _ (cB _)]
 ·rw[Zi (by omega),d];by_cases h2:i<4*j
  ·simp only [bo,a];rw[Yt,Ze h2,a0a,aaa (by omega)];simp only [Y9,s1];have b:(2:Int) ^ (8*k)=2 ^ (8*k-6*(4*j-1-i)-6)*64*2 ^ (6*(4*j-1-i)):=by
    rw[show (64:Int)=2 ^ 6 by decide,<- YG,<- YG];congr 1;omega
   rw[b,<- Zl,Int.mul_ediv_cancel _ (ZB (cB _)),<- Zl,Int.mul_emod_left]
  ·rw[Zb (by simp[bo,a];omega),Zb (by simp;omega)]
theorem mF(b:Nat):∀(m:Nat) (n:Int),0<=n->n<2 ^ (b*m)->aY b (bF b m n)=n
 | 0,n,h0,h=>by
  simp at h;have:n=0:=by omega
  simp[bF,aY,this]
 | m+1,n,h0,h=>by
  have hb:=cB b;have e:bF b (m+1) n=bF b m (n/2 ^ b)++[n%2 ^ b]:=by
   unfold bF;rw[Zc,Yw]
   congr 1
   ·refine Z1 λi c=>?_;have a:i<m:=YE.mp c;rw[ZC (YN hb),<- YG]
    congr 3
    rw[show m+1-1-i=(m-1-i)+1 by omega,ZA,Nat.add_comm]
   ·simp
  have hd:n/2 ^ b<2 ^ (b*m):=by
   refine a2i hb ?_;rw[<- YG,<- ZA];exact h
  rw[e,BI,mF b m (n/2 ^ b) (a0i h0 (YN hb)) hd,a0d,Int.mul_ediv_add_emod]
def SV{r:f6}{j:Nat}(hr:r.length=3*j)(hb:Byts r):aY 6 (bo r)=aY 8 r:=by
 have c:bf r=4*j:=by unfold bf;omega
 have s1:d8 r=aY 8 r:=by unfold d8;rw[c,hr,show 6*(4*j)-8*(3*j)=0 by omega];simp
 have e:bo r=bF 6 (4*j) (aY 8 r):=by
  unfold bo bF;rw[c,s1]
  rfl
 have a:=gu (b:=8) (ps:=r) hb;rw[e,mF 6 _ _ a.1];rw[hr]at a;rw[show 6*(4*j)=8*(3*j) by omega];exact a.2
def iJ{t u:TS}{D:fN}{σ:St}{H:Hp}(M:St->Hp->Prop)(b:∀nx:St->Hp->Prop,(∀σ' H',M σ' H'->nx σ' H')->t { D with nx:=nx } σ H)(a:∀σ' H',M σ' H'->u D σ' H'):m9 t u D σ H:=b (u D) a
open AutoSeq1 (wpAny_loadPart')
open SeqAt (EqAt)
def IA(l:Addr)(items:Array Value)(n:Nat)(r:Option Addr)(p:Array (Option Value))(x:Value)(e:Value->Bool)(j:Nat)(C:j<items.size)(u:e items[j]=true)(q:∀i (B:i<items.size),i<j->e items[i]=false) :
 Meets (Builtin.«tuple.index» ⟨[.ref l,x],[]⟩)
  (λA R s=>s.heap.get? l=some { cls:=.type "tuple",dict:=r,data:=.seq items n,slots:=p }/\(∀y,y∈items->EqAt A.in1 s y x (e y))/\R (.ok (.ret (.int (j:Int) s.toks))) { s with toks:=s.toks+1 }) :=
 .of_wp λprog w A R s h=>by
  obtain⟨o,g,d,z,os⟩:=s;obtain⟨hl,he,h⟩:=h;unfold Builtin.«tuple.index»;simp only [Std.Legacy.Range.forIn_eq_forIn_range']
  wp_walk using wpAny_loadPart' hl,wpAny_forIn_list _ (λbL b k=>b.1=none/\k=⟨o,g,d,z,os⟩/\∃i,i<=j/\bL=List.range' i (items.size-i)) _
  case turn =>
   rintro i bL b k ⟨hb,rfl,c,f,hr⟩;obtain⟨m,hm⟩:∃m,items.size-c=m+1:=⟨items.size-c-1,by omega⟩;rw[hm,List.range'_succ]at hr
   injection hr with e1 e2
   subst e1;have a:i<items.size:=by omega
   have v:items[i]? = some items[i]:=a1d a;simp only [v];refine kb (he _ (Array.getElem_mem a) prog w _ _ ?_);by_cases hij:i=j
   ·subst hij;rw[u]
    wp_walk
    exact⟨_,rfl,h⟩
   ·rw[q i a (by omega)]
    wp_walk
    exact⟨rfl,rfl,i+1,by omega,by rw[e2];congr 1;omega⟩
  case fin =>
   rintro b k ⟨hb,rfl,c,f,hr⟩;obtain⟨m,hm⟩:∃m,items.size-c=m+1:=⟨items.size-c-1,by omega⟩;rw[hm,List.range'_succ]at hr;cases hr
  case h =>
   refine⟨rfl,rfl,0,YS _,?_⟩;simp[Std.Legacy.Range.size]
def vG(K:W.Frag):V->List V->Hp->VK->Prop:=λx vs H Q=>match x,vs with
 | .ref a,[.int k]=>∃(ns:f6) (j:Nat) (o:Obj),K.lookup a=some o/\o.cls=.type "tuple"/\o.dict=none/\bq K H a (ns.map V.int)/\ns[j]? = some k/\(∀i,i<j->ns[i]? ≠ some k)/\Q (.int (j:Int)) H
 | _,_=>False
def ON {X:Cx}:eK X "tuple.index" (vG X.K):=by
 intro B s σ H x vs v us Q I S L q;unfold vG at q
 split at q
 ·rename_i a k;obtain⟨ns,j,o,Y,hc,hd,R,D,N,q⟩:=q;cases S;cases L with
  | cons r1 rr =>
   cases rr;obtain⟨t,rfl⟩:=r1;obtain⟨b,C,⟨J,g,d,n,h⟩,hz⟩:=I.tuple R;have hl:=C.length;rw[Yl]at hl;have l:j<b.length:=by have:=(Yr.mp D).1;omega
   have at_:∀i (c:i<b.toArray.size),∃m t,b.toArray[i]=.int m t/\ns[i]? = some m:=λi c=>by
    have f:i<ns.length:=by rw[Yv]at c;omega
    obtain⟨u,M,O⟩:=C.get (i:=i) (x:=V.int ns[i]) (by simp[f]);obtain⟨t,rfl⟩:=O;refine⟨ns[i],t,?_,by simp[f]⟩;have:=(Yr.mp M).2;simpa using this
   obtain⟨W,p,dt,G⟩:=J;simp only at d h;subst d h;refine call_meets a2j ⟨_,g,rfl⟩ PySem.F.entry_tuple_index (PySem.F.args_tuple_index_2 _ _)
    (IA a b.toArray n p G (.int k t) (λy=>match y with|.int m _=>m == k|_=>false) j (by simpa using l) ?_ ?_) ⟨g,λy U=>?_,⟨.int j,H,I.tok _,⟨_,rfl⟩,q⟩⟩
   ·obtain⟨m,t',e,hm⟩:=at_ j (by simpa using l);rw[D]at hm;cases hm;rw[e];exact beq_self_eq_true k
   ·intro i c r;obtain⟨m,t',e,hm⟩:=at_ i c;rw[e];exact beq_eq_false_iff_ne.mpr λz=>N i r (by rw[hm,z])
   ·obtain⟨i,c,rfl⟩:=Array.mem_iff_getElem.mp U;obtain⟨m,t',e,hm⟩:=at_ i c;rw[e];exact SeqAt.EqAt.int_int m t' k t
 ·exact q.elim
def OM {X:Cx} {K:W.Frag} (h:X.K=K):eK X "tuple.index" (vG K):=by subst h;exact ON
def IG{b m:Nat}{ps:f6}(hm:ps.length=m)(h:∀p∈ps,0<=p/\p<2 ^ b):bF b m (aY b ps)=ps:=by
 subst hm;have t:=gu h;exact (BJ (by rw[ij]) (λp a=>nM a) h).mp (mF b _ _ t.1 t.2)
def T7{g:f6}(d:0<g.length)(e:g.length<=3)(hb:Byts g):(bF 8 3 (aY 6 (bo g++List.replicate (4-(bo g).length) 0))).take g.length=g:=by
 have pl:(bo g).length=bf g:=by simp[bo]
 have hz:=SU (r:=g) (k:=3-g.length) (j:=1) (by omega);rw[pl,<- hz];have b:(g++List.replicate (3-g.length) (0:Int)).length=3:=by simp;omega
 have a:Byts (g++List.replicate (3-g.length) 0):=λp c=>by
  rcases Yx.mp c with z|z
  ·exact hb p z
  ·rw[a0j z];decide
 rw[SV (j:=1) b a,IG b a,List.take_left]
def SW{g:f6}(b:0<g.length)(a:g.length<=3):bf g=g.length+1:=by unfold bf;omega
def ST{r:f6}{i:Nat}(hb:Byts r)(f:3*i<r.length):((bG r).drop (4*i)).take 4=bG ((r.drop (3*i)).take 3):=by
 have e:r=r.take (3*i)++((r.drop (3*i)).take 3++(r.drop (3*i)).drop 3):=by rw[YV,YV]
 have d:Byts ((r.drop (3*i)).take 3++(r.drop (3*i)).drop 3):=λp a=>by rw[YV]at a;exact hb p (YX a)
 have c:Byts ((r.drop (3*i)).drop 3):=λp a=>hb p (YX (YX a));have l1:(r.take (3*i)).length=3*i:=by rw[Yp];omega
 have d1:(bG (r.take (3*i))).length=4*i:=by rw[hJ];unfold bf;rw[l1];omega
 conv=>lhs;rw[e]
 rw[oR l1 d,a1i (by omega),ZN (by omega),Zv];by_cases h:(r.drop (3*i)).length<=3
 ·rw[ZN h,Y8,YW];rw[hJ];unfold bf;rw[Yp];omega
 ·have b:((r.drop (3*i)).take 3).length=3*1:=by rw[Yp];omega
  rw[oR b c,a2k (by rw[hJ];unfold bf;omega),YW (by rw[hJ];unfold bf;omega)]
def Wf:∀k:Fin 64,∀i:Fin 64,i.val<k.val->iB[i.val]? ≠ some (bv (k.val:Int)):=by decide
def Wi{n:Int}(b:0<=n)(h:n<64){i:Nat}(a:i<n.toNat):iB[i]? ≠ some (bv n):=by
 have:=Wf ⟨n.toNat,by omega⟩ ⟨i,by omega⟩ a;simpa [ZZ b] using this
def Wg:∀k:Fin 64,dZ (.int (bv (k.val:Int))) (iB.map V.int)=true:=by decide
def Wh{n:Int}(a:0<=n)(h:n<64):dZ (.int (bv n)) (iB.map V.int)=true:=by
 have:=Wg ⟨n.toNat,by omega⟩;simpa [ZZ a] using this
structure cc (P:Program) (w:World) (K:W.Frag) (mg:Str->Option Value) (base:Heap) (C:Addr) (m:Str) (k:Nat) (f:Addr) (fd:FuncData) (ps:List Str) (sp:Sp):Prop where
 c:cF K C
 mt:bd K C m f
 b:ak K fd ps []
 ok:bH P w K mg base bO k f fd ps sp
structure X1 (P:Program) (w:World) (K:W.Frag) (mg:Str->Option Value) (base:Heap) (x:Str) (C:Addr) (k:Nat) (f:Addr) (fd:FuncData) (ps:List Str) (sp:Sp):Prop where
 g:mg x=some (.ref C)
 mkx:Mk K C f
 b:ak K fd ps []
 ok:bH P w K mg base bO k f fd ps sp
section
variable {X:Cx}{K:W.Frag}{k j:Nat}{f C:Addr}{fd:FuncData}{ps:List Str}{sp:Sp}{x m:Str}{p pos apos pos':Pos}{e o value:Expr}{es:List Expr}{ta tv:TE}{t:TA}
def mG{X:Cx}:iA bO X E0:=λ_ _ _ _ _ _ _ z=>z.elim
def cM{pl:Sem Bool}(F:cc X.prog X.w X.K X.mg X.base C m j f fd ps sp)(hr:bS k X.A)(g:QE X o ta)(d:QA X (e::es) t)(l:j<=k:=by decide)(a:di (e::es)=true:=by rfl)
 (i:eval (.Call (.Attribute o m apos) (e::es) [] pos) X.env=(do
   let ov <- eval o X.env
   standAt apos.atName
   let (f,first) <- holding [ov] (getMethod ov m pl)
   callWith pos f first (backTo pos (starEach (e::es) X.env)) (backToKw pos (keywordEach [] X.env))):=by rfl) :
 QE X (.Call (.Attribute o m apos) (e::es) [] pos) (fh C m sp [] E0 ta t) :=
 ⟨Dp (pl:=pl) g.h F.c F.mt F.ok (hr.mono l) F.b .nil mG d.h (cS (du a).1) (gU (du a).2) i⟩
def dX{pl:Sem Bool}(F:cc X.prog X.w X.K X.mg X.base C m j f fd ps sp)(hr:bS k X.A)(e:QE X o ta)(d:j<=k:=by decide)
 (a:eval (.Call (.Attribute o m apos) [] [] pos) X.env=(do
   let ov <- eval o X.env
   standAt apos.atName
   let (f,first) <- holding [ov] (getMethod ov m pl)
   callWith pos f first (backTo pos (starEach [] X.env)) (backToKw pos (keywordEach [] X.env))):=by rfl) :
 QE X (.Call (.Attribute o m apos) [] [] pos) (fh C m sp [] E0 ta jL) :=
 ⟨MP (pl:=pl) e.h F.c F.mt F.ok (hr.mono d) F.b .nil mG a⟩
def aX{f:Str}(h:X.K=K)(he:QE X e ta)(hb:attributeBase e f X.env (eval e X.env)=eval e X.env:=by rfl):QE X (.Attribute e f pos) (B0 K ta f):=by subst h;exact⟨MU he.h hb⟩
def bQ{f:Str}(h:X.K=K)(b:QE X o ta)(a:QE X value tv)(hs:swapsWith value (some (.Attribute o f pos')) pos.line X.env=pure false:=by rfl):QS X (.Assign [.Attribute o f pos'] value pos) (CS K ta tv f):=by subst h;exact⟨Mm b.h a.h hs⟩
end
def rn{r s:f6}{k:Nat}(hb:Byts r)(hs:Byts s)(h:6*(k+1)<=8*r.length):(bo (r++s))[k]? = some (aY 8 r/2 ^ (8*r.length-6*(k+1))%64):=by
 have ln:(r++s).length=r.length+s.length:=Yo;obtain⟨n,a⟩:∃n,n=bf (r++s):=⟨_,rfl⟩;have hM:8*(r.length+s.length)<=6*n/\6*n<=8*(r.length+s.length)+5:=by rw[a];unfold bf;rw[ln];omega
 have d:k<n:=by omega
 rw[bo,<- a,Yt,Ze d];simp only [Y9]
 congr 2
 unfold d8;rw[<- a,ln,gv];have ts:=gu (b:=8) (ps:=s) hs;have c:(2:Int) ^ (6*(n-1-k))=2 ^ (8*s.length+(6*n-8*(r.length+s.length)))*2 ^ (8*r.length-6*(k+1)):=by rw[<- YG];congr 1;omega
 have e:(aY 8 r*2 ^ (8*s.length)+aY 8 s)*2 ^ (6*n-8*(r.length+s.length))=aY 8 s*2 ^ (6*n-8*(r.length+s.length))+aY 8 r*2 ^ (8*s.length+(6*n-8*(r.length+s.length))):=by
  rw[Zp,Zl,<- YG,ZM]
 rw[c,e,<- ZC (YN (cB _)),Z0 _ _ (ZB (cB _))];have z:aY 8 s*2 ^ (6*n-8*(r.length+s.length))/2 ^ (8*s.length+(6*n-8*(r.length+s.length)))=0:=by
  refine a1h (a0e ts.1 (YN (cB _))) ?_;rw[YG];exact a2h ts.2 (cB _)
 rw[z,Zq]
def df(r:f6):f6:=(bG r).take (8*r.length/6)
def Fv{r s:f6}(hb:Byts r)(hs:Byts s):(bG (r++s)).take (8*r.length/6)=df r:=by
 unfold df;refine ZY λk=>?_;by_cases h:k<8*r.length/6
 ·rw[Zt h,Zt h,bG,bG,Yt,Yt,rn hb hs (by omega)];have e:=rn (r:=r) (s:=[]) (k:=k) hb (λ_ z=>nomatch z) (by omega);rw[Y8]at e;rw[e]
 ·rw[a1j,a1j,on h,on h]
def B8{a q:f6}{j:Nat}(d:a.length=3*j)(c:Byts q):df (a++q)=bG a++df q:=by
 unfold df;have b:(bG a).length=4*j:=by rw[hJ];unfold bf;omega
 rw[oR d c,List.take_append,b,YW (by rw[b,Yo];omega)]
 congr 2
 rw[Yo];omega
def IT{a:f6}{j:Nat}(b:a.length=3*j):df a=bG a:=by
 unfold df;rw[YW];rw[hJ];unfold bf;omega
def aW(r:f6):f6:=r.drop (r.length-r.length%3)
def jf(r:f6):∃a j,r=a++aW r/\a.length=3*j/\(aW r).length=r.length%3:=by
 refine⟨r.take (r.length-r.length%3),r.length/3,(YV _ _).symm,?_,?_⟩
 ·rw[Yp];omega
 ·rw[aW,YY];omega
def IO{a q:f6}{j:Nat}(b:a.length=3*j):aW (a++q)=aW q:=by
 unfold aW;rw[Yo,show a.length+q.length-(a.length+q.length)%3=a.length+(q.length-q.length%3) by omega,a0k,ZN (by omega),Zv,ZW]
def IS{r p:f6}(hb:Byts r)(d:Byts p):df (r++p)=df r++(df (aW r++p)).drop (aW r).length:=by
 obtain⟨a,j,e,f,h⟩:=jf r;have b:Byts (aW r):=λx hx=>hb x (by rw[e];exact YF _ hx);have c:Byts (aW r++p):=λx hx=>by rcases Yx.mp hx with z|z;exact b x z;exact d x z
 conv=>lhs;rw[e,YU,B8 f c]
 conv=>rhs;rw[e,B8 f b]
 have i:aW (a++aW r)=aW r:=by rw[<- e]
 rw[i,YU]
 congr 1
 have g:8*(aW r).length/6=(aW r).length:=by rw[h];omega
 have q:df (aW r)=(df (aW r++p)).take (aW r).length:=by
  have:=Fv b d;rw[g]at this;rw[<- this];unfold df;rw[a0c]
  congr 1
  rw[Yo];omega
 rw[q,YV]
structure Bl (K:W.Frag) (C:Addr):Prop where
 makes:W.makesIn K C=true
 init:W.findIn K (.ref C) "__init__" = some (some (.builtin "object.__init__"))
 kp:W.keepIn K (.ref C)=true
def BX(C:Addr):TE:=λ_ H Q=>∀x dx,H x=none->H dx=none->dx≠x->Q (.ref x) (upd (upd H dx (.own x)) x (.ins C dx []))
section
variable {X:Cx}{C:Addr}{x:Str}{p pos:Pos}
def Lz{c:List (Addr × Obj)}{σ:St}{H:Hp}{s:g0}{Q:VK}(M:Bl X.K C)(I:ai X c σ H s)(h:BX C σ H Q) :
 wpAny (model X.prog X.w) X.A (call (.ref C) []) (EP X c σ Q) X.xe s:=by
 have l:=h (s.heap.objs.size+1) s.heap.objs.size (I.hok.fresh (ZQ _)) (I.hok.fresh (Ym _)) (YB (Yu _));have j:=ai.made (C:=C) I;have Y:=W.makes_of (M:=model X.prog X.w) I.kIn M.makes;refine wpAny_call (O2 I.kIn M.makes M.init (λself=>W.Looks.of_pure (W.oi_bind self)) ?_);obtain⟨a,g,d,t,os⟩:=s;have k:((a.push W.emptyDict).push (W.instObj C a.objs.size)).get? (a.objs.size+1)=some (W.instObj C a.objs.size):=by
  have:=YR (a.push W.emptyDict) (o:=W.instObj C a.objs.size) rfl
  rwa [ZG]at this
 have i:W.Looks (model X.prog X.w) ((a.push W.emptyDict).push (W.instObj C a.objs.size)) (typeOf (.ref (a.objs.size+1))) (.ref C):=(W.Looks.ld k).andThen .now;have f:W.Looks (model X.prog X.w) ((a.push W.emptyDict).push (W.instObj C a.objs.size)) (isInstance (.ref (a.objs.size+1)) (.type "object")) true :=
  i.andThen (Y.top.keeps λb o e=>YA _ (YA _ e))
 refine codeAny_call_builtin W.oi_plain W.entry_oi (@W.check_slot (model X.prog X.w) _ _ _ "object.__init__" "object" "__init__" (.ref (a.objs.size+1)) [] [] _ W.oi_kind W.oi_split f (W.oi_args (.ref (a.objs.size+1))) ?_);rw[W.oi_run];exact no (And.intro rfl ⟨V.ref (a.objs.size+1),_,j,rfl,l⟩)
def LV(M:Bl X.K C)(hm:X.mg x=some (.ref C))(c:Gl X x:=by rfl)(a:(x == ("__debug__" : Str))=false:=by decide):QE X (.Call (.Name x p) [] [] pos) (BX C):=⟨by
 intro b s σ H Q I h;refine wpAny_Call_Name_kw (nX I c hm ?_ a);exact W.callWith_K0 I.kIn M.kp (Lz M I h)⟩
end
structure cQ (K:W.Frag) (x qual:Str) (st:Stmt) (f:Addr) (fd:FuncData) (vs:List Value):Prop where
 ex:∃(oc:Value) (od:Option Addr) (kV doc pm:Value) (an:Option Addr) (cdv ct:Value) (osl:Array (Option Value)) (d:Addr) (dc:Value) (dd:Option Addr) (n:Nat) (dsl:Array (Option Value)),
  fd=W.fnOf x qual (au st) (aq st) (ae st) (.ref d) kV doc pm an cdv ct/\K.lookup f=some ⟨oc,od,.func fd,osl⟩/\W.codeIn K cdv qual=true/\K.lookup d=some ⟨dc,dd,.seq vs.toArray n,dsl⟩
 kp:W.keepIn K (.ref f)=true
section
variable {P:Program}{w:World}{K:W.Frag}{mg:Str->Option Value}{base:Heap}{x qual:Str}{st:Stmt}{f:Addr}{fd:FuncData}{N ps:List Str}{k:Nat}{sp:Sp}{vs:List Value}
def cQ.okQ(F:cQ K x qual st f fd vs)(S:ax N ps (ae st))(len:∀vs H Q E,sp vs H Q E->vs.length=ps.length)
 (b:∀(a:Value) (A:Around) (outer:List Env) (s:g0) (H:Hp) (vs:List V) (Q:VK) (E:XK),bS k (A.deeper (envOfC qual (ae st) s.heap.objs.size f a))->sp vs H Q E ->
   ∃t,gF (i0 bO P w K mg base N qual (ae st) f a A outer s H E).nox (aq st) t/\t { nx:=λ_ i=>Q .non i,rt:=Q } (gL N vs) H):bH P w K mg base bO (k+1) f fd ps sp:=by
 obtain⟨r,p,kV,g,m,v,a,ct,l,d,u,o,n,j,rfl,lk,c,_⟩:=F.ex;refine Fn lk c S len λA outer s H vs Q E hr e=>?_;obtain⟨t,h,q⟩:=b a A outer s H vs Q E hr e;exact⟨t,h.h.nox,q⟩
def dI{m p:Value}{o h j:Option Addr}{g e:Array (Option Value)}{kV b i a ct:Value}{d:Addr}{n:Nat}(l:K.lookup f=some ⟨m,o,.func (W.fnOf x qual (au st) (aq st) (ae st) (.ref d) kV b i h a ct),g⟩)
 (c:W.codeIn K a qual=true) (k:W.keepIn K (.ref f)=true) (ld:K.lookup d=some ⟨p,j,.seq vs.toArray n,e⟩):cQ K x qual st f (W.fnOf x qual (au st) (aq st) (ae st) (.ref d) kV b i h a ct) vs :=
 ⟨⟨m,o,kV,b,i,h,a,ct,g,d,p,j,n,e,rfl,l,c,ld⟩,k⟩
def cQ.binds{ds:List Value}(F:cQ K x qual st f fd vs)
 (h:∀(d:Addr) (kV b c:Value) (g:Option Addr) (a ct:Value) (us:List Value),(us++ds).length=ps.length->∃e:Option (Array Value)->Sem (List (Str × Value)),
   bindArgs (W.fnOf x qual (au st) (aq st) (ae st) (.ref d) kV b c g a ct) ⟨us,[]⟩=seqItems? (.ref d) >>= e/\e (some vs.toArray)=pure (ps.zip (us++ds))):ak K fd ps ds:=by
 obtain⟨r,q,kV,b,c,g,a,ct,o,d,u,p,n,l,rfl,lk,j,ld⟩:=F.ex;intro s us k hl;obtain⟨e,m,i⟩:=h d kV b c g a ct us hl;exact BindsTo.of_defaults (T:=d) rfl (k _ _ ld) rfl m i
end
structure dR (P:Program) (w:World) (K:W.Frag) (mg:Str->Option Value) (base:Heap) (C:Addr) (m:Str) (k:Nat) (f:Addr) (fd:FuncData) (ps:List Str) (dvs:List V) (sp:Sp):Prop where
 c:cF K C
 mt:bd K C m f
 b:∃ds,ak K fd ps ds/\aM dvs ds
 ok:bH P w K mg base bO k f fd ps sp
section
variable {X:Cx}{k j:Nat}{f C:Addr}{fd:FuncData}{ps:List Str}{sp:Sp}{m:Str}{pos apos:Pos}{e o:Expr}{es:List Expr}{ta:TE}{t:TA}{dvs:List V}
def cL{pl:Sem Bool}(F:dR X.prog X.w X.K X.mg X.base C m j f fd ps dvs sp)(hr:bS k X.A)(g:QE X o ta)(d:QA X (e::es) t)(l:j<=k:=by decide)(a:di (e::es)=true:=by rfl)
 (i:eval (.Call (.Attribute o m apos) (e::es) [] pos) X.env=(do
   let ov <- eval o X.env
   standAt apos.atName
   let (f,first) <- holding [ov] (getMethod ov m pl)
   callWith pos f first (backTo pos (starEach (e::es) X.env)) (backToKw pos (keywordEach [] X.env))):=by rfl) :
 QE X (.Call (.Attribute o m apos) (e::es) [] pos) (fh C m sp dvs E0 ta t):=by
 obtain⟨ds,hb,hd⟩:=F.b;exact⟨Dp (pl:=pl) g.h F.c F.mt F.ok (hr.mono l) hb hd mG d.h (cS (du a).1) (gU (du a).2) i⟩
end
def vI:Value->Option Int
 | .int k _=>some k
 | _=>none
def vR:Value->Option Addr
 | .ref a=>some a
 | _=>none
def Hy{v:Value}{k:Int}(h:vI v=some k):∃t,v=.int k t:=by
 cases v<;>cases h;exact⟨_,rfl⟩
def Hx{v:Value}{a:Addr}(h:vR v=some a):v=.ref a:=by
 cases v<;>cases h
 rfl
def jA:List DictEntry->Option (List (Int × Addr))
 | []=>some []
 | e::r=>(vI e.key).bind λk=>(vR e.val).bind λa=>if e.hash == hashInt k then (jA r).bind λl=>some ((k,a)::l) else none
theorem jA.pairs{P:Program}{w:World}:∀ {f:List DictEntry} {m:List (Int × Addr)},jA f=some m ->
 (∀e∈f,∃k,(cy P w).is k e.key=true/\e.hash=(cy P w).hash k)/\Pairs (cy P w) f (m.map λp=>((Sum.inl p.1:aU),Value.ref p.2))
 | [],m,h=>by cases h;exact⟨λ_ z=>(nomatch z),.nil⟩
 | e::r,m,h=>by
  obtain⟨k,d,h⟩:=Z2.mp h;obtain⟨a,b,h⟩:=Z2.mp h;obtain⟨n,d⟩:=Hy d;have b:=Hx b;by_cases c:e.hash == hashInt k
  ·rw[aaa c]at h;obtain⟨l,q,h⟩:=Z2.mp h;cases h;obtain⟨i,j⟩:=jA.pairs (P:=P) (w:=w) q;have g:(cy P w).is (.inl k) e.key=true:=by rw[d];exact DT P w k n
   refine⟨λx hx=>?_,.cons g b j⟩;cases hx with
   | head=>exact⟨.inl k,g,eq_of_beq c⟩
   | tail _ z=>exact i x z
  ·rw[on c]at h;cases h
structure tW (K:W.Frag) (a:Addr) (m:List (Int × Addr)):Prop where
 ex:∃es ep,K.lookup a=some ⟨.type "dict",none,.dict es ep,#[]⟩/\jA es.toList=some m
 nd:(m.map (·.1)).Nodup
 ns:(a == sysModules)=false
def tW.rd{K:W.Frag}{a:Addr}{m:List (Int × Addr)}{P:Program}{w:World}{h:Heap}(D:tW K a m)(X:K.In h):h.DictOf (cy P w) a (m.map λp=>((Sum.inl p.1:aU),Value.ref p.2)):=by
 obtain⟨f,c,l,e⟩:=D.ex;obtain⟨g,d⟩:=jA.pairs (P:=P) (w:=w) e;refine⟨_,f,c,X _ _ l,⟨rfl,rfl,rfl⟩,rfl,λe he=>g e (a2l.mpr he),d,?_⟩;rw[Z3];have:(((λx=>x.1) ∘ λp:Int × Addr=>((Sum.inl p.1:aU),Value.ref p.2)):Int × Addr->aU)=(λi:Int=>(Sum.inl i:aU)) ∘ (·.1):=rfl;rw[this,<- Z3];exact List.Pairwise.map _ (λa b (z:a≠b) (q:(Sum.inl a:aU)=Sum.inl b)=>z (Sum.inl.inj q)) D.nd
def oh(m:List (Int × Addr))(i:Int):Option V:=(m.find? λp=>decide (p.1=i)).map λp=>V.ref p.2
theorem EZ:∀(m:List (Int × Addr)) (i:Int) (z:V) (r:Value),aT z r->aT ((oh m i).getD z) ((valueAt (m.map λp=>((Sum.inl p.1:aU),Value.ref p.2)) (Sum.inl i)).getD r)
 | [],i,z,r,h=>h
 | p::m,i,z,r,h=>by
  have ih:=EZ m i z r h;unfold oh valueAt at ih ⊢;rw[YO,Y2,Y2];by_cases c:p.1=i
  ·have a:(Sum.inl p.1:aU)=Sum.inl i:=congrArg _ c;simp only [aad c,aad a,Y9,Option.getD_some]
   rfl
  ·have a:¬(Sum.inl p.1:aU)=Sum.inl i:=λq=>c (Sum.inl.inj q);simp only [aae c,aae a];exact ih
def B2(m:List (Int × Addr))(ty b:TE):TE:=λσ H Q=>ty σ H λy a=>b σ a λz c=>∃i,y=.int i/\Q ((oh m i).getD z) c
section
variable {X:Cx}{K:W.Frag}{a:Addr}{m:List (Int × Addr)}{e f:Expr}{x:Str}{p apos cpos:Pos}{ty tx:TE}
def LZ (h:X.K=K) (D:tW K a m) (hg:Gl X x) (hm:X.mg x=some (.ref a)) (he:QE X e ty) (U:QE X f tx) (hd:(x == ("__debug__" : Str))=false:=by decide)
 (d:attributeBase (.Name x p) "get" X.env (eval (.Name x p) X.env)=eval (.Name x p) X.env:=by rfl)
 (j:((backTo cpos (starEach [e,f] X.env)).all (λx=>!x.1) && (backToKw cpos (keywordEach [] X.env)).all (λx=>x.1.isSome)
   && decide (([e,f]:List Expr).length+([]:List Keyword).length+(if ([]:List Keyword).isEmpty then 0 else 1)<30))=true:=by rfl)
 (g:(apos.endLine == cpos.line)=true:=by rfl) (l:backTo cpos (starEach [e,f] X.env)=[(false,eval e X.env),(false,eval f X.env)]:=by rfl) :
 QE X (.Call (.Attribute (.Name x p) "get" apos) [e,f] [] cpos) (B2 m ty tx):=⟨by
 subst h;intro c s σ H Q I h;have ho:PE X (.Name x p) (tC (.ref a)):=(fG (v:=.ref a) hg hm rfl hd).h;refine wpAny_Call_method d j g a2c ZT a2d (aB (ho c s σ H (λv G=>v=.ref a/\B2 m ty tx σ G Q) I ⟨rfl,h⟩) λu s1 ⟨x,V,o,rx,ex,N⟩=>?_);subst ex;obtain rfl:u=Value.ref a:=rx;have d1:=D.rd (P:=X.prog) (w:=X.w) o.kIn;refine⟨d1.typeIs,λb q=>?_,?_⟩
 ·cases q;obtain⟨R,_,_,Y,W,_⟩:=d1;exact⟨R,Y,W.2.1⟩
 rw[l];refine Calls.callWith_builtin rfl (Calls.evalArgs_plain (Calls.spliced_cons (aB (he.h c s1 σ V _ o N) λiv B ⟨y,L,O,C,q2⟩ =>
  Calls.spliced_cons (aB (U.h c B σ L _ O q2) λr s3 ⟨z,H3,n,J,i,M,S⟩=>Calls.spliced_nil ?_))))
 subst M;have d3:=D.rd (P:=X.prog) (w:=X.w) n.kIn;exact call_meetsIn ZT d3.typeIs a0v (PySem.F.args_dict_get_3 _ _ _) (meets_dict_get_default (cy X.prog X.w) a (iw (k:=.inl i) C) D.ns r) ⟨_,d3.mapOf,_,_,n.tok _,EZ m i z r J,S⟩⟩
end
structure ph (h:Heap) (e C:Addr) (od:Option Addr) (tb:Value) (oe:Obj) (vs:Array Value) (q:Option Addr:=none):Prop where
 at_:h.get? e=some oe
 cls:oe.cls=.ref C
 dict:oe.dict=od
 data:oe.data=.fields vs
 size:vs.size=6
 tb1:vs[1]? = some tb
 cx:vs[2]? = some (q.elim .none .ref)
def Bh(h:Heap)(e T:Addr)(fl:Value):Prop:=∃oT ts,h.get? T=some oT/\oT.data=.fields ts/\ts[3]? = some fl/\T≠e
section
variable {M:Model}{A:Around}{E:Value->g0->Prop}{s:g0}
structure XT (l:List Env) (e C T':Addr) (od:Option Addr) (tb fl:Value) (h h':Heap) (q:Option Addr:=none):Prop where
 keep:∀b o,h.get? b=some o->b≠e->.ref b≠tb->b∉dJ l->h'.get? b=some o
 slot:∀b o,h.get? b=some o->b∈dJ l->∃sl,h'.get? b=some { o with slots:=sl }
 there:∀b o,h.get? b=some o->∃o',h'.get? b=some o'
 new:h.objs.size<=T'
 size:h.objs.size<=h'.objs.size
 exc:∃oe vs,ph h' e C od (.ref T') oe vs q
 ent:Bh h' e T' fl
def Wa(h:Heap)(e:Addr)(tb:Value):Prop:=tb=.none\/∃T,tb=.ref T/\Bh h e T .none
end
def xφ(e C:Addr)(a:Option Addr)(q:Option Addr):Heap->Prop:=λh=>∃tb oe vs,ph h e C a tb oe vs q
def xν(e C:Addr)(a:Option Addr):Heap->Prop:=λh=>∃oe vs,ph h e C a .none oe vs
def XO(e C:Addr)(a:Option Addr)(q:Option Addr:=none):HO:=.ext (xφ e C a q)
def XN(e C:Addr)(a:Option Addr):HO:=.ext (xν e C a)
def Bp(P:Program)(w:World):gj:=λouter H s E v a=>∃(e C T:Addr) (c:Option Addr) (q:Option Addr) (b:Hp) (d:Obj) (vs:Array Value),v=.ref e/\a.os=s.os/\AllBare a.gens /\
 Un (dJ outer) [] H b s.heap a.heap/\bT P w b a.heap/\b e=some (XO e C c q)/\s.heap.get? e=none/\s.heap.objs.size<=T/\s.heap.objs.size<=a.heap.objs.size/\b T=none /\
 ph a.heap e C c (.ref T) d vs q/\Bh a.heap e T .none/\E (.ref C) (some e) b
def Wk(X:Cx)(a:List (Addr × Obj))(Es:St->XK)(v:Value)(c:g0):Prop:=∃(σ:St) (b:Hp) (e C:Addr) (d:Option Addr) (q:Option Addr) (tb:Value) (f:Obj) (vs:Array Value),v=.ref e/\ai X a σ b c /\
 b e=some (XO e C d q)/\ph c.heap e C d tb f vs q/\Wa c.heap e tb/\(∀T,tb=.ref T->b T=none/\X.s₀.heap.objs.size<=T/\∀p∈X.pn++a,p.1≠T)/\(X.ex=[]->X.s₀.heap.get? e=none)/\Es σ (.ref C) (some e) b
structure XU (X:Cx) (Es:St->XK):Prop where
 up:∀pins v s',Wk X pins Es v s'->X.xe v s'
structure XW (P:Program) (w:World) (K:W.Frag) (mg:Str->Option Value) (base:Heap) (x:Str) (k:Nat) (f:Addr) (fd:FuncData) (ps:List Str) (dvs:List V) (sp:Sp):Prop where
 g:mg x=some (.ref f)
 kp:W.keepIn K (.ref f)=true
 b:∃ds,ak K fd ps ds/\aM dvs ds
 ok:bH P w K mg base (Bp P w) k f fd ps sp
structure XX (P:Program) (w:World) (K:W.Frag) (mg:Str->Option Value) (base:Heap) (C:Addr) (m:Str) (k:Nat) (f:Addr) (fd:FuncData) (ps:List Str) (dvs:List V) (sp:Sp):Prop where
 c:cF K C
 mt:bd K C m f
 b:∃ds,ak K fd ps ds/\aM dvs ds
 ok:bH P w K mg base (Bp P w) k f fd ps sp
structure XZ (P:Program) (w:World) (K:W.Frag) (mg:Str->Option Value) (base:Heap) (x:Str) (C:Addr) (k:Nat) (f:Addr) (fd:FuncData) (ps:List Str) (dvs:List V) (sp:Sp):Prop where
 g:mg x=some (.ref C)
 mkx:Mk K C f
 b:∃ds,ak K fd ps ds/\aM dvs ds
 ok:bH P w K mg base (Bp P w) k f fd ps sp
abbrev FZ:List Value:=[.type "ValueError",.type "Exception",.type "BaseException",.type "object"]
section
variable {X:Cx}{pins:List (Addr × Obj)}{σ:St}{H:Hp}{s:g0}{h':Heap}
abbrev Cx.tryc(X:Cx)(pn:List (Addr × Obj))(W:Value->g0->Prop):Cx:={ X with pn:=pn,xe:=W }
def Cx.Ok.tryc{pn:List (Addr × Obj)}{W:Value->g0->Prop}(ok:X.Ok):(X.tryc pn W).Ok :=
 ⟨ok.mod,ok.kind,ok.glob,ok.blt,ok.above,ok.inj,ok.has,ok.cab,ok.hd,ok.frames,ok.stk,ok.exf,ok.bs,ok.bsz,ok.noex,ok.exfs,ok.funs,ok.frf⟩
def Cx.Ok.untry{pn:List (Addr × Obj)}{W:Value->g0->Prop}(ok:(X.tryc pn W).Ok):X.Ok :=
 ⟨ok.mod,ok.kind,ok.glob,ok.blt,ok.above,ok.inj,ok.has,ok.cab,ok.hd,ok.frames,ok.stk,ok.exf,ok.bs,ok.bsz,ok.noex,ok.exfs,ok.funs,ok.frf⟩
def ai.tryc{W:Value->g0->Prop}(I:ai X pins σ H s):ai (X.tryc (X.pn++pins) W) [] σ H s :=
 ⟨I.ok.tryc,I.os,I.bare,I.base,I.loc,I.cell,I.free,I.freeC,λp a=>I.pin p (by simpa using a),I.hok,I.len⟩
def ai.untry{W:Value->g0->Prop}{a:List (Addr × Obj)}(I:ai (X.tryc (X.pn++pins) W) a σ H s):ai X pins σ H s :=
 ⟨I.ok.untry,I.os,I.bare,I.base,I.loc,I.cell,I.free,I.freeC,λp b=>I.pin p (Y1 _ b),I.hok,I.len⟩
def SP.untry{W:Value->g0->Prop}{D:fN}{f:Flow}(h:SP (X.tryc (X.pn++pins) W) [] D f s):SP X pins D f s:=by
 cases f with
 | next=>obtain⟨a,b,I,q⟩:=h;exact⟨a,b,I.untry,q⟩
 | brk=>obtain⟨a,b,I,q⟩:=h;exact⟨a,b,I.untry,q⟩
 | cont=>obtain⟨a,b,I,q⟩:=h;exact⟨a,b,I.untry,q⟩
 | ret u=>obtain⟨v,a,b,I,r,q⟩:=h;exact⟨v,a,b,I.untry,r,q⟩
end
structure gg (P:Program) (w:World) (K:W.Frag) (mg:Str->Option Value) (base:Heap) (x:Str) (C:Addr) (k:Nat) (f:Addr) (fd:FuncData) (ps:List Str) (dvs:List V) (sp:Sp):Prop where
 g:mg x=some (.ref C)
 mkx:Mk K C f
 b:∃ds,ak K fd ps ds/\aM dvs ds
 ok:bH P w K mg base bO k f fd ps sp
section
variable {X:Cx}{k j:Nat}{f C:Addr}{fd:FuncData}{ps:List Str}{sp:Sp}{x:Str}{p pos:Pos}{e:Expr}{es:List Expr}{t:TA}{dvs:List V}
def dq{c b:TE}(f:QE X e c)(d:QE X e b):QE X e (λσ H Q=>c σ H Q\/b σ H Q) :=
 ⟨λa s σ H Q I z=>z.elim (f.h a s σ H Q I) (d.h a s σ H Q I)⟩
def fW(F:gg X.prog X.w X.K X.mg X.base x C j f fd ps dvs sp)(hr:bS k X.A)(d:QA X (e::es) t)(i:j+1<=k:=by decide)(l:Gl X x:=by rfl)(a:(x == ("__debug__" : Str))=false:=by decide)(c:di (e::es)=true:=by rfl) :
 QE X (.Call (.Name x p) (e::es) [] pos) (pR C sp dvs E0 t):=by
 obtain⟨ds,hb,hd⟩:=F.b;exact⟨MR F.mkx F.ok (hr.mono i) l F.g hb hd mG d.h a (cS (du c).1) (gU (du c).2)⟩
def Dg(F:gg X.prog X.w X.K X.mg X.base x C j f fd ps dvs sp)(hr:bS k X.A)(c:j+1<=k:=by decide)(d:Gl X x:=by rfl)(a:(x == ("__debug__" : Str))=false:=by decide) :
 QE X (.Call (.Name x p) [] [] pos) (pR C sp dvs E0 jL):=by
 obtain⟨ds,hb,hd⟩:=F.b;exact⟨MQ F.mkx F.ok (hr.mono c) d F.g hb hd mG a⟩
end
end L2
namespace L2
open PySem PySem.Spec PyProof.Rows PySem.W
structure Bf (K:W.Frag) (C:Addr):Prop where
 ga:findIn K (.ref C) "__getattribute__" = some (some (.builtin "BaseException.__getattribute__"))
 noga:findIn K (.ref C) "__getattr__" = some none
 base:mroIn K C (.type "BaseException")=some true
 obj:mroIn K C (.type "object")=some true
 hd:hasDictIn K C=true
 cls:findIn K (.ref C) "__class__" = some (some (.builtin "object.__class__"))
 clsG:specialIn K (.builtin "object.__class__") "__get__" = some (some (.builtin "getset_descriptor.__get__"))
 clsT:takesIn K (.builtin "object.__class__")=some true
inductive Bg (K:W.Frag) (H:Hp):V->Value->Prop where
 | of {x:V} {t:Value} (h:cw K H x t):Bg K H x t
 | exc {e C:Addr} {q:Option Addr} (h:H e=some (XO e C none q)) (c:Bf K C):Bg K H (.ref e) (.ref C)
def Fs(K:W.Frag)(C:Addr)(bmB:List Value)(newId:String):Bool:=match K.lookup C with
 | some ⟨.type "type",_,.cls cd,sl⟩=>(match cd.mro,sl.toList with
  | .ref C'::bm,[_,_,_,_,some (.builtin n),_]=>C' == C && (n == newId && (!cd.hasDel && (W.tailIn K bmB bm && W.nsOkIn K cd.ns)))
  | _,_=>false)
 | _=>false
structure Gp (K:W.Frag) (C f:Addr):Prop where
 x:Fs K C FZ "ValueError.__new__" = true
 init:W.findIn K (.ref C) "__init__" = some (some (.ref f))
 fn:W.isFn K (.ref f)=true
 kp:W.keepIn K (.ref C)=true
structure X5 (P:Program) (w:World) (K:W.Frag) (mg:Str->Option Value) (base:Heap) (x:Str) (C:Addr) (k:Nat) (f:Addr) (fd:FuncData) (ps:List Str) (sp:Sp):Prop where
 g:mg x=some (.ref C)
 mkx:Gp K C f
 b:ak K fd ps []
 ok:bH P w K mg base bO k f fd ps sp
section
variable {X:Cx}{pins:List (Addr × Obj)}{σ:St}{H:Hp}{s:g0}{h':Heap}{e C d0:Addr}{fs:List (Str × V)}{f:Str}
structure XS (K:W.Frag) (C:Addr):Prop where
 x:Fs K C FZ "ValueError.__new__" = true
 c:Bf K C
 sa:W.findIn K (.ref C) "__setattr__" = some (some (.builtin "object.__setattr__"))
end
structure X9 (K:W.Frag) (Y:Addr):Prop where
 sp:W.specialIn K (.ref Y) "__getattribute__" = some (some (.builtin "type.__getattribute__"))
 rd:W.readsIn K Y (.type "type")=true
 fc:W.findCls K (.ref Y) (.type "type") "__init__" = some (.val (.builtin "ValueError.__init__"))
inductive Gj (K:W.Frag) (H:Hp):V->Value->Prop where
 | of {x:V} {t:Value} (h:Bg K H x t):Gj K H x t
 | exd {e C d0:Addr} {fs:List (Str × V)} (h:H e=some (XN e C (some d0))\/∃q,H e=some (XO e C (some d0) q)) (hd:H d0=some (.xd fs)) (c:Bf K C):Gj K H (.ref e) (.ref C)
structure Wb (k:Nat) (A:Around):Prop where
 dp:A.depth+3*k+5<recursionLimit
 un:A.units+16*k+200<cLine
structure Bn (P:Program) (w:World) (K:W.Frag) (mg:Str->Option Value) (base:Heap) (k:Nat) (f:Addr) (fd:FuncData) (ps:List Str) (sp:Sp):Prop where
 len:∀vs H Q E,sp vs H Q E->vs.length=ps.length
 run:∀(A:Around) (outer:List Env) (s:g0) (H:Hp) (args:Args) (us:List Value) (vs:List V) (Q:VK) (E:XK),Wb k A->ja P w K mg base A outer s H->BindsTo s fd args (ps.zip us)->aM vs us->sp vs H Q E ->
  codeAny (model P w) A (.call (.ref f) args) (CR bO outer P w H s Q E) s
structure X4 (P:Program) (w:World) (K:W.Frag) (mg:Str->Option Value) (base:Heap) (x:Str) (C:Addr) (k:Nat) (f:Addr) (fd:FuncData) (ps:List Str) (sp:Sp):Prop where
 g:mg x=some (.ref C)
 mkx:Gp K C f
 b:ak K fd ps []
 ok:Bn P w K mg base k f fd ps sp
section
variable {X:Cx}{k j:Nat}{f C:Addr}{fd:FuncData}{ps:List Str}{sp:Sp}{x m:Str}{p pos:Pos}{e:Expr}{es:List Expr}{t:TA}{dvs:List V}{ds:List Value}{Es:St->XK}
structure X3 (P:Program) (w:World) (K:W.Frag) (mg:Str->Option Value) (base:Heap) (x:Str) (k:Nat) (f:Addr) (fd:FuncData) (ps:List Str) (sp:Sp):Prop where
 g:mg x=some (.ref f)
 kp:W.keepIn K (.ref f)=true
 b:ak K fd ps []
 ok:Bn P w K mg base k f fd ps sp
end
section
variable {X:Cx}{K:W.Frag}{o i value:Expr}{td ty tv:TE}{pos pos':Pos}
def SA:R2:=λy x H Q=>∃a ov,x=.ref a/\cK H a y ov/\Q (.bl (!ov.isSome)) H
def E5(h:X.A.units+64<cLine):bb X (compareOp .NotIn) SA:=by
 intro b s σ H x y v u Q I e d q;obtain⟨a,f,rfl,g,q⟩:=q;obtain rfl:u=Value.ref a:=d;exact S5 (by omega) I g e λi c=>⟨.bl (!f.isSome),H,c,rfl,q⟩
def uS(c:X.A.units+64<cLine)(b:QE X o td)(a:QE X i ty)(hs:tT i:=by intro _ _;rfl):QE X (.Subscript o i pos) (B4 td ty):=⟨MY (by omega) b.h a.h hs⟩
def qh(d:X.A.units+64<cLine)(b:QE X o td)(a:QE X i ty)(c:QE X value tv)(hs:swapsWith value (some (.Subscript o i pos')) pos.line X.env=pure false:=by rfl):QS X (.Assign [.Subscript o i pos'] value pos) (CT td ty tv):=⟨Mo (by omega) b.h a.h c.h hs⟩
end
section
variable {X:Cx}{K:W.Frag}{k j:Nat}{f C:Addr}{fd:FuncData}{ps:List Str}{sp:Sp}{x m:Str}{p pos apos pos' tpos:Pos}{e o value:Expr}{es:List Expr}{ta tv:TE}{t:TA}
def uR{f:Str}(h:X.K=K)(b:QE X o ta)(a:QE X value tv):QS X (.AugAssign (.Attribute o f tpos) .Add value pos) (CQ K ta tv C4 f):=by subst h;exact⟨Ml b.h a.h PJ⟩
structure XY (P:Program) (w:World) (K:W.Frag) (mg:Str->Option Value) (base:Heap) (C:Addr) (m:Str) (k:Nat) (f:Addr) (fd:FuncData) (ps:List Str) (sp:Sp):Prop where
 c:cF K C
 mt:bd K C m f
 b:ak K fd ps []
 ok:Bn P w K mg base k f fd ps sp
end
section
variable {X:Cx}{K:W.Frag}
def SD:R2:=λy x H Q=>∃a ov,x=.ref a/\cK H a y ov/\Q (.bl ov.isSome) H
def qN(h:X.A.units+64<cLine):bb X (compareOp .In) SD:=by
 intro b s σ H x y v u Q I e d q;obtain⟨a,f,rfl,g,q⟩:=q;obtain rfl:u=Value.ref a:=d;exact S6 (by omega) I g e λi c=>⟨.bl f.isSome,H,c,rfl,q⟩
def Fb(K:W.Frag):V->List V->Hp->VK->Prop:=λx vs H Q=>∃(a:Addr) (y:V) (xs:List V) (j:Nat),x=.ref a/\vs=[y]/\H a=some (.lst xs)/\fI y=true/\xs.all fI=true/\(∃z,xs[j]? = some z/\d6 z y=true)/\(∀i z,i<j->xs[i]? = some z->d6 z y=false)/\Q (.int (j:Int)) H
def OO:eK X "list.index" (Fb X.K):=by
 intro o s σ H x vs v us Q I R L q;obtain⟨a,y,xs,j,rfl,rfl,hx,V,fx,⟨z,hz,J⟩,m,q⟩:=q;cases R;obtain⟨u,rfl,O⟩:=iD L;obtain⟨b,l,pl,hsz⟩:=I.list (.of hx);have hl:=l.length;have G:j<b.length:=by have:=(Yr.mp hz).1;omega
 obtain⟨⟨S,U,M,N⟩,n,C,p,r,B⟩:=pl;simp only at p r B;subst p r B;have at_:∀i (f:i<b.toArray.size),∃z,xs[i]? = some z/\d7 y b.toArray[i]=d6 z y:=λi f=>by
  have c:i<xs.length:=by rw[Yv]at f;omega
  obtain⟨w,hw,g⟩:=l.get (i:=i) (x:=xs[i]) (by simp[c]);have e:b.toArray[i]=w:=by simpa using (Yr.mp hw).2
  refine⟨xs[i],by simp[c],?_⟩;rw[e];exact xG g (ZV.mp fx _ (a0l c))
 refine call_meets a1k ⟨_,C,rfl⟩ PySem.F.entry_list_index (PySem.F.args_list_index_2 _ _)
  (SeqAt.list_indexAt a b.toArray n _ _ u (d7 y) j (by simpa using G) ?_ ?_ ?_) ⟨C,λw hw=>mJ O V l fx w (by simpa using hw),⟨.int j,H,I.tok _,⟨_,rfl⟩,q⟩⟩
 ·have:sizeLine<=2 ^ 40:=by decide
  have:(2:Int) ^ 63=9223372036854775808:=by decide
  have:(2:Nat) ^ 40=1099511627776:=by decide
  omega
 ·obtain⟨D,d,h⟩:=at_ j (by simpa using G);rw[hz]at d;cases d;rw[h];exact J
 ·intro i f k;obtain⟨D,d,h⟩:=at_ i f;rw[h];exact m i D k d
def DV (h:X.K=K):eK X "list.index" (Fb K):=by subst h;exact OO
end
section
open HT
variable {prog:Program}{w:World}{A:Around}{E:Value->g0->Prop}{s:g0}
def Rh{t d:Addr}{items:Array Value}{i g:Value}{lo c:Option Int}{Q:Value->g0->Prop}(b:IsTup s.heap t items)(hs:s.heap.IsSliceOf d i g .none)(pl:IsPart i lo)(k:IsPart g c)
 (hw:sIx items.size 0 lo=0/\sIx items.size items.size c=items.size) (h:Q (.ref t) s):wpAny (model prog w) A (getItem (.ref t) (.ref d)) Q E s:=by
 obtain⟨os,f,e,j⟩:=id hs;have hTs:s.TypeIs (.ref d) "slice":=⟨os,f,e⟩;unfold getItem
 try with_reducible refine wpAny_holding ?_
 first|refine kb (no ?_)|skip
 refine kb (wpAny_sequenceKey b.typeIs (by decide) ?_);refine kb (wpAny_callSpecial?_slot (name:=Str.ofString "__getitem__") b.typeIs ZJ
  (wpAny_call_entry ZJ b.typeIs entry_tuple_getitem ?_ (args_tuple_getitem _ _)))
 show wpAny _ _ (Builtin.Tuple.tupleItemsOf (.ref t) >>= _) _ _ s;refine kb (tupleItemsOf_ b ?_);refine kb (wpAny_typeOf hTs ?_);rw[aaa (by decide)];refine kb (Ct hs pl k ?_);have a:((((sIx items.size 0 lo:Nat):Int) == 0 && (1:Int) == 1 && (sIx items.size items.size c-sIx items.size 0 lo) == items.size)=true):=by
  rw[hw.1,hw.2];simp
 show wpAny _ _ (if (((sIx items.size 0 lo:Nat):Int) == 0 && (1:Int) == 1 && (sIx items.size items.size c-sIx items.size 0 lo) == items.size)=true then _ else _) _ _ s;rw[aaa a];unfold Builtin.Tuple.tupleIsExact;refine kb (kb (wpAny_typeOf b.typeIs (no ?_)));rw[aaa (by decide)];refine kb (wpAny_rule ?_)
 first
  | exact no ⟨_,rfl,no h⟩
  | exact kb (no ⟨_,rfl,no h⟩)
  | exact kb (no (no ⟨_,rfl,no h⟩))
end
section
variable {X:Cx}{K:W.Frag}{pos:Pos}
def O5:TE:=λ_ H Q=>∀p H',bc H p (.dT []) H'->Q (.ref p) H'
def Dd:QE X (.Dict [] [] pos) O5:=⟨MV.imp λσ H Q q=>λp a=>q p _ (.mk' a)⟩
def E9(K:W.Frag):V->Option Int->Option Int->Hp->VK->Prop:=λx lo b H Q=>match x with
 | .ref a=>∃xs,bq K H a xs/\H a=some (.tup xs)/\∀p H',ah H H'->H' p=some (.tup (cn xs lo b))->Q (.ref p) H'
 | _=>False
def RP:i6 X (E9 X.K):=by
 intro b s σ H x v n m lo g k Q I f hs pl j q;cases x with
 | ref a =>
  obtain⟨xs,h,l,q⟩:=q;by_cases hw:HT.sIx xs.length 0 lo=0/\HT.sIx xs.length xs.length g=xs.length
  ·cases f;obtain⟨d,r,i,hz⟩:=I.tuple h;have c:d.toArray.size=xs.length:=by rw[Yv];exact r.length.symm
   refine⟨"tuple",_,ZJ.lookup,i.typeIs,?_⟩;refine Rh i hs pl j (by rw[c];exact hw) ?_;refine⟨.ref a,H,I,rfl,q a H (ah.refl _) ?_⟩;rw[l];unfold cn;rw[hw.1,hw.2,ZX,YW (by omega)]
  ·exact Kg b s σ H _ v n m lo g k Q I f hs pl j ⟨a,xs,rfl,h,hw,λp e=>q p _ (bc.mk' e).sm (bc.mk' e).at_⟩
 | _=>exact False.elim q
def E3(h:X.K=K):i6 X (E9 K):=by subst h;exact RP
end
structure Gs (K:W.Frag) (Y f:Addr):Prop where
 sp:W.specialIn K (.ref Y) "__getattribute__" = some (some (.builtin "type.__getattribute__"))
 rd:W.readsIn K Y (.type "type")=true
 fc:W.findCls K (.ref Y) (.type "type") "__init__" = some (.val (.ref f))
structure Gv (P:Program) (w:World) (K:W.Frag) (mg:Str->Option Value) (base:Heap) (j:Nat) (f:Addr) (fd:FuncData) (ps:List Str) (dvs:List V) (sp:Sp):Prop where
 kp:W.keepIn K (.ref f)=true
 b:∃ds,ak K fd ps ds/\aM dvs ds
 ok:bH P w K mg base bO j f fd ps sp
section
variable {X:Cx}{K:W.Frag}{Y g:Addr}{y:Str}{np apos pos:Pos}{a:Expr}{es:List Expr}{t:TA}{k j:Nat}{fd:FuncData}{ps:List Str}{sp:Sp}{dvs:List V}
def LX{pl:Sem Bool}(h:X.K=K)(B:Gs K Y g)(hm:X.mg y=some (.ref Y))(F:Gv X.prog X.w X.K X.mg X.base j g fd ps dvs sp)(hr:bS k X.A)(z:QA X (a::es) t)(L:j<=k:=by decide)(D:Gl X y:=by rfl)(hd:(y == ("__debug__" : Str))=false:=by decide)(i:di (a::es)=true:=by rfl)
 (J:eval (.Call (.Attribute (.Name y np) "__init__" apos) (a::es) [] pos) X.env=(do
   let ov <- eval (.Name y np) X.env
   standAt apos.atName
   let (f,first) <- holding [ov] (getMethod ov "__init__" pl)
   callWith pos f first (backTo pos (starEach (a::es) X.env)) (backToKw pos (keywordEach [] X.env))):=by rfl) :
 QE X (.Call (.Attribute (.Name y np) "__init__" apos) (a::es) [] pos) (jM sp dvs E0 t):=⟨by
 subst h;intro c s σ H Q I h;have G:PE X (.Name y np) (tC (.ref Y)):=(fG (v:=.ref Y) D hm rfl hd).h;refine W.methodCall_KW (pl:=pl) (aB (G c s σ H (λv p=>v=.ref Y/\jM sp dvs E0 t σ p Q) I ⟨rfl,h⟩) λu s1 ⟨x,n,d,o,ex,q⟩=>?_) J;subst ex;obtain rfl:u=Value.ref Y:=o;refine W.method_cls d.kIn B.sp (W.cls_value (s:=s1) d.kIn B.rd B.fc rfl ?_);have m:=d.tok (s1.toks+1);obtain⟨ds,hb,e⟩:=F.b;refine W.callWith_K (h₀:=X.base) m.ok.mod.kin F.kp (aB (z.h pos c { s1 with toks:=s1.toks+1 } σ n _ m q) λus M ⟨vs,N,l,r,C⟩=>⟨l.kIn,?_⟩) (cS (du i).1) (gU (du i).2);exact qe F.ok (hr.mono L) hb e Dt l r C⟩
end
section
variable {X:Cx}{o e:Expr}{apos cpos:Pos}{td ty:TE}
def Dh (d:X.A.units+64<cLine) (b:QE X o td) (he:QE X e ty) (hb:attributeBase o "get" X.env (eval o X.env)=eval o X.env:=by rfl)
 (a:((backTo cpos (starEach [e] X.env)).all (λx=>!x.1) && (backToKw cpos (keywordEach [] X.env)).all (λx=>x.1.isSome)
   && decide (([e]:List Expr).length+([]:List Keyword).length+(if ([]:List Keyword).isEmpty then 0 else 1)<30))=true:=by rfl)
 (hl:(apos.endLine == cpos.line)=true:=by rfl) (c:backTo cpos (starEach [e] X.env)=[(false,eval e X.env)]:=by rfl) :
 QE X (.Call (.Attribute o "get" apos) [e] [] cpos) (B3 td ty):=⟨MX (by omega) b.h he.h ⟨hb,a,hl,c⟩⟩
end
def strOf? : Value->Option Str
 | .str x _=>some x
 | _=>none
def refOf? : Value->Option Addr
 | .ref a=>some a
 | _=>none
def strOf?.eq{v:Value}{x:Str}(h:strOf? v=some x):∃t,v=.str x t:=by
 cases v<;>first|(cases h;exact⟨_,rfl⟩)|cases h
def refOf?.eq{v:Value}{a:Addr}(h:refOf? v=some a):v=.ref a:=by
 cases v<;>first|(cases h;rfl)|cases h
def iZ:List DictEntry->Option (List (Int × Str × Addr))
 | []=>some []
 | e::r=>(strOf? e.key).bind λx=>(refOf? e.val).bind λa=>(iZ r).map λl=>(e.hash,x,a)::l
theorem iZ.pairs{P:Program}{w:World}:∀ {b:List DictEntry} {m:List (Int × Str × Addr)},iZ b=some m->(∀p∈m,p.1=hashStr w p.2.1) ->
 (∀e∈b,∃k,(cy P w).is k e.key=true/\e.hash=(cy P w).hash k)/\Pairs (cy P w) b (m.map λp=>((Sum.inr p.2.1:aU),Value.ref p.2.2))
 | [],m,h,_=>by cases h;exact⟨λ_ z=>(nomatch z),.nil⟩
 | e::r,m,h,hs=>by
  unfold iZ at h;obtain⟨x,hx,h⟩:=Z2.mp h;obtain⟨a,i,h⟩:=Z2.mp h;obtain⟨l,hl,h⟩:=Zk.mp h;subst h;obtain⟨n,d⟩:=strOf?.eq hx;obtain⟨g,j⟩:=iZ.pairs (P:=P) (w:=w) hl λp f=>hs p (Y6 _ f);have c:(cy P w).is (.inr x) e.key=true:=by rw[d];exact DS P w x n
  refine⟨λe' he=>?_,.cons c (refOf?.eq i) j⟩;rcases Yz.mp he with rfl|he
  ·exact⟨.inr x,c,hs _ Zo⟩
  ·exact g e' he
structure pI (K:W.Frag) (w:World) (a:Addr) (m:List (Int × Str × Addr)):Prop where
 ex:∃es ep,K.lookup a=some ⟨.type "dict",none,.dict es ep,#[]⟩/\iZ es.toList=some m
 hs:∀p∈m,p.1=hashStr w p.2.1
 nd:(m.map (·.2.1)).Nodup
 ns:(a == sysModules)=false
def pI.rd{K:W.Frag}{a:Addr}{m:List (Int × Str × Addr)}{P:Program}{w:World}{h:Heap}(D:pI K w a m)(X:K.In h):h.DictOf (cy P w) a (m.map λp=>((Sum.inr p.2.1:aU),Value.ref p.2.2)):=by
 obtain⟨f,c,l,e⟩:=D.ex;obtain⟨g,d⟩:=iZ.pairs (P:=P) (w:=w) e D.hs;refine⟨_,f,c,X _ _ l,⟨rfl,rfl,rfl⟩,rfl,λe he=>g e (a2l.mpr he),d,?_⟩;rw[Z3];have:(((λx=>x.1) ∘ λp:Int × Str × Addr=>((Sum.inr p.2.1:aU),Value.ref p.2.2)):Int × Str × Addr->aU)=(λi:Str=>(Sum.inr i:aU)) ∘ (·.2.1):=rfl;rw[this,<- Z3];exact List.Pairwise.map _ (λa b (z:a≠b) (q:(Sum.inr a:aU)=Sum.inr b)=>z (Sum.inr.inj q)) D.nd
def gY(m:List (Int × Str × Addr))(z:Str):Option Addr:=(m.find? λp=>decide (p.2.1=z)).map (·.2.2)
theorem vE:∀(m:List (Int × Str × Addr)) (z:Str),valueAt (m.map λp=>((Sum.inr p.2.1:aU),Value.ref p.2.2)) (Sum.inr z)=(gY m z).map Value.ref
 | [],z=>rfl
 | p::m,z=>by
  have ih:=vE m z;unfold gY valueAt at ih ⊢;rw[YO,Y2,Y2];by_cases c:p.2.1=z
  ·have a:(Sum.inr p.2.1:aU)=Sum.inr z:=congrArg _ c;simp only [aad c,aad a,Y9]
  ·have a:¬(Sum.inr p.2.1:aU)=Sum.inr z:=λq=>c (Sum.inr.inj q);simp only [aae c,aae a];exact ih
def SC(a:Addr)(m:List (Int × Str × Addr))(neg:Bool):R2:=λx y H Q=>∃z,x=.str z/\y=.ref a/\Q (.bl (if neg then !(gY m z).isSome else (gY m z).isSome)) H
section
variable {X:Cx}{K:W.Frag}{w:World}{a:Addr}{m:List (Int × Str × Addr)}
def RX(h:X.K=K)(hw:X.w=w)(D:pI K w a m):bb X (compareOp .NotIn) (SC a m true):=by
 subst h hw;intro b s σ H x y v u Q I d c q;obtain⟨z,rfl,rfl,q⟩:=q;obtain rfl:u=Value.ref a:=c;refine wpAny_notIn_of (iw (k:=.inr z) d) D.ns (D.rd (P:=X.prog) (w:=X.w) I.kIn).mapOf ?_;rw[vE,a0b];exact⟨.bl _,H,I.tok _,rfl,q⟩
def LY{i:Expr}{e:TE}{x:Str}{p pos:Pos}(h:X.K=K)(hw:X.w=w)(D:pI K w a m)(J:Gl X x)(hm:X.mg x=some (.ref a))(q:QE X i e)(hs:tT i:=by intro _ _;rfl)(hd:(x == ("__debug__" : Str))=false:=by decide) :
 QE X (.Subscript (.Name x p) i pos) (λσ H Q=>e σ H λy d=>∃z b,y=.str z/\gY m z=some b/\Q (.ref b) d):=⟨by
 subst h hw;intro c s σ H Q I h;have F:PE X (.Name x p) (tC (.ref a)):=(fG (v:=.ref a) J hm rfl hd).h;refine B9 a2a.lookup hs (aB (F c s σ H (λv r=>v=.ref a/\e σ r λy d=>∃z b,y=.str z/\gY m z=some b/\Q (.ref b) d) I ⟨rfl,h⟩) λu s1 ⟨x,d,L,o,ex,l⟩=>aB (q.h c s1 σ d _ L l) λN M ⟨y,C,j,n,z,b,G,g,B⟩=>?_);subst ex G;obtain rfl:u=Value.ref a:=o;have f:=D.rd (P:=X.prog) (w:=X.w) j.kIn;exact⟨f.typeIs,wpAny_getItem_of (iw (k:=.inr z) n) f.mapOf (by rw[vE,g];rfl) ⟨.ref b,C,j.tok _,rfl,B⟩⟩⟩
end
structure Gw (P:Program) (w:World) (K:W.Frag) (mg:Str->Option Value) (base:Heap) (x:Str) (k:Nat) (f:Addr) (fd:FuncData) (ps:List Str) (dvs:List V) (sp:Sp):Prop where
 g:mg x=some (.ref f)
 kp:W.keepIn K (.ref f)=true
 b:∃ds,ak K fd ps ds/\aM dvs ds
 ok:bH P w K mg base bO k f fd ps sp
section
variable {X:Cx}{k j:Nat}{f:Addr}{fd:FuncData}{ps:List Str}{sp:Sp}{x:Str}{p pos:Pos}{e:Expr}{es:List Expr}{t:TA}{dvs:List V}
def L0(F:Gw X.prog X.w X.K X.mg X.base x j f fd ps dvs sp)(hr:bS k X.A)(d:QA X (e::es) t)(i:j<=k:=by decide)(l:Gl X x:=by rfl)
 (a:(x == ("__debug__" : Str))=false:=by decide) (c:di (e::es)=true:=by rfl):QE X (.Call (.Name x p) (e::es) [] pos) (jM sp dvs E0 t):=by
 obtain⟨ds,hb,hd⟩:=F.b;exact⟨Dr F.ok (hr.mono i) l F.g F.kp hb hd mG d.h a (cS (du c).1) (gU (du c).2)⟩
def uO{body:List Stmt}{h₀:ExceptHandler}{tb:TS}(hb:∀pn,gF (X.tryc pn λ_ _=>False) body tb):QS X (.Try body [h₀] [] [] pos) tb:=⟨by
 intro a s σ H D I h;refine wpAny_Try_except (wpAny_mono ((hb (X.pn++a)).h [] s σ H D I.tryc h) (λf s1 q=>?_) λv s1 q=>q.elim);cases f with
 | next=>obtain⟨b,d,c,q⟩:=q;exact wpAny_execs_nil ⟨b,d,c.untry,q⟩
 | brk=>exact SP.untry (f:=.brk) q
 | cont=>exact SP.untry (f:=.cont) q
 | ret u=>exact SP.untry (f:=.ret u) q⟩
end
def iH:List Str->List Value->Bool
 | [],[]=>true
 | n::r,.str m _::u=>decide (n=m) && iH r u
 | _,_=>false
theorem iH.vals:∀ {ns:List Str} {us:List Value},iH ns us=true->aM (ns.map V.str) us
 | [],[],_=>.nil
 | n::r,.str m _::u,h=>by
  have h':(decide (n=m) && iH r u)=true:=h;rw[YT,decide_eq_true_eq]at h';obtain⟨rfl,a⟩:=h';exact .cons ⟨_,rfl⟩ (iH.vals a)
def IB {K:W.Frag} {a:Addr} {d:Option Addr} {b:Array Value} {n:Nat} {c:Array (Option Value)} {ns:List Str} (h:K.lookup a=some ⟨.type "tuple",d,.seq b n,c⟩) (e:iH ns b.toList=true) (hz:b.size<=1000:=by decide) (H:Hp):bq K H a (ns.map V.str) :=
 .inr ⟨_,b,n,h,rfl,rfl,sz (a1f hz),iH.vals e⟩
def gM:List Value->Option (List Addr)
 | []=>some []
 | .ref m::u=>(match gM u with|some l=>some (m::l)|none=>none)
 | _=>none
theorem gM.vals:∀ {us:List Value} {ns:List Addr},gM us=some ns->aM (ns.map V.ref) us
 | [],ns,h=>by cases h;exact .nil
 | .ref m::u,ns,h=>by
  unfold gM at h;cases q:gM u with
  | none=>rw[q]at h;cases h
  | some l=>rw[q]at h;cases h;exact .cons rfl (gM.vals q)
def BD {K:W.Frag} {a:Addr} {d:Option Addr} {b:Array Value} {n:Nat} {c:Array (Option Value)} {ns:List Addr} (h:K.lookup a=some ⟨.type "tuple",d,.seq b n,c⟩) (e:gM b.toList=some ns) (hz:b.size<=1000:=by decide) (H:Hp):bq K H a (ns.map V.ref) :=
 .inr ⟨_,b,n,h,rfl,rfl,sz (a1f hz),gM.vals e⟩
end L2
namespace L2
open PySem
def Ti{lo c:Int}{n:Nat}{cs:St}{k:TT}{r:TE}{H:Hp}{Q:VK}(f:Nat->List V->Hp->Prop)(v:f 0 [] H)(hl:∀i ys H,i<=n->f i ys H->ys.length<=i)(hz:n<=sizeLine)
 (hs:∀i ys H (N:List V->Hp->Prop),i<n->f i ys H->(∀a d,f (i+1) a d->N a d)->k (some (.int (lo+i*c))::cs) H λb q=>if b=true then r (some (.int (lo+i*c))::cs) q λy s=>N (ys++[y]) s else N ys q)
 (hd:∀ys H p d,f n ys H->bc H p (.lst ys) d->Q (.ref p) d) :
 jc (jI lo c n) H (List.replicate 1 none++cs) (eB 0) k r Q:=by
 refine⟨λi m ys σ H=>m=n-i/\i<=n/\f i ys H/\∃h,σ=h::cs,⟨n,by simp,YS _,v,none,rfl⟩,?_⟩;rintro i m ys σ o ⟨rfl,u,p,h,rfl⟩;have B:=hl i ys o u p;by_cases hlt:i<n
 ·refine .inr ⟨hlt,by omega,λa l d=>f (i+1) a d/\∃h,l=h::cs,λa l d ⟨j,e⟩=>⟨n-(i+1),by omega,rfl,hlt,j,e⟩,λx d y=>?_⟩;obtain⟨e,y⟩:=y;subst e y;exact hs i ys d (λa d=>f (i+1) a d/\∃h,some (V.int (lo+i*c))::cs=h::cs) hlt p λ_ _ z=>⟨z,_,rfl⟩
 ·have e:i=n:=by omega
  subst e;exact .inl ⟨Ym _,by omega,λj d g=>hd ys o j d p g⟩
def Tf{lo c:Int}{n:Nat}{cs:St}{j:TE}{H:Hp}{Q:VK}(d:List V)(hl:d.length=n)(hz:n<=sizeLine)
 (hs:∀(i:Nat) y a (N:VK),i<n->d[i]? = some y->ah H a->(∀b,ah a b->N y b)->j (some (.int (lo+i*c))::cs) a N) (hd:∀p a,bc H p (.lst d) a->Q (.ref p) a) :
 jc (jI lo c n) H (List.replicate 1 none++cs) (eB 0) iE j Q:=by
 refine Ti (λi ys a=>ah H a/\ys=d.take i) ⟨ah.refl _,rfl⟩ (λi ys a f z=>by rw[z.2,Yp];omega) hz (λi ys a N f z hN=>?_) λys a p b z g=>?_
 ·obtain⟨s,rfl⟩:=z;have e:i<d.length:=by omega
  have h:d[i]? = some d[i]:=YM e;simp only [iE,if_true];exact hs i _ a _ f h s λb k=>hN _ _ ⟨s.trans k,by rw[de h]⟩
 ·obtain⟨s,rfl⟩:=z;rw[<- hl,Yy]at g;exact hd p b (g.after s)
end L2
namespace My
open PySem L2
def Ya{X:Cx}(K:W.Frag)(h:X.K=K:=by rfl):=bj (X:=X) (K:=K) h
def Yb{X:Cx}(K:W.Frag)(h:X.K=K:=by rfl):=bD (X:=X) (K:=K) h
def Yc{X:Cx}(K:W.Frag)(h:X.K=K:=by rfl):=aF (X:=X) (K:=K) h
def Yd{X:Cx}(K:W.Frag)(h:X.K=K:=by rfl):=cJ (X:=X) (K:=K) h
def Ye{X:Cx}(K:W.Frag)(h:X.K=K:=by rfl):=gC (X:=X) (K:=K) h
def Yf{X:Cx}(K:W.Frag)(h:X.K=K:=by rfl):=gW (X:=X) (K:=K) h
def top(i:Nat):Stmt:=PySem.Challenge.pw_bytetongue_k94_whole_one_text_through_al.main.body.getD i (.Pass ⟨0,0,0,0⟩)
abbrev lY:Stmt:=bw (top 11) 0
abbrev l5:Stmt:=bw (top 11) 4
abbrev lZ:Stmt:=bw (top 11) 7
abbrev l7:Stmt:=bw (top 11) 8
abbrev lU:Stmt:=bw (top 11) 9
abbrev lX:Stmt:=bw (top 11) 10
abbrev lV:Stmt:=bw (top 11) 11
abbrev lW:Stmt:=bw (top 11) 12
abbrev nG:Stmt:=bw (top 11) 13
abbrev kL:Stmt:=top 21
abbrev kO:Stmt:=top 22
abbrev kM:Stmt:=top 23
abbrev kH:Stmt:=top 24
abbrev kK:Stmt:=top 25
abbrev kJ:Stmt:=top 26
abbrev jk:Stmt:=top 27
abbrev mC:Stmt:=bw (top 29) 0
abbrev kf:Stmt:=top 31
abbrev kg:Stmt:=top 32
abbrev lT:Stmt:=bw (top 36) 0
abbrev lS:Stmt:=bw (top 36) 1
abbrev kY:Stmt:=bw (top 34) 0
abbrev lQ:Stmt:=bw (top 37) 0
abbrev kZ:Stmt:=bw (top 34) 2
abbrev lv:Stmt:=bw (top 39) 0
abbrev ls:Stmt:=bw (top 39) 1
abbrev lA:Stmt:=bw (top 39) 2
abbrev lz:Stmt:=bw (top 39) 3
abbrev lB:Stmt:=bw (top 39) 4
abbrev lh:Stmt:=bw (top 39) 5
abbrev lf:Stmt:=bw (top 39) 6
abbrev kS:Stmt:=top 41
abbrev kx:Stmt:=top 42
abbrev ko:Stmt:=top 43
abbrev kF:Stmt:=top 52
abbrev jj:Stmt:=top 53
abbrev kG:Stmt:=top 54
abbrev kU:Stmt:=top 55
abbrev kP:Stmt:=top 56
abbrev ky:Stmt:=top 57
abbrev jn:Stmt:=top 58
abbrev mz:Stmt:=bw (top 59) 1
abbrev my:Stmt:=bw (top 59) 2
abbrev jp:Stmt:=bw (top 59) 3
abbrev lC:Stmt:=bw (top 45) 1
abbrev lE:Stmt:=bw (top 45) 6
abbrev jl:Stmt:=top 65
abbrev kE:Stmt:=top 66
abbrev jm:Stmt:=top 67
abbrev kT:Stmt:=top 68
abbrev kD:Stmt:=top 69
abbrev ki:Stmt:=top 70
abbrev kW:Stmt:=top 72
abbrev mn:Stmt:=bw (top 73) 0
abbrev nH:Stmt:=bw (top 73) 1
abbrev mo:Stmt:=bw (top 73) 2
abbrev mq:Stmt:=bw (top 73) 3
abbrev mr:Stmt:=bw (top 74) 0
abbrev mx:Stmt:=bw (top 74) 2
abbrev mv:Stmt:=bw (top 74) 3
abbrev mw:Stmt:=bw (top 74) 4
abbrev kX:Stmt:=top 76
abbrev kj:Stmt:=top 81
abbrev kr:Stmt:=top 82
abbrev mh:Stmt:=bw (top 83) 0
abbrev ma:Stmt:=bw (top 83) 1
abbrev md:Stmt:=bw (top 83) 3
abbrev mf:Stmt:=bw (top 83) 4
abbrev jo:Stmt:=bw (top 83) 5
abbrev me:Stmt:=bw (top 83) 6
abbrev l9:Stmt:=bw (top 83) 7
abbrev mm:Stmt:=bw (top 83) 8
abbrev kB:Stmt:=top 87
abbrev kz:Stmt:=top 88
abbrev kh:Stmt:=top 89
abbrev kt:Stmt:=top 91
abbrev ku:Stmt:=top 95
abbrev lO:Stmt:=bw (top 96) 0
abbrev lN:Stmt:=bw (top 96) 1
abbrev lL:Stmt:=bw (top 96) 6
abbrev lM:Stmt:=bw (top 96) 7
abbrev lK:Stmt:=bw (top 96) 8
abbrev lP:Stmt:=bw (top 96) 9
abbrev kN:Stmt:=top 100
abbrev kQ:Stmt:=top 101
abbrev kR:Stmt:=top 102
abbrev lH:Stmt:=bw (top 103) 0
abbrev lJ:Stmt:=bw (top 103) 1
abbrev lG:Stmt:=bw (top 103) 4
abbrev lF:Stmt:=bw (top 103) 5
abbrev lI:Stmt:=bw (top 103) 6
abbrev j6:Stmt:=top 105
abbrev jY:Stmt:=top 106
abbrev j3:Stmt:=top 107
abbrev ka:Stmt:=top 108
abbrev j4:Stmt:=top 109
abbrev j8:Stmt:=top 110
abbrev j9:Stmt:=top 111
abbrev jW:Stmt:=top 112
abbrev jZ:Stmt:=top 113
abbrev ji:Stmt:=top 114
abbrev jV:Stmt:=top 115
abbrev j5:Stmt:=top 116
abbrev jX:Stmt:=top 117
abbrev j7:Stmt:=top 118
abbrev kc:Stmt:=top 119
abbrev fS:Stmt:=top 120
def La:ax ["self", "tongue", "place"] ["self", "tongue", "place"] (ae lY):=by constructor<;>first|rfl|decide +kernel
def Lb:ax ["self"] ["self"] (ae l5):=by constructor<;>first|rfl|decide +kernel
def nF:ax ["self", "row", "signs", "byte"] ["self", "row"] (ae lZ):=by constructor<;>first|rfl|decide +kernel
def CM:ax ["self", "signs"] ["self"] (ae l7):=by constructor<;>first|rfl|decide +kernel
def K7:ax ["self", "byte"] ["self", "byte"] (ae lU):=by constructor<;>first|rfl|decide +kernel
def CL:ax ["self", "found"] ["self"] (ae lX):=by constructor<;>first|rfl|decide +kernel
def K8:ax ["self", "ahead_of_last"] ["self"] (ae lV):=by constructor<;>first|rfl|decide +kernel
def K9:ax ["self", "length", "kind"] ["self", "length", "kind"] (ae lW):=by constructor<;>first|rfl|decide +kernel
def KE:ax ["thing"] ["thing"] (ae kL):=by constructor<;>first|rfl|decide +kernel
def KH:ax ["thing"] ["thing"] (ae kO):=by constructor<;>first|rfl|decide +kernel
def KF:ax ["number"] ["number"] (ae kM):=by constructor<;>first|rfl|decide +kernel
def KA:ax ["number"] ["number"] (ae kH):=by constructor<;>first|rfl|decide +kernel
def KC:ax ["thing"] ["thing"] (ae kK):=by constructor<;>first|rfl|decide +kernel
def KB:ax ["thing"] ["thing"] (ae kJ):=by constructor<;>first|rfl|decide +kernel
def KD:ax ["thing"] ["thing"] (ae jk):=by constructor<;>first|rfl|decide +kernel
def Lo:ax ["self", "tongue", "way", "place"] ["self", "tongue", "way", "place"] (ae mC):=by constructor<;>first|rfl|decide +kernel
def jU:ax ["tongue", "text", "page", "row", "at", "sign", "spelled"] ["tongue", "text", "page"] (ae kf):=by constructor<;>first|rfl|decide +kernel
def Ku:ax ["tongue", "text"] ["tongue", "text"] (ae kg):=by constructor<;>first|rfl|decide +kernel
def K6:ax ["self", "tongue"] ["self", "tongue"] (ae lT):=by constructor<;>first|rfl|decide +kernel
def K5:ax ["self", "sign", "page"] ["self", "sign", "page"] (ae lS):=by constructor<;>first|rfl|decide +kernel
def KO:ax ["self", "tongue"] ["self", "tongue"] (ae kY):=by constructor<;>first|rfl|decide +kernel
def K4:ax ["self", "tongue"] ["self", "tongue"] (ae lQ):=by constructor<;>first|rfl|decide +kernel
def CF:ax ["self", "text", "written"] ["self", "text"] (ae kZ):=by constructor<;>first|rfl|decide +kernel
def KR:ax ["self", "source", "goal", "way", "instead"] ["self", "source", "goal", "way", "instead"] (ae lv):=by constructor<;>first|rfl|decide +kernel
def KQ:ax ["self"] ["self"] (ae ls):=by constructor<;>first|rfl|decide +kernel
def KU:ax ["self"] ["self"] (ae lA):=by constructor<;>first|rfl|decide +kernel
def KS:ax ["self", "row"] ["self", "row"] (ae lz):=by constructor<;>first|rfl|decide +kernel
def KW:ax ["self"] ["self"] (ae lB):=by constructor<;>first|rfl|decide +kernel
def uG:ax ["self", "things", "row", "thing"] ["self", "things"] (ae lh):=by constructor<;>first|rfl|decide +kernel
def KP:ax ["self", "thing"] ["self", "thing"] (ae lf):=by constructor<;>first|rfl|decide +kernel
def KJ:ax ["number", "bits"] ["number", "bits"] (ae kS):=by constructor<;>first|rfl|decide +kernel
def nC:ax ["number", "bits", "many", "rising", "step", "higher"] ["number", "bits", "many"] (ae kx):=by constructor<;>first|rfl|decide +kernel
def pX:ax ["parts", "bits", "number", "part"] ["parts", "bits"] (ae ko):=by constructor<;>first|rfl|decide +kernel
def Ky:ax ["sign"] ["sign"] (ae kF):=by constructor<;>first|rfl|decide +kernel
def uC:ax ["sign", "length", "parts"] ["sign"] (ae jj):=by constructor<;>first|rfl|decide +kernel
def Kz:ax ["first"] ["first"] (ae kG):=by constructor<;>first|rfl|decide +kernel
def KL:ax ["row", "place"] ["row", "place"] (ae kU):=by constructor<;>first|rfl|decide +kernel
def uE:ax ["row", "place", "bounds"] ["row"] (ae kP):=by constructor<;>first|rfl|decide +kernel
def CB:ax ["row", "lack"] ["row"] (ae ky):=by constructor<;>first|rfl|decide +kernel
def KK:ax ["row"] ["row"] (ae jn):=by constructor<;>first|rfl|decide +kernel
def Ln:ax ["self", "sign", "page"] ["self", "sign", "page"] (ae mz):=by constructor<;>first|rfl|decide +kernel
def Lm:ax ["self", "row", "page"] ["self", "row", "page"] (ae my):=by constructor<;>first|rfl|decide +kernel
def CP:ax ["self", "row", "page", "lack"] ["self", "row", "page"] (ae jp):=by constructor<;>first|rfl|decide +kernel
def KY:ax ["self"] ["self"] (ae lC):=by constructor<;>first|rfl|decide +kernel
def CG:ax ["self", "begun", "page", "found"] ["self", "begun", "page"] (ae lE):=by constructor<;>first|rfl|decide +kernel
def CD:ax ["row", "number"] ["row"] (ae jl):=by constructor<;>first|rfl|decide +kernel
def uB:ax ["row", "letters", "at"] ["row"] (ae kE):=by constructor<;>first|rfl|decide +kernel
def uD:ax ["letters", "numbers", "number"] ["letters"] (ae jm):=by constructor<;>first|rfl|decide +kernel
def uF:ax ["letters", "row", "at"] ["letters"] (ae kT):=by constructor<;>first|rfl|decide +kernel
def uA:ax ["row", "at", "byte"] ["row"] (ae kD):=by constructor<;>first|rfl|decide +kernel
def uz:ax ["row", "many", "told"] ["row"] (ae ki):=by constructor<;>first|rfl|decide +kernel
def KM:ax ["things", "size"] ["things", "size"] (ae kW):=by constructor<;>first|rfl|decide +kernel
def Lh:ax ["self"] ["self"] (ae mn):=by constructor<;>first|rfl|decide +kernel
def qc:ax ["self", "row", "known", "letters"] ["self", "row"] (ae mo):=by constructor<;>first|rfl|decide +kernel
def Li:ax ["self"] ["self"] (ae mq):=by constructor<;>first|rfl|decide +kernel
def Lj:ax ["self"] ["self"] (ae mr):=by constructor<;>first|rfl|decide +kernel
def Ll:ax ["self"] ["self"] (ae mx):=by constructor<;>first|rfl|decide +kernel
def qd:ax ["self", "row", "letters", "known"] ["self", "row"] (ae mv):=by constructor<;>first|rfl|decide +kernel
def Lk:ax ["self"] ["self"] (ae mw):=by constructor<;>first|rfl|decide +kernel
def KN:ax ["one", "other"] ["one", "other"] (ae kX):=by constructor<;>first|rfl|decide +kernel
def CA:ax ["sign", "parts"] ["sign"] (ae kj):=by constructor<;>first|rfl|decide +kernel
def Kw:ax ["units"] ["units"] (ae kr):=by constructor<;>first|rfl|decide +kernel
def Lg:ax ["self", "order"] ["self", "order"] (ae mh):=by constructor<;>first|rfl|decide +kernel
def Ld:ax ["self"] ["self"] (ae ma):=by constructor<;>first|rfl|decide +kernel
def Le:ax ["self", "pair"] ["self", "pair"] (ae md):=by constructor<;>first|rfl|decide +kernel
def uJ:ax ["self", "units", "row", "number"] ["self", "units"] (ae mf):=by constructor<;>first|rfl|decide +kernel
def Lc:ax ["self", "row"] ["self", "row"] (ae jo):=by constructor<;>first|rfl|decide +kernel
def Lf:ax ["self", "sign", "page"] ["self", "sign", "page"] (ae me):=by constructor<;>first|rfl|decide +kernel
def CN:ax ["self", "row", "page", "sign"] ["self", "row", "page"] (ae l9):=by constructor<;>first|rfl|decide +kernel
def CO:ax ["self", "row", "page", "rest"] ["self", "row", "page"] (ae mm):=by constructor<;>first|rfl|decide +kernel
def Kx:ax ["tongue"] ["tongue"] (ae kB):=by constructor<;>first|rfl|decide +kernel
def CC:ax ["text", "order", "tongue"] ["text", "order"] (ae kz):=by constructor<;>first|rfl|decide +kernel
def uy:ax ["row", "order", "mark"] ["row"] (ae kh):=by constructor<;>first|rfl|decide +kernel
def pY:ax ["tongue", "row", "reader", "text", "fault"] ["tongue", "row"] (ae kt):=by constructor<;>first|rfl|decide +kernel
def pZ:ax ["signs", "which", "places", "place", "sign"] ["signs", "which"] (ae ku):=by constructor<;>first|rfl|decide +kernel
def K2:ax ["self", "first", "second"] ["self", "first", "second"] (ae lO):=by constructor<;>first|rfl|decide +kernel
def uI:ax ["self", "page", "place", "sign"] ["self", "page"] (ae lN):=by constructor<;>first|rfl|decide +kernel
def K0:ax ["self", "sign", "page"] ["self", "sign", "page"] (ae lL):=by constructor<;>first|rfl|decide +kernel
def K1:ax ["self", "byte", "page"] ["self", "byte", "page"] (ae lM):=by constructor<;>first|rfl|decide +kernel
def uH:ax ["self", "row", "page", "sign"] ["self", "row", "page"] (ae lK):=by constructor<;>first|rfl|decide +kernel
def K3:ax ["self", "row", "page"] ["self", "row", "page"] (ae lP):=by constructor<;>first|rfl|decide +kernel
def KG:ax ["thing"] ["thing"] (ae kN):=by constructor<;>first|rfl|decide +kernel
def KI:ax ["one", "other"] ["one", "other"] (ae kQ):=by constructor<;>first|rfl|decide +kernel
def nE:ax ["rows", "other", "entry", "one", "earlier"] ["rows"] (ae kR):=by constructor<;>first|rfl|decide +kernel
def CI:ax ["self", "rows", "entry"] ["self", "rows"] (ae lH):=by constructor<;>first|rfl|decide +kernel
def CK:ax ["self", "sign", "row", "size"] ["self", "sign", "row"] (ae lJ):=by constructor<;>first|rfl|decide +kernel
def KZ:ax ["self", "sign", "page"] ["self", "sign", "page"] (ae lG):=by constructor<;>first|rfl|decide +kernel
def CH:ax ["self", "row", "page", "sign"] ["self", "row", "page"] (ae lF):=by constructor<;>first|rfl|decide +kernel
def CJ:ax ["self", "row", "page", "rest"] ["self", "row", "page"] (ae lI):=by constructor<;>first|rfl|decide +kernel
def Kq:ax ["_law_script", "_law_k"] ["_law_script", "_law_k"] (ae j6):=by constructor<;>first|rfl|decide +kernel
def ny:ax ["_law_number", "_law_some", "_law_sign_here"] ["_law_number"] (ae jY):=by constructor<;>first|rfl|decide +kernel
def nz:ax ["_law_script", "_law_pool_here", "_law_k", "_law_number"] ["_law_script"] (ae j3):=by constructor<;>first|rfl|decide +kernel
def nB:ax ["_law_script", "_law_at", "_law_many", "_law_most", "_law_number", "_law_found", "_law_k"] ["_law_script", "_law_at", "_law_many", "_law_most"] (ae ka):=by constructor<;>first|rfl|decide +kernel
def fB:ax ["_law_number", "_law_pool_here", "_law_kind", "_law_rest", "_law_first", "_law_second", "_law_k", "_law_sign_here", "_law_bits", "_law_rows", "_law_wide", "_law_stem"] ["_law_number", "_law_pool_here"] (ae j4):=by constructor<;>first|rfl|decide +kernel
def Kr:ax ["_law_plan_here"] ["_law_plan_here"] (ae j8):=by constructor<;>first|rfl|decide +kernel
def Ks:ax ["_law_sign_here"] ["_law_sign_here"] (ae j9):=by constructor<;>first|rfl|decide +kernel
def jS:ax ["_law_sign_here", "_law_order", "_law_units_here", "_law_found", "_law_number", "_law_pair"] ["_law_sign_here", "_law_order"] (ae jW):=by constructor<;>first|rfl|decide +kernel
def Cz:ax ["_law_plan_here", "_law_sign_here", "_law_page", "_law_here"] ["_law_plan_here", "_law_sign_here", "_law_page"] (ae jZ):=by constructor<;>first|rfl|decide +kernel
def Ko:ax ["_law_plan_here", "_law_sign_here", "_law_page"] ["_law_plan_here", "_law_sign_here", "_law_page"] (ae ji):=by constructor<;>first|rfl|decide +kernel
def jR:ax ["_law_plan_here", "_law_text", "_law_found", "_law_page", "_law_sign_here", "_law_row"] ["_law_plan_here", "_law_text"] (ae jV):=by constructor<;>first|rfl|decide +kernel
def nA:ax ["_law_row", "_law_cells", "_law_pieces_here", "_law_at", "_law_cell"] ["_law_row", "_law_cells"] (ae j5):=by constructor<;>first|rfl|decide +kernel
def jT:ax ["_law_data", "_law_turners", "_law_told", "_law_over", "_law_k", "_law_turner", "_law_found"] ["_law_data", "_law_turners", "_law_told", "_law_over"] (ae jX):=by constructor<;>first|rfl|decide +kernel
def uw:ax ["_law_text", "_law_order", "_law_found", "_law_rest"] ["_law_text", "_law_order"] (ae j7):=by constructor<;>first|rfl|decide +kernel
def ux:ax ["_law_turners", "_law_told", "_law_plans", "_law_text", "_law_k", "_law_turner"] ["_law_turners", "_law_told", "_law_plans", "_law_text"] (ae kc):=by constructor<;>first|rfl|decide +kernel
def fj:ax ["_law_script", "_law_pool_here", "_law_numbers", "_law_plans", "_law_tongues", "_law_text", "_law_row", "_law_turners", "_law_writer", "_law_reader", "_law_told", "_law_piece", "_law_data"] ["_law_script"] (ae fS):=by constructor<;>first|rfl|decide +kernel
set_option genInjectivity false in
structure Adr where
 tD:Addr
 oG:FuncData
 ud_Reader_init_0:Tok
 tF:Addr
 xu:FuncData
 tE:Addr
 xt:FuncData
 tG:Addr
 xv:FuncData
 tp:Addr
 xn:FuncData
 tB:Addr
 xq:FuncData
 tq:Addr
 xo:FuncData
 A3:Addr
 xp:FuncData
 A2:Addr
 Fq:FuncData
 Ax:Addr
 wK:FuncData
 AA:Addr
 wN:FuncData
 Ay:Addr
 wL:FuncData
 At:Addr
 wG:FuncData
 Av:Addr
 wI:FuncData
 Au:Addr
 wH:FuncData
 Aw:Addr
 wJ:FuncData
 Bd:Addr
 ri:FuncData
 ud_GoingReader_init_0:Tok
 zZ:Addr
 wl:FuncData
 Aa:Addr
 wm:FuncData
 A1:Addr
 xm:FuncData
 A0:Addr
 xl:FuncData
 AM:Addr
 wZ:FuncData
 AZ:Addr
 xk:FuncData
 AN:Addr
 w5:FuncData
 AS:Addr
 rc:FuncData
 AR:Addr
 xa:FuncData
 AU:Addr
 xf:FuncData
 AT:Addr
 xc:FuncData
 AV:Addr
 xg:FuncData
 AQ:Addr
 w9:FuncData
 AO:Addr
 w6:FuncData
 AG:Addr
 wT:FuncData
 Ai:Addr
 wy:FuncData
 Ae:Addr
 wt:FuncData
 Ap:Addr
 wD:FuncData
 Ar:Addr
 wF:FuncData
 Aq:Addr
 wE:FuncData
 AJ:Addr
 wW:FuncData
 AD:Addr
 wQ:FuncData
 Aj:Addr
 wz:FuncData
 AH:Addr
 wU:FuncData
 tO:Addr
 oN:FuncData
 ud_LeadTongue_spell_0:Tok
 tN:Addr
 oK:FuncData
 ud_LeadTongue_whole_0:Tok
 tP:Addr
 oQ:FuncData
 ud_LeadTongue_fill_0:Tok
 i5:Addr
 mQ:FuncData
 hV:Addr
 iW:FuncData
 ud_Tongue_look_0:Tok
 AB:Addr
 wO:FuncData
 Ao:Addr
 wC:FuncData
 AC:Addr
 wP:FuncData
 AI:Addr
 wV:FuncData
 An:Addr
 wB:FuncData
 Ac:Addr
 wp:FuncData
 AK:Addr
 wX:FuncData
 tL:Addr
 rg:FuncData
 Gi:Addr
 Fr:FuncData
 A8:Addr
 xA:FuncData
 A9:Addr
 xB:FuncData
 tM:Addr
 rh:FuncData
 Bc:Addr
 xE:FuncData
 Ba:Addr
 xC:FuncData
 Bb:Addr
 xD:FuncData
 AL:Addr
 wY:FuncData
 Ad:Addr
 wq:FuncData
 Af:Addr
 wu:FuncData
 tI:Addr
 oI:FuncData
 ud_PairTongue_init_0:Tok
 A5:Addr
 xx:FuncData
 A6:Addr
 xy:FuncData
 A7:Addr
 xz:FuncData
 A4:Addr
 xw:FuncData
 o7:Addr
 mR:FuncData
 ud_PairTongue_spell_0:Tok
 tH:Addr
 oH:FuncData
 ud_PairTongue_whole_0:Tok
 tJ:Addr
 oJ:FuncData
 ud_PairTongue_fill_0:Tok
 Am:Addr
 wA:FuncData
 Ak:Addr
 qY:FuncData
 ud_marked_0:Tok
 Ab:Addr
 wn:FuncData
 Ag:Addr
 wv:FuncData
 Ah:Addr
 ww:FuncData
 tj:Addr
 rf:FuncData
 AY:Addr
 xj:FuncData
 tf:Addr
 oE:FuncData
 ud_ShiftTongue_spell_0:Tok
 AX:Addr
 xi:FuncData
 sZ:Addr
 oC:FuncData
 ud_ShiftTongue_whole_0:Tok
 tm:Addr
 oF:FuncData
 ud_ShiftTongue_fill_0:Tok
 Az:Addr
 wM:FuncData
 AE:Addr
 wR:FuncData
 AF:Addr
 wS:FuncData
 sX:Addr
 re:FuncData
 AW:Addr
 xh:FuncData
 sV:Addr
 oz:FuncData
 ud_TableTongue_spell_0:Tok
 sU:Addr
 ot:FuncData
 ud_TableTongue_whole_0:Tok
 sY:Addr
 oB:FuncData
 ud_TableTongue_fill_0:Tok
 zT:Addr
 wd:FuncData
 zO:Addr
 vY:FuncData
 zQ:Addr
 v9:FuncData
 zX:Addr
 wj:FuncData
 zR:Addr
 wa:FuncData
 zV:Addr
 wf:FuncData
 zW:Addr
 wg:FuncData
 zL:Addr
 vV:FuncData
 zP:Addr
 vZ:FuncData
 zN:Addr
 vX:FuncData
 zK:Addr
 vU:FuncData
 zS:Addr
 wc:FuncData
 zM:Addr
 vW:FuncData
 zU:Addr
 we:FuncData
 zY:Addr
 wk:FuncData
 As:Addr
 qZ:FuncData
 bY:Addr
 fe:Addr
 fm:Addr
 fk:Addr
 cg:Addr
 dO:Addr
 dN:Addr
 cW:Addr
 bR:Addr
 bV:Addr
 cb:Addr
 FP:Addr
 Iq:Tok
 Ip:Tok
 Be:Addr
 h_FILLS_0:Int
 a_FILLS_0:Addr
 a_FILLS_0_0:Addr
 a_FILLS_0_1:Addr
 a_FILLS_0_2:Addr
 a_FILLS_0_3:Addr
 a_FILLS_0_4:Addr
 h_FILLS_1:Int
 a_FILLS_1:Addr
 a_FILLS_1_0:Addr
 a_FILLS_1_1:Addr
 a_FILLS_1_2:Addr
 a_FILLS_1_3:Addr
 a_FILLS_1_4:Addr
 Io:Tok
 Im:Tok
 Il:Tok
 Ik:Tok
 Ij:Tok
 Ii:Tok
 Ih:Tok
 Ig:Tok
 Ie:Tok
 Id:Tok
 Ic:Tok
 Ib:Tok
 Ia:Tok
 o9:Addr
 mY:Addr
 HY:Tok
 HX:Tok
 HW:Tok
 HV:Tok
 HU:Tok
 tK:Addr
 Gh:Addr
 a_SECONDS_0:Addr
 a_SECONDS_1:Addr
 a_SECONDS_2:Addr
 a_SECONDS_3:Addr
 a_SECONDS_4:Addr
 mX:Addr
structure Txt (w:World) (K:PySem.W.Frag) (mg:Str->Option Value) (t:Adr):Prop where
 WO:cQ K "__init__" "Reader.__init__" lY t.tD t.oG [.int 0 t.ud_Reader_init_0]
 Ud:ak K t.oG ["self", "tongue", "place"] [.int 0 t.ud_Reader_init_0]
 XM:ak K t.oG ["self", "tongue", "place"] []
 WQ:aH K "faults" "Reader.faults" l5 t.tF t.xu
 Vz:ak K t.xu ["self"] []
 WP:aH K "feed" "Reader.feed" lZ t.tE t.xt
 Vy:ak K t.xt ["self", "row"] []
 WR:aH K "end" "Reader.end" l7 t.tG t.xv
 VA:ak K t.xv ["self"] []
 WK:aH K "take" "Reader.take" lU t.tp t.xn
 Vu:ak K t.xn ["self", "byte"] []
 WN:aH K "look_at_begun" "Reader.look_at_begun" lX t.tB t.xq
 Vx:ak K t.xq ["self"] []
 WL:aH K "meet_none" "Reader.meet_none" lV t.tq t.xo
 Vv:ak K t.xo ["self"] []
 WM:aH K "meet" "Reader.meet" lW t.A3 t.xp
 Vw:ak K t.xp ["self", "length", "kind"] []
 X6:aH K "note" "Reader.note" nG t.A2 t.Fq
 XL:ak K t.Fq ["self", "length", "kind"] []
 G9:aH K "is_number" "is_number" kL t.Ax t.wK
 UT:ak K t.wK ["thing"] []
 Sf:mg "is_number" = some (.ref t.Ax)
 He:aH K "is_byte" "is_byte" kO t.AA t.wN
 UW:ak K t.wN ["thing"] []
 Sj:mg "is_byte" = some (.ref t.AA)
 Ha:aH K "is_head" "is_head" kM t.Ay t.wL
 UU:ak K t.wL ["number"] []
 Sh:mg "is_head" = some (.ref t.Ay)
 G5:aH K "is_tail" "is_tail" kH t.At t.wG
 UP:ak K t.wG ["number"] []
 Sa:mg "is_tail" = some (.ref t.At)
 G7:aH K "is_seen_byte" "is_seen_byte" kK t.Av t.wI
 UR:ak K t.wI ["thing"] []
 Sc:mg "is_seen_byte" = some (.ref t.Av)
 G6:aH K "is_sign" "is_sign" kJ t.Au t.wH
 UQ:ak K t.wH ["thing"] []
 Sb:mg "is_sign" = some (.ref t.Au)
 G8:aH K "is_row" "is_row" jk t.Aw t.wJ
 US:ak K t.wJ ["thing"] []
 Sd:mg "is_row" = some (.ref t.Aw)
 Xa:cQ K "__init__" "GoingReader.__init__" mC t.Bd t.ri [.int 0 t.ud_GoingReader_init_0]
 Uf:ak K t.ri ["self", "tongue", "way", "place"] [.int 0 t.ud_GoingReader_init_0]
 XR:ak K t.ri ["self", "tongue", "way", "place"] []
 GM:aH K "write_from" "write_from" kf t.zZ t.wl
 Uw:ak K t.wl ["tongue", "text", "page"] []
 RJ:mg "write_from" = some (.ref t.zZ)
 GN:aH K "write" "write" kg t.Aa t.wm
 Ux:ak K t.wm ["tongue", "text"] []
 RK:mg "write" = some (.ref t.Aa)
 WJ:aH K "__init__" "SeenSpeller.__init__" lT t.A1 t.xm
 Vt:ak K t.xm ["self", "tongue"] []
 WI:aH K "spell" "SeenSpeller.spell" lS t.A0 t.xl
 Vs:ak K t.xl ["self", "sign", "page"] []
 Hr:aH K "__init__" "Writer.__init__" kY t.AM t.wZ
 U8:ak K t.wZ ["self", "tongue"] []
 WH:aH K "__init__" "SeenWriter.__init__" lQ t.AZ t.xk
 Vr:ak K t.xk ["self", "tongue"] []
 Wl:aH K "feed" "Writer.feed" kZ t.AN t.w5
 U9:ak K t.w5 ["self", "text"] []
 Wp:cQ K "__init__" "Turner.__init__" lv t.AS t.rc [.none,.none]
 Uc:ak K t.rc ["self", "source", "goal", "way", "instead"] [.none,.none]
 XJ:ak K t.rc ["self", "source", "goal", "way", "instead"] []
 Wo:aH K "lacks" "Turner.lacks" ls t.AR t.xa
 Vc:ak K t.xa ["self"] []
 Ws:aH K "faults" "Turner.faults" lA t.AU t.xf
 Ve:ak K t.xf ["self"] []
 Wq:aH K "feed" "Turner.feed" lz t.AT t.xc
 Vd:ak K t.xc ["self", "row"] []
 Wt:aH K "end" "Turner.end" lB t.AV t.xg
 Vf:ak K t.xg ["self"] []
 Wn:aH K "turned" "Turner.turned" lh t.AQ t.w9
 Vb:ak K t.w9 ["self", "things"] []
 Wm:aH K "turned_one" "Turner.turned_one" lf t.AO t.w6
 Va:ak K t.w6 ["self", "thing"] []
 Hk:aH K "check_room" "check_room" kS t.AG t.wT
 U2:ak K t.wT ["number", "bits"] []
 Ss:mg "check_room" = some (.ref t.AG)
 GV:aH K "parted" "parted" kx t.Ai t.wy
 UF:ak K t.wy ["number", "bits", "many"] []
 RW:mg "parted" = some (.ref t.Ai)
 GR:aH K "together" "together" ko t.Ae t.wt
 UB:ak K t.wt ["parts", "bits"] []
 RO:mg "together" = some (.ref t.Ae)
 G2:aH K "length_of" "length_of" kF t.Ap t.wD
 UL:ak K t.wD ["sign"] []
 R6:mg "length_of" = some (.ref t.Ap)
 G4:aH K "lead_row" "lead_row" jj t.Ar t.wF
 UN:ak K t.wF ["sign"] []
 R8:mg "lead_row" = some (.ref t.Ar)
 G3:aH K "length_behind" "length_behind" kG t.Aq t.wE
 UM:ak K t.wE ["first"] []
 R7:mg "length_behind" = some (.ref t.Aq)
 Hn:aH K "bounds_behind" "bounds_behind" kU t.AJ t.wW
 U5:ak K t.wW ["row", "place"] []
 Sw:mg "bounds_behind" = some (.ref t.AJ)
 Hh:aH K "fits_behind" "fits_behind" kP t.AD t.wQ
 UZ:ak K t.wQ ["row"] []
 Sn:mg "fits_behind" = some (.ref t.AD)
 GW:aH K "missing" "missing" ky t.Aj t.wz
 UG:ak K t.wz ["row"] []
 R0:mg "missing" = some (.ref t.Aj)
 Hl:aH K "carried" "carried" jn t.AH t.wU
 U3:ak K t.wU ["row"] []
 Su:mg "carried" = some (.ref t.AH)
 W8:cQ K "spell" "LeadTongue.spell" mz t.tO t.oN [.int 0 t.ud_LeadTongue_spell_0]
 XH:ak K t.oN ["self", "sign", "page"] [.int 0 t.ud_LeadTongue_spell_0]
 VS:ak K t.oN ["self", "sign", "page"] []
 W7:cQ K "whole" "LeadTongue.whole" my t.tN t.oK [.int 0 t.ud_LeadTongue_whole_0]
 XG:ak K t.oK ["self", "row", "page"] [.int 0 t.ud_LeadTongue_whole_0]
 VR:ak K t.oK ["self", "row", "page"] []
 W9:cQ K "fill" "LeadTongue.fill" jp t.tP t.oQ [.int 0 t.ud_LeadTongue_fill_0]
 XI:ak K t.oQ ["self", "row", "page"] [.int 0 t.ud_LeadTongue_fill_0]
 VT:ak K t.oQ ["self", "row", "page"] []
 Wu:aH K "unit" "Tongue.unit" lC t.i5 t.mQ
 zJ:ak K t.mQ ["self"] []
 Wv:cQ K "look" "Tongue.look" lE t.hV t.iW [.int 0 t.ud_Tongue_look_0]
 Xw:ak K t.iW ["self", "begun", "page"] [.int 0 t.ud_Tongue_look_0]
 sT:ak K t.iW ["self", "begun", "page"] []
 Hf:aH K "group_letters" "group_letters" jl t.AB t.wO
 UX:ak K t.wO ["row"] []
 Sl:mg "group_letters" = some (.ref t.AB)
 G1:aH K "lettered" "lettered" kE t.Ao t.wC
 UK:ak K t.wC ["row"] []
 R5:mg "lettered" = some (.ref t.Ao)
 Hg:aH K "group_bytes" "group_bytes" jm t.AC t.wP
 UY:ak K t.wP ["letters"] []
 Sm:mg "group_bytes" = some (.ref t.AC)
 Hm:aH K "bytes_in" "bytes_in" kT t.AI t.wV
 U4:ak K t.wV ["letters"] []
 Sv:mg "bytes_in" = some (.ref t.AI)
 GZ:aH K "letters_ahead" "letters_ahead" kD t.An t.wB
 UJ:ak K t.wB ["row"] []
 R4:mg "letters_ahead" = some (.ref t.An)
 GP:aH K "unlettered" "unlettered" ki t.Ac t.wp
 Uz:ak K t.wp ["row"] []
 RM:mg "unlettered" = some (.ref t.Ac)
 Ho:aH K "behind_groups" "behind_groups" kW t.AK t.wX
 U6:ak K t.wX ["things", "size"] []
 Sx:mg "behind_groups" = some (.ref t.AK)
 W0:aH K "__init__" "LetterWriter.__init__" mn t.tL t.rg
 VJ:ak K t.rg ["self"] []
 X7:aH K "over" "LetterWriter.over" nH t.Gi t.Fr
 XQ:ak K t.Fr ["self"] []
 W1:aH K "feed" "LetterWriter.feed" mo t.A8 t.xA
 VL:ak K t.xA ["self", "row"] []
 W2:aH K "end" "LetterWriter.end" mq t.A9 t.xB
 VM:ak K t.xB ["self"] []
 W3:aH K "__init__" "LetterReader.__init__" mr t.tM t.rh
 VN:ak K t.rh ["self"] []
 W6:aH K "bad" "LetterReader.bad" mx t.Bc t.xE
 VQ:ak K t.xE ["self"] []
 W4:aH K "feed" "LetterReader.feed" mv t.Ba t.xC
 VO:ak K t.xC ["self", "row"] []
 W5:aH K "end" "LetterReader.end" mw t.Bb t.xD
 VP:ak K t.xD ["self"] []
 Hq:aH K "begins" "begins" kX t.AL t.wY
 U7:ak K t.wY ["one", "other"] []
 Sy:mg "begins" = some (.ref t.AL)
 GQ:aH K "units_of" "units_of" kj t.Ad t.wq
 UA:ak K t.wq ["sign"] []
 RN:mg "units_of" = some (.ref t.Ad)
 GS:aH K "sign_of" "sign_of" kr t.Af t.wu
 UC:ak K t.wu ["units"] []
 RS:mg "sign_of" = some (.ref t.Af)
 WY:cQ K "__init__" "PairTongue.__init__" mh t.tI t.oI [.str "high" t.ud_PairTongue_init_0]
 XE:ak K t.oI ["self", "order"] [.str "high" t.ud_PairTongue_init_0]
 VH:ak K t.oI ["self", "order"] []
 WU:aH K "unit" "PairTongue.unit" ma t.A5 t.xx
 VD:ak K t.xx ["self"] []
 WV:aH K "turned" "PairTongue.turned" md t.A6 t.xy
 VE:ak K t.xy ["self", "pair"] []
 WX:aH K "row_of" "PairTongue.row_of" mf t.A7 t.xz
 VG:ak K t.xz ["self", "units"] []
 WT:aH K "units_in" "PairTongue.units_in" jo t.A4 t.xw
 VC:ak K t.xw ["self", "row"] []
 WW:cQ K "spell" "PairTongue.spell" me t.o7 t.mR [.int 0 t.ud_PairTongue_spell_0]
 Ue:ak K t.mR ["self", "sign", "page"] [.int 0 t.ud_PairTongue_spell_0]
 VF:ak K t.mR ["self", "sign", "page"] []
 WS:cQ K "whole" "PairTongue.whole" l9 t.tH t.oH [.int 0 t.ud_PairTongue_whole_0]
 XD:ak K t.oH ["self", "row", "page"] [.int 0 t.ud_PairTongue_whole_0]
 VB:ak K t.oH ["self", "row", "page"] []
 WZ:cQ K "fill" "PairTongue.fill" mm t.tJ t.oJ [.int 0 t.ud_PairTongue_fill_0]
 XF:ak K t.oJ ["self", "row", "page"] [.int 0 t.ud_PairTongue_fill_0]
 VI:ak K t.oJ ["self", "row", "page"] []
 GY:aH K "mark_row" "mark_row" kB t.Am t.wA
 UI:ak K t.wA ["tongue"] []
 R3:mg "mark_row" = some (.ref t.Am)
 GX:cQ K "marked" "marked" kz t.Ak t.qY [.str "high" t.ud_marked_0]
 Xv:ak K t.qY ["text", "order"] [.str "high" t.ud_marked_0]
 UH:ak K t.qY ["text", "order"] []
 R1:mg "marked" = some (.ref t.Ak)
 GO:aH K "unmarked" "unmarked" kh t.Ab t.wn
 Uy:ak K t.wn ["row"] []
 RL:mg "unmarked" = some (.ref t.Ab)
 GT:aH K "read" "read" kt t.Ag t.wv
 UD:ak K t.wv ["tongue", "row"] []
 RU:mg "read" = some (.ref t.Ag)
 GU:aH K "places_in" "places_in" ku t.Ah t.ww
 UE:ak K t.ww ["signs", "which"] []
 RV:mg "places_in" = some (.ref t.Ah)
 WF:aH K "__init__" "ShiftTongue.__init__" lO t.tj t.rf
 Vp:ak K t.rf ["self", "first", "second"] []
 WE:aH K "row_beyond" "ShiftTongue.row_beyond" lN t.AY t.xj
 Vo:ak K t.xj ["self", "page"] []
 WC:cQ K "spell" "ShiftTongue.spell" lL t.tf t.oE [.int 0 t.ud_ShiftTongue_spell_0]
 XB:ak K t.oE ["self", "sign", "page"] [.int 0 t.ud_ShiftTongue_spell_0]
 Vm:ak K t.oE ["self", "sign", "page"] []
 WD:aH K "sign_of" "ShiftTongue.sign_of" lM t.AX t.xi
 Vn:ak K t.xi ["self", "byte", "page"] []
 WB:cQ K "whole" "ShiftTongue.whole" lK t.sZ t.oC [.int 0 t.ud_ShiftTongue_whole_0]
 XA:ak K t.oC ["self", "row", "page"] [.int 0 t.ud_ShiftTongue_whole_0]
 Vl:ak K t.oC ["self", "row", "page"] []
 WG:cQ K "fill" "ShiftTongue.fill" lP t.tm t.oF [.int 0 t.ud_ShiftTongue_fill_0]
 XC:ak K t.oF ["self", "row", "page"] [.int 0 t.ud_ShiftTongue_fill_0]
 Vq:ak K t.oF ["self", "row", "page"] []
 Hd:aH K "is_entry" "is_entry" kN t.Az t.wM
 UV:ak K t.wM ["thing"] []
 Si:mg "is_entry" = some (.ref t.Az)
 Hi:aH K "collide" "collide" kQ t.AE t.wR
 U0:ak K t.wR ["one", "other"] []
 Sq:mg "collide" = some (.ref t.AE)
 Hj:aH K "check_table" "check_table" kR t.AF t.wS
 U1:ak K t.wS ["rows"] []
 Sr:mg "check_table" = some (.ref t.AF)
 Wy:aH K "__init__" "TableTongue.__init__" lH t.sX t.re
 Vi:ak K t.re ["self", "rows"] []
 WA:aH K "enter" "TableTongue.enter" lJ t.AW t.xh
 Vk:ak K t.xh ["self", "sign", "row"] []
 Wx:cQ K "spell" "TableTongue.spell" lG t.sV t.oz [.int 0 t.ud_TableTongue_spell_0]
 Xy:ak K t.oz ["self", "sign", "page"] [.int 0 t.ud_TableTongue_spell_0]
 Vh:ak K t.oz ["self", "sign", "page"] []
 Ww:cQ K "whole" "TableTongue.whole" lF t.sU t.ot [.int 0 t.ud_TableTongue_whole_0]
 Xx:ak K t.ot ["self", "row", "page"] [.int 0 t.ud_TableTongue_whole_0]
 Vg:ak K t.ot ["self", "row", "page"] []
 Wz:cQ K "fill" "TableTongue.fill" lI t.sY t.oB [.int 0 t.ud_TableTongue_fill_0]
 Xz:ak K t.oB ["self", "row", "page"] [.int 0 t.ud_TableTongue_fill_0]
 Vj:ak K t.oB ["self", "row", "page"] []
 GG:aH K "_law_pick" "_law_pick" j6 t.zT t.wd
 Uq:ak K t.wd ["_law_script", "_law_k"] []
 RD:mg "_law_pick" = some (.ref t.zT)
 GB:aH K "_law_sign" "_law_sign" jY t.zO t.vY
 Uk:ak K t.vY ["_law_number"] []
 Ry:mg "_law_sign" = some (.ref t.zO)
 GD:aH K "_law_pool" "_law_pool" j3 t.zQ t.v9
 Um:ak K t.v9 ["_law_script"] []
 RA:mg "_law_pool" = some (.ref t.zQ)
 GK:aH K "_law_digits" "_law_digits" ka t.zX t.wj
 Uu:ak K t.wj ["_law_script", "_law_at", "_law_many", "_law_most"] []
 RH:mg "_law_digits" = some (.ref t.zX)
 GE:aH K "_law_plan" "_law_plan" j4 t.zR t.wa
 Uo:ak K t.wa ["_law_number", "_law_pool_here"] []
 RB:mg "_law_plan" = some (.ref t.zR)
 GI:aH K "_law_made" "_law_made" j8 t.zV t.wf
 Us:ak K t.wf ["_law_plan_here"] []
 RF:mg "_law_made" = some (.ref t.zV)
 GJ:aH K "_law_lead" "_law_lead" j9 t.zW t.wg
 Ut:ak K t.wg ["_law_sign_here"] []
 RG:mg "_law_lead" = some (.ref t.zW)
 Gy:aH K "_law_units" "_law_units" jW t.zL t.vV
 Uh:ak K t.vV ["_law_sign_here", "_law_order"] []
 Rv:mg "_law_units" = some (.ref t.zL)
 GC:aH K "_law_shifted" "_law_shifted" jZ t.zP t.vZ
 Ul:ak K t.vZ ["_law_plan_here", "_law_sign_here", "_law_page"] []
 Rz:mg "_law_shifted" = some (.ref t.zP)
 GA:aH K "_law_spelled" "_law_spelled" ji t.zN t.vX
 Uj:ak K t.vX ["_law_plan_here", "_law_sign_here", "_law_page"] []
 Rx:mg "_law_spelled" = some (.ref t.zN)
 Gx:aH K "_law_written" "_law_written" jV t.zK t.vU
 Ug:ak K t.vU ["_law_plan_here", "_law_text"] []
 Ru:mg "_law_written" = some (.ref t.zK)
 GF:aH K "_law_pieces" "_law_pieces" j5 t.zS t.wc
 Up:ak K t.wc ["_law_row", "_law_cells"] []
 RC:mg "_law_pieces" = some (.ref t.zS)
 Gz:aH K "_law_through" "_law_through" jX t.zM t.vW
 Ui:ak K t.vW ["_law_data", "_law_turners", "_law_told", "_law_over"] []
 Rw:mg "_law_through" = some (.ref t.zM)
 GH:aH K "_law_marked" "_law_marked" j7 t.zU t.we
 Ur:ak K t.we ["_law_text", "_law_order"] []
 RE:mg "_law_marked" = some (.ref t.zU)
 GL:aH K "_law_clean" "_law_clean" kc t.zY t.wk
 Uv:ak K t.wk ["_law_turners", "_law_told", "_law_plans", "_law_text"] []
 RI:mg "_law_clean" = some (.ref t.zY)
 Bo:aH K "law" "law" fS t.As t.qZ
 UO:ak K t.qZ ["_law_script"] []
 E7:mg "law" = some (.ref t.As)
 Ro:mg "Reader" = some (.ref t.bY)
 bI:cF K t.bY
 OG:Mk K t.bY t.tD
 Oh:bd K t.bY "faults" t.tF
 Og:bd K t.bY "feed" t.tE
 Oi:bd K t.bY "end" t.tG
 Oc:bd K t.bY "take" t.tp
 Of:bd K t.bY "look_at_begun" t.tB
 Od:bd K t.bY "meet_none" t.tq
 Oe:bd K t.bY "meet" t.A3
 Xq:bd K t.bY "note" t.A2
 mH:bP K t.bY "at_page"
 io:bP K t.bY "begun"
 js:bP K t.bY "ended"
 DO:bP K t.bY "many"
 DN:bP K t.bY "met"
 NL:bP K t.bY "place"
 im:bP K t.bY "tongue"
 Xh:∀H a dx fs,H a=some (.ins t.bY dx fs)->cw K H (.ref a) (.ref t.bY)
 Rt:mg "GoingReader" = some (.ref t.fe)
 Xu:cF K t.fe
 OK:Mk K t.fe t.Bd
 mt_GoingReader_faults:bd K t.fe "faults" t.tF
 mt_GoingReader_feed:bd K t.fe "feed" t.tE
 mt_GoingReader_end:bd K t.fe "end" t.tG
 mt_GoingReader_take:bd K t.fe "take" t.tp
 mt_GoingReader_look_at_begun:bd K t.fe "look_at_begun" t.tB
 mt_GoingReader_meet_none:bd K t.fe "meet_none" t.tq
 mt_GoingReader_note:bd K t.fe "note" t.A2
 Xp:bP K t.fe "begun"
 Xo:bP K t.fe "way"
 Xm:∀H a dx fs,H a=some (.ins t.fe dx fs)->cw K H (.ref a) (.ref t.fe)
 Rn:mg "SeenSpeller" = some (.ref t.fm)
 y8:cF K t.fm
 OF:Mk K t.fm t.A1
 Ob:bd K t.fm "spell" t.A0
 DM:bP K t.fm "tongue"
 Xg:∀H a dx fs,H a=some (.ins t.fm dx fs)->cw K H (.ref a) (.ref t.fm)
 Rm:mg "SeenWriter" = some (.ref t.fk)
 mU:cF K t.fk
 OE:Mk K t.fk t.AZ
 mt_SeenWriter_feed:bd K t.fk "feed" t.AN
 ve:bP K t.fk "at_page"
 DL:bP K t.fk "tongue"
 Xf:∀H a dx fs,H a=some (.ins t.fk dx fs)->cw K H (.ref a) (.ref t.fk)
 Rj:mg "Turner" = some (.ref t.cg)
 dM:cF K t.cg
 OB:Mk K t.cg t.AS
 NX:bd K t.cg "lacks" t.AR
 NZ:bd K t.cg "faults" t.AU
 NY:bd K t.cg "feed" t.AT
 N1:bd K t.cg "end" t.AV
 NW:bd K t.cg "turned" t.AQ
 NV:bd K t.cg "turned_one" t.AO
 DK:bP K t.cg "lacking"
 DJ:bP K t.cg "many"
 qu:bP K t.cg "reader"
 DI:bP K t.cg "stead"
 DH:bP K t.cg "writer"
 Xc:∀H a dx fs,H a=some (.ins t.cg dx fs)->cw K H (.ref a) (.ref t.cg)
 Rs:mg "LeadTongue" = some (.ref t.dO)
 oX:cF K t.dO
 OL:Bl K t.dO
 Oy:bd K t.dO "spell" t.tO
 Ox:bd K t.dO "whole" t.tN
 Oz:bd K t.dO "fill" t.tP
 mt_LeadTongue_unit:bd K t.dO "unit" t.i5
 mt_LeadTongue_look:bd K t.dO "look" t.hV
 Xl:∀H a dx fs,H a=some (.ins t.dO dx fs)->cw K H (.ref a) (.ref t.dO)
 Rq:mg "LetterWriter" = some (.ref t.dN)
 eZ:cF K t.dN
 OI:Mk K t.dN t.tL
 Xr:bd K t.dN "over" t.Gi
 Oq:bd K t.dN "feed" t.A8
 Os:bd K t.dN "end" t.A9
 mI:bP K t.dN "ended"
 jt:bP K t.dN "rest"
 Xj:∀H a dx fs,H a=some (.ins t.dN dx fs)->cw K H (.ref a) (.ref t.dN)
 Rr:mg "LetterReader" = some (.ref t.cW)
 eI:cF K t.cW
 OJ:Mk K t.cW t.tM
 Ow:bd K t.cW "bad" t.Bc
 Ot:bd K t.cW "feed" t.Ba
 Ov:bd K t.cW "end" t.Bb
 qz:bP K t.cW "ended"
 DQ:bP K t.cW "many"
 nR:bP K t.cW "rest"
 DP:bP K t.cW "wrong"
 Xk:∀H a dx fs,H a=some (.ins t.cW dx fs)->cw K H (.ref a) (.ref t.cW)
 Rp:mg "PairTongue" = some (.ref t.bR)
 gd:cF K t.bR
 OH:Mk K t.bR t.tI
 Om:bd K t.bR "unit" t.A5
 On:bd K t.bR "turned" t.A6
 Oo:bd K t.bR "row_of" t.A7
 Ol:bd K t.bR "units_in" t.A4
 DR:bd K t.bR "spell" t.o7
 Oj:bd K t.bR "whole" t.tH
 Op:bd K t.bR "fill" t.tJ
 mt_PairTongue_look:bd K t.bR "look" t.hV
 vf:bP K t.bR "order"
 Xi:∀H a dx fs,H a=some (.ins t.bR dx fs)->cw K H (.ref a) (.ref t.bR)
 Rl:mg "ShiftTongue" = some (.ref t.bV)
 cV:cF K t.bV
 OD:Mk K t.bV t.tj
 N9:bd K t.bV "row_beyond" t.AY
 N7:bd K t.bV "spell" t.tf
 N8:bd K t.bV "sign_of" t.AX
 N6:bd K t.bV "whole" t.sZ
 Oa:bd K t.bV "fill" t.tm
 mt_ShiftTongue_unit:bd K t.bV "unit" t.i5
 mt_ShiftTongue_look:bd K t.bV "look" t.hV
 qy:bP K t.bV "lists"
 jr:bP K t.bV "places"
 qx:bP K t.bV "shifted"
 Xe:∀H a dx fs,H a=some (.ins t.bV dx fs)->cw K H (.ref a) (.ref t.bV)
 Rk:mg "TableTongue" = some (.ref t.cb)
 eG:cF K t.cb
 OC:Mk K t.cb t.sX
 N5:bd K t.cb "enter" t.AW
 N3:bd K t.cb "spell" t.sV
 N2:bd K t.cb "whole" t.sU
 N4:bd K t.cb "fill" t.sY
 mt_TableTongue_unit:bd K t.cb "unit" t.i5
 mt_TableTongue_look:bd K t.cb "look" t.hV
 vd:bP K t.cb "rest_by_row"
 qv:bP K t.cb "row_by_sign"
 va:bP K t.cb "sign_by_row"
 Xd:∀H a dx fs,H a=some (.ins t.cb dx fs)->cw K H (.ref a) (.ref t.cb)
 Ri:mg "Writer" = some (.ref t.FP)
 Ua:Gs K t.FP t.AM
 FW:mg "BITS" = some (.int 6 t.Iq)
 sS:mg "BYTE_BITS" = some (.int 8 t.Ip)
 FV:mg "FILLS" = some (.ref t.Be)
 FF:pI K w t.Be [(t.h_FILLS_0, "high",t.a_FILLS_0),(t.h_FILLS_1, "low",t.a_FILLS_1)]
 q_FILLS_0:∀H,bq K H t.a_FILLS_0 (([t.a_FILLS_0_0,t.a_FILLS_0_1,t.a_FILLS_0_2,t.a_FILLS_0_3,t.a_FILLS_0_4]:List Addr).map V.ref)
 q_FILLS_0_0:∀H,bq K H t.a_FILLS_0_0 (([]:f6).map V.int)
 q_FILLS_0_1:∀H,bq K H t.a_FILLS_0_1 (([0]:f6).map V.int)
 q_FILLS_0_2:∀H,bq K H t.a_FILLS_0_2 (([0,0]:f6).map V.int)
 q_FILLS_0_3:∀H,bq K H t.a_FILLS_0_3 (([220,0]:f6).map V.int)
 q_FILLS_0_4:∀H,bq K H t.a_FILLS_0_4 (([0,220,0]:f6).map V.int)
 q_FILLS_1:∀H,bq K H t.a_FILLS_1 (([t.a_FILLS_1_0,t.a_FILLS_1_1,t.a_FILLS_1_2,t.a_FILLS_1_3,t.a_FILLS_1_4]:List Addr).map V.ref)
 q_FILLS_1_0:∀H,bq K H t.a_FILLS_1_0 (([]:f6).map V.int)
 q_FILLS_1_1:∀H,bq K H t.a_FILLS_1_1 (([0]:f6).map V.int)
 q_FILLS_1_2:∀H,bq K H t.a_FILLS_1_2 (([220]:f6).map V.int)
 q_FILLS_1_3:∀H,bq K H t.a_FILLS_1_3 (([0,0]:f6).map V.int)
 q_FILLS_1_4:∀H,bq K H t.a_FILLS_1_4 (([0,220]:f6).map V.int)
 sR:mg "FIRST_BEHIND" = some (.int 128 t.Io)
 zE:mg "FIRST_HEAD" = some (.int 55296 t.Im)
 FU:mg "FIRST_SEEN" = some (.int 61184 t.Il)
 sQ:mg "FIRST_TAIL" = some (.int 56320 t.Ik)
 zD:mg "FIRST_WIDE" = some (.int 65536 t.Ij)
 o4:mg "GROUP_BYTES" = some (.int 3 t.Ii)
 o0:mg "GROUP_LETTERS" = some (.int 4 t.Ih)
 FT:mg "HALF_BITS" = some (.int 10 t.Ig)
 FS:mg "LAST_BEHIND" = some (.int 191 t.Ie)
 T0:mg "LAST_BYTE" = some (.int 255 t.Id)
 TZ:mg "LAST_SEEN" = some (.int 61439 t.Ic)
 TY:mg "LAST_SIGN" = some (.int 1114111 t.Ib)
 TX:mg "LAST_TAIL" = some (.int 57343 t.Ia)
 FR:mg "LEADS" = some (.ref t.o9)
 Dj:∀H,bq K H t.o9 (([0,0,192,224,240]:f6).map V.int)
 Xt:∃o,K.lookup t.o9=some o/\o.cls=.type "tuple"/\o.dict=none
 zC:mg "LETTERS" = some (.ref t.mY)
 uU:∀H,bq K H t.mY (([45,48,49,50,51,52,53,54,55,56,57,65,66,67,68,69,70,71,72,73,74,75,76,77,78,79,80,81,82,83,84,85,86,87,88,89,90,95,97,98,99,100,101,102,103,104,105,106,107,108,109,110,111,112,113,114,115,116,117,118,119,120,121,122]:f6).map V.int)
 Pk:∃o,K.lookup t.mY=some o/\o.cls=.type "tuple"/\o.dict=none
 FQ:mg "LETTER_BITS" = some (.int 6 t.HY)
 TW:mg "MARK" = some (.int 65279 t.HX)
 TV:mg "MOST_BYTES" = some (.int 6 t.HW)
 TU:mg "MOST_SIGNS" = some (.int 250 t.HV)
 TR:mg "MOST_TUPLES" = some (.int 64 t.HU)
 TQ:mg "ORDERS" = some (.ref t.tK)
 Di:∀H,bq K H t.tK ((["high", "low"]:List Str).map V.str)
 TM:mg "SECONDS" = some (.ref t.Gh)
 S9:tW K t.Gh [(224,t.a_SECONDS_0),(237,t.a_SECONDS_1),(238,t.a_SECONDS_2),(240,t.a_SECONDS_3),(244,t.a_SECONDS_4)]
 q_SECONDS_0:∀H,bq K H t.a_SECONDS_0 (([160,191]:f6).map V.int)
 q_SECONDS_1:∀H,bq K H t.a_SECONDS_1 (([128,159]:f6).map V.int)
 q_SECONDS_2:∀H,bq K H t.a_SECONDS_2 (([128,187]:f6).map V.int)
 q_SECONDS_3:∀H,bq K H t.a_SECONDS_3 (([144,191]:f6).map V.int)
 q_SECONDS_4:∀H,bq K H t.a_SECONDS_4 (([128,143]:f6).map V.int)
 zB:mg "SHIFTS" = some (.ref t.mX)
 uT:∀H,bq K H t.mX (([254,255]:f6).map V.int)
 Xs:∃o,K.lookup t.mX=some o/\o.cls=.type "tuple"/\o.dict=none
 n_all:mg "all" = none
 n_bool:mg "bool" = none
 n_enumerate:mg "enumerate" = none
 n_int:mg "int" = none
 n_isinstance:mg "isinstance" = none
 n_len:mg "len" = none
 n_list:mg "list" = none
 n_range:mg "range" = none
 n_reversed:mg "reversed" = none
 n_str:mg "str" = none
 n_sum:mg "sum" = none
 n_tuple:mg "tuple" = none
end My
namespace My
open PySem L2
def jw:V->Bool
 | .int _=>true
 | _=>false
def db(v:V)(lo a:Int):Bool:=match v with
 | .int i=>decide (lo<=i) && decide (i<=a)
 | _=>false
def dv(v:V):Bool:=db v 0 1114111 && !(db v 55296 57343) && !(db v 61184 61439)
def vo{v:V}(h:jw v=true):∃i,v=.int i:=by
 cases v<;>first|exact⟨_,rfl⟩|cases h
def nr(f:V->Bool)(K:PySem.W.Frag):Sp:=λvs H Q _=>∃v,vs=[v]/\gf K H v/\Q (.bl (f v)) H
def ur(f:Int->Bool):Sp:=λvs H Q _=>∃i,vs=[.int i]/\Q (.bl (f i)) H
def qE{f:V->Bool}{K:PySem.W.Frag}{x:Str}:∀vs H Q E,nr f K vs H Q E->vs.length=[x].length:=λvs H Q E h=>by
 obtain⟨v,rfl,_⟩:=h
 rfl
def Ee{f:Int->Bool}{x:Str}:∀vs H Q E,ur f vs H Q E->vs.length=[x].length:=λvs H Q E h=>by
 obtain⟨v,rfl,_⟩:=h
 rfl
def Sg(n:Int):Prop:=0<=n/\n<=1114111/\¬(55296<=n/\n<=57343)/\¬(61184<=n/\n<=61439)
def ig(n:Int):dv (.int n)=true ↔ Sg n:=by
 unfold dv db Sg;simp;lia
def c6(n:Int):f6:=if n<65536 then [n] else [55296+(n-65536)/1024,56320+(n-65536)%1024]
def ub(h:Bool)(m:Int):f6:=if h then [m/256,m%256] else [m%256,m/256]
def bN(h:Bool)(n:Int):f6:=(c6 n).flatMap (ub h)
def cr(h:Bool):Str:=if h then "high" else "low"
def m6(h:Bool)(m:Int):(ub h m).length=2:=by unfold ub;cases h<;>rfl
def By(n:Int):(c6 n).length<=2:=by
 unfold c6;by_cases c:n<65536
 ·rw[aaa c];simp
 ·rw[on c];simp
def Bz{n u:Int}(h:Sg n)(a:u∈c6 n):0<=u/\u<65536:=by
 obtain⟨b,d,_,_⟩:=h;unfold c6 at a;by_cases c:n<65536
 ·rw[aaa c]at a;simp at a;lia
 ·rw[on c]at a;simp at a;lia
def qV(h:Bool)(us:f6):(us.flatMap (ub h)).length=2*us.length:=by
 induction us with
 | nil=>rfl
 | cons a r ih=>rw[a0m,Yo,m6,ih,Y7];lia
def qj(h:Bool)(n:Int):(bN h n).length<=4:=by
 unfold bN;rw[qV];have:=By n;lia
def u2(h:Bool)(x y:Int):Int:=if h then x*256+y else y*256+x
def dm(h:Bool):f6->f6
 | x::y::r=>u2 h x y::dm h r
 | _=>[]
def jh:f6->Option Int
 | [u]=>if dv (.int u) then some u else none
 | [u,v]=>if (55296<=u/\u<56320)/\56320<=v/\v<=57343 then some (65536+((u-55296)*1024+(v-56320))) else none
 | _=>none
def fP(h:Bool)(r:f6):Option Int:=if r.length=2\/r.length=4 then jh (dm h r) else none
def oV(o:Option Int):V:=o.elim .non V.int
def iz(h:Bool):List (f6):=if h then [[],[0],[0,0],[220,0],[0,220,0]] else [[],[0],[220],[0,0],[0,220]]
def Byts(r:f6):Prop:=∀b∈r,0<=b/\b<=255
def Byts.app{r s:f6}(a:Byts r)(b:Byts s):Byts (r++s):=λx hx=>by
 rcases Yx.mp hx with h|h
 ·exact a x h
 ·exact b x h
def SJ{h:Bool}{f:f6}(a:f∈iz h):Byts f:=by
 unfold iz at a;cases h<;>simp at a<;>rcases a with rfl|rfl|rfl|rfl|rfl<;>intro x hx<;>simp at hx<;>lia
def SI{h:Bool}{f:f6}(a:f∈iz h):f.length<=3:=by
 unfold iz at a;cases h<;>simp at a<;>rcases a with rfl|rfl|rfl|rfl|rfl<;>decide
def lb(f:Int):Int:=if f<128 then 1 else if f<194\/244<f then 0 else if f<224 then 2 else if f<240 then 3 else 4
def jv(f:Int):Int:=if f=224 then 160 else if f=240 then 144 else 128
def gX(f:Int):Int:=if f=237 then 159 else if f=238 then 187 else if f=244 then 143 else 191
def eW(f:Int)(p:Nat):Int:=if p=1 then jv f else 128
def gb(f:Int)(p:Nat):Int:=if p=1 then gX f else 191
def tU(f:Int)(r:f6):Prop:=∀i x,r[i]? = some x->eW f (i+1)<=x/\x<=gb f (i+1)
def pJ(f:Int)(r:f6):Prop:=(r.length:Int)+1<=lb f/\tU f r
def tY:f6->Prop
 | []=>True
 | f::r=>pJ f r
def hW:f6->Prop
 | []=>False
 | f::r=>pJ f r/\(r.length:Int)+1=lb f
def qU:f6->f6
 | []=>[0]
 | f::r=>(List.range (lb f-((r.length:Int)+1)).toNat).map λi=>eW f (r.length+1+i)
def Ef(f:Int):0<=lb f/\lb f<=4:=by unfold lb;repeat' split<;>lia
def O9(f:Int)(p:Nat):128<=eW f p:=by unfold eW jv;repeat' split<;>lia
def P0(f:Int)(p:Nat):gb f p<=191:=by unfold gb gX;repeat' split<;>lia
def qX(f:Int)(r:f6):tU f r ↔ (∀x∈r,128<=x/\x<=191)/\∀x,r[0]? = some x->jv f<=x/\x<=gX f:=by
 constructor
 ·intro h;refine⟨λx hx=>?_,λx hx=>?_⟩
  ·obtain⟨i,c⟩:=a2m hx;have:=h i x c;have b:=O9 f (i+1);have a:=P0 f (i+1);lia
  ·have:=h 0 x hx;simpa [eW,gb] using this
 ·rintro⟨b,a⟩ i x hx;cases i with
  | zero=>simpa [eW,gb] using a x hx
  | succ i =>
   have:=b x (YD hx);simp only [eW,gb];rw[on (by lia),on (by lia)];exact this
def row(n:Int):f6:=if n<128 then [n] else if n<2048 then [192+n/64,128+n%64] else if n<65536 then [224+n/4096,128+n/64%64,128+n%64] else [240+n/262144,128+n/4096%64,128+n/64%64,128+n%64]
def uK(n:Int):1<=(row n).length/\(row n).length<=4:=by
 unfold row;by_cases c1:n<128
 ·rw[aaa c1];simp
 rw[on c1];by_cases c2:n<2048
 ·rw[aaa c2];simp
 rw[on c2];by_cases c3:n<65536
 ·rw[aaa c3];simp
 rw[on c3];simp
def cR{α β:Type}(R:α->β->Prop)(xs:List α)(ys:List β):Prop:=xs.length=ys.length/\∀(i:Nat) x y,xs[i]? = some x->ys[i]? = some y->R x y
def cR.nil{α β:Type}{R:α->β->Prop}:cR R [] []:=⟨rfl,λi x y h=>by simp at h⟩
def cR.cons{α β:Type}{R:α->β->Prop}{x:α}{y:β}{xs:List α}{ys:List β}(h:R x y)(t:cR R xs ys):cR R (x::xs) (y::ys):=⟨by simp[t.1],λi a b c hb=>by
 cases i with
 | zero=>simp at c hb;subst c hb;exact h
 | succ i=>exact t.2 i a b (by simpa using c) (by simpa using hb)⟩
def cR.imp{α β:Type}{R S:α->β->Prop}{xs:List α}{ys:List β}(h:cR R xs ys)(k:∀x y,R x y->S x y):cR S xs ys:=⟨h.1,λi x y a b=>k x y (h.2 i x y a b)⟩
def cR.app{α β:Type}{R:α->β->Prop}{xs us:List α}{ys vs:List β}(h:cR R xs ys)(k:cR R us vs):cR R (xs++us) (ys++vs):=by
 refine⟨by simp[h.1,k.1],λi x y a b=>?_⟩;by_cases hi:i<xs.length
 ·rw[Zj hi]at a;rw[Zj (by rw[<- h.1];exact hi)]at b;exact h.2 i x y a b
 ·rw[Zi (by lia)]at a;rw[Zi (by rw[<- h.1];lia),<- h.1]at b;exact k.2 _ x y a b
def cR.take{α β:Type}{R:α->β->Prop}{xs:List α}{ys:List β}(h:cR R xs ys)(n:Nat):cR R (xs.take n) (ys.take n):=⟨by simp[h.1],λi x y a b=>by
 have c:i<n:=by have:=(Yr.mp a).1;rw[Yp]at this;lia
 rw[Zt c]at a b;exact h.2 i x y a b⟩
def cR.drop{α β:Type}{R:α->β->Prop}{xs:List α}{ys:List β}(h:cR R xs ys)(n:Nat):cR R (xs.drop n) (ys.drop n):=⟨by simp[h.1],λi x y a b=>by
 rw[List.getElem?_drop]at a b;exact h.2 _ x y a b⟩
def cR.right{α β:Type}{R:α->β->Prop}{xs:List α}{ys:List β}(h:cR R xs ys){i:Nat}{x:α}(hx:xs[i]? = some x):∃y,ys[i]? = some y/\R x y:=by
 have b:=(Yr.mp hx).1;have a:ys[i]? = some (ys[i]'(by rw[<- h.1];exact b)):=by simp
 exact⟨_,a,h.2 i x _ hx a⟩
def Kp(a:Addr)(H b:Hp):Prop:=∀c u,c≠a->H c=some u->b c=some u
def Kp.trans{a:Addr}{H d b:Hp}(h:Kp a H d)(h':Kp a d b):Kp a H b:=λc u n e=>h' c u n (h c u n e)
def Kp.of{a:Addr}{H b:Hp}(h:ah H b):Kp a H b:=λc u _ e=>h c u e
def Kp.upd{a:Addr}{H:Hp}{o:HO}:Kp a H (upd H a o):=λc u n e=>by rw[ay n];exact e
end My
namespace My
open PySem L2
section
variable {P:Program}{w:World}{K:PySem.W.Frag}{mg:Str->Option Value}{base:Heap}{t:Adr}
def Jx:Sp:=λvs H Q _=>∃(n:Int) (b:Nat),vs=[.int n,.int (b:Int)]/\0<=n/\n<2 ^ b/\Q .non H
def EH (T:Txt w K mg t):bz P w K mg base "check_room" 1 t.AG t.wT ["number", "bits"] Jx:=by
 refine⟨T.Ss,T.Hk.kp,T.U2,T.Hk.okQ KJ (λvs H Q E h=>by obtain⟨n,b,rfl,_⟩:=h;rfl) λ_ _ _ _ H vs Q E hr h=>?_⟩;obtain⟨n,b,rfl,a,c,k⟩:=h;refine⟨_,(ag (aL (dG (fV (aQ dH (aa 0) aj (aS _)) (fU (aQ iU (Da (K:=K) rfl PySem.F.plainAttrs_int PySem.F.slot_int_bit_length PySem.F.type_int_bit_length OQ (aa 0)) (aa 1) (aS _))))) (ag eU) aN)),?_⟩;refine ao (λe=>aab (aac e) (by lia)) (λ_=>?_);refine⟨rfl,?_⟩;have hb:Builtin.Int.intBits n<=b:=intBits_le_iff.mpr (by
  have:(n.natAbs:Int)<((2 ^ b:Nat):Int):=by rw[a1l a,a1m];exact c
  exact a1n.mp this)
 refine ao (λe=>aab (aac e) (by lia)) (λ_=>?_);exact k
def Jl(K:PySem.W.Frag):Sp:=λvs H Q _=>∃(a:Addr) (ps:f6) (b:Nat),vs=[.ref a,.int (b:Int)]/\aG K H a (ps.map V.int)/\(∀p∈ps,0<=p/\p<2 ^ b)/\b<=1000/\ps.length<=1000/\Q (.int (aY b ps)) H
def n6 (T:Txt w K mg t):bz P w K mg base "together" 2 t.Ae t.wt ["parts", "bits"] (Jl K):=by
 refine⟨T.RO,T.GR.kp,T.UB,T.GR.okQ pX (λvs H Q E h=>by obtain⟨a,ps,b,rfl,_⟩:=h;rfl) λ_ _ _ _ H vs Q E hr h=>?_⟩;obtain⟨a,ps,b,rfl,o,m,hb,hl,k⟩:=h;refine⟨_,(af (aP (i:=2) pX.nd rfl (.inl rfl) aj)
  (af (cq PassesOwn.never rfl (c8 (K:=K) rfl (aa 0)) (bi (i:=3) pX.nd rfl (.inl rfl)) (af (ck (aD (EH (K:=K) T) hr (ab (aa 3) (ab (aa 1) ad))))
  (ag (aP (i:=2) pX.nd rfl (.inl rfl) (az (Ya K) (az E4 (aa 2) (aa 1)) (aa 3))))))
  (ag (am (aa 2))))),?_⟩
 refine⟨a,rfl,⟨_,o⟩,iy (K:=K) (a:=a) (xs:=ps.map V.int) (λi σ n=>n=H/\∃f,σ=[some (.ref a),some (.int b),some (.int (aY b (ps.take i))),f]) ⟨rfl,_,rfl⟩ (λi σ n _ z=>by rw[z.1];exact o) ?_ ?_⟩
 ·rintro i x σ v d ⟨rfl,f,rfl⟩;obtain⟨p,g,rfl⟩:∃p,ps[i]? = some p/\x=.int p:=by
   rw[Yt]at d;cases e:ps[i]? with
   | none=>rw[e]at d;cases d
   | some p=>rw[e]at d;cases d;exact⟨p,rfl,rfl⟩
  have c:=m p (YD g);refine⟨p,b,rfl,c.1,c.2,?_⟩;have u:i<ps.length:=(Yr.mp g).1;have r:=gu (b:=b) (ps:=ps.take i) λq y=>m q (Zf y);have j:Builtin.Int.intBits (aY b (ps.take i))<=b*(ps.take i).length:=intBits_le_iff.mpr (by
   have:((aY b (ps.take i)).natAbs:Int)<((2 ^ (b*(ps.take i).length):Nat):Int):=by rw[a1l r.1,a1m];exact r.2
   exact a1n.mp this)
  have l:(ps.take i).length<=1000:=by rw[Yp];lia
  have s:b*(ps.take i).length<=1000000:=Nat.mul_le_mul hb l;refine⟨⟨by lia,show ((Builtin.Int.intBits (aY b (ps.take i)):Nat):Int)+(b:Int)<=2 ^ 27 by lia⟩,?_⟩;refine⟨rfl,?_⟩;have e:ps.take (i+1)=ps.take i++[p]:=by rw[a0h,g];rfl
  rw[e,BI];exact⟨_,rfl⟩
 ·rintro σ v ⟨rfl,f,rfl⟩;rw[Yl,Yy];exact k
def vB (T:Txt w K mg t):bz P w K mg base "is_number" 1 t.Ax t.wK ["thing"] (nr jw K):=by
 refine⟨T.Sf,T.G9.kp,T.UT,T.G9.okQ KE qE λ_ _ _ _ H vs Q E hr h=>?_⟩;obtain⟨v,rfl,c,k⟩:=h;refine⟨_,(ag (am (gQ (bu (oY (K:=K) rfl) T.n_isinstance Z4 (ab (aa 0) (ab (nK rfl T.n_int a2n) ad))) (ii (Dc (bu (oY (K:=K) rfl) T.n_isinstance Z4 (ab (aa 0) (ab (nK rfl T.n_bool PyProof.Rows.boot_bool) ad)))))))),?_⟩;obtain⟨ty,a,b⟩:=c.isInt;refine⟨ty,_,a,b,?_⟩;refine ao (λe=>?_) (λe=>?_)
 ·obtain⟨ty,a,b⟩:=c.isBl;refine⟨ty,_,a,b,?_⟩;exact cI k (by cases v<;>simp_all [jw,vp,El])
 ·exact cI k (by cases v<;>simp_all [jw,vp])
def EG (T:Txt w K mg t):bz P w K mg base "is_head" 1 t.Ay t.wL ["number"] (ur λi=>decide (55296<=i) && decide (i<56320)):=by
 refine⟨T.Sh,T.Ha.kp,T.UU,T.Ha.okQ KF Ee λ_ _ _ _ H vs Q E hr h=>?_⟩;obtain⟨i,rfl,k⟩:=h;refine⟨_,(ag (am (nJ fH dH (bE T.zE) (aa 0) (bE T.sQ)))),?_⟩;refine ao (λa=>?_) (λa=>?_)
 ·exact cI k (by simp at *;lia)
 ·exact cI k (by simp at *;lia)
def EE (T:Txt w K mg t):bz P w K mg base "is_tail" 1 t.At t.wG ["number"] (ur λi=>decide (56320<=i) && decide (i<=57343)):=by
 refine⟨T.Sa,T.G5.kp,T.UP,T.G5.okQ KA Ee λ_ _ _ _ H vs Q E hr h=>?_⟩;obtain⟨i,rfl,k⟩:=h;refine⟨_,(ag (am (nJ fH fH (bE T.sQ) (aa 0) (bE T.TX)))),?_⟩;refine ao (λa=>?_) (λa=>?_)
 ·exact cI k (by simp at *;lia)
 ·exact cI k (by simp at *;lia)
def EF (T:Txt w K mg t):bz P w K mg base "is_seen_byte" 2 t.Av t.wI ["thing"] (nr (λv=>db v 61184 61439) K):=by
 refine⟨T.Sc,T.G7.kp,T.UR,T.G7.okQ KC qE λ_ _ _ _ H vs Q E hr h=>?_⟩;obtain⟨v,rfl,b,k⟩:=h;refine⟨_,(ag (am (gQ (aD (vB (K:=K) T) hr (ab (aa 0) ad)) (ii (nJ fH fH (bE T.FU) (aa 0) (bE T.TZ)))))),?_⟩;refine⟨v,rfl,b,?_⟩;refine ao (λe=>?_) (λe=>?_)
 ·obtain⟨i,rfl⟩:=vo e;refine ao (λa=>?_) (λa=>?_)
  ·exact cI k (by simp[db]at *;lia)
  ·exact cI k (by simp[db]at *;lia)
 ·exact cI k (by cases v<;>simp_all [jw,db])
def jx (T:Txt w K mg t):bz P w K mg base "is_sign" 3 t.Au t.wH ["thing"] (nr dv K):=by
 refine⟨T.Sb,T.G6.kp,T.UQ,T.G6.okQ KB qE λ_ _ _ _ H vs Q E hr h=>?_⟩;obtain⟨v,rfl,a,k⟩:=h;refine⟨_,(af (aL (dG (fV (eS (dD (aD (vB (K:=K) T) hr (ab (aa 0) ad)))) (fU (eS (Db fH fH aj (aa 0) (bE T.TY)))))) (ag (am dW)) aN)
  (ag (am (Dc (qg (aD (EG (K:=K) T) hr (ab (aa 0) ad)) (qg (aD (EE (K:=K) T) hr (ab (aa 0) ad)) (ii (aD (EF (K:=K) T) hr (ab (aa 0) ad))))))))),?_⟩
 refine⟨v,rfl,a,?_⟩;refine ao (λe=>?_) (λe=>?_)
 ·refine nY ?_;exact cI k (by cases v<;>simp_all [jw,db,dv])
 ·obtain⟨i,rfl⟩:=vo (v:=v) (by simpa using e);refine ao (λd=>?_) (λd=>?_)
  ·refine ao (λb=>?_) (λb=>?_)
   ·exact cI k (by simp[dv,db]at *;lia)
   ·refine⟨i,rfl,?_⟩;refine ao (λf=>?_) (λf=>?_)
    ·exact cI k (by simp[dv,db]at *;lia)
    ·refine⟨i,rfl,?_⟩;refine ao (λc=>?_) (λc=>?_)
     ·exact cI k (by simp[dv,db]at *;lia)
     ·refine⟨_,rfl,a,?_⟩;exact cI k (by rw[ZF];simp[dv,db]at *;lia)
  ·refine nY ?_;exact cI k (by simp[dv,db]at *;lia)
def Jr(K:PySem.W.Frag):Sp:=λvs H Q _=>∃(a:Addr) (us:f6),vs=[.ref a]/\aG K H a (us.map V.int)/\us.length<=2/\∀H',ah H H'->Q (oV (jh us)) H'
theorem Iu:∀ {us:f6},us.length=2->∃u v,us=[u,v]
 | [u,v],_=>⟨u,v,rfl⟩
def IH(x y:Int):aY 10 [x,y]=x*1024+y:=by
 show (0*2 ^ 10+x)*2 ^ 10+y=_;have:(2:Int) ^ 10=1024:=by decide
 rw[this];lia
def Qi (T:Txt w K mg t):bz P w K mg base "sign_of" 4 t.Af t.wu ["units"] (Jr K):=by
 refine⟨T.RS,T.GS.kp,T.UC,T.GS.okQ Kw (λvs H Q E h=>by obtain⟨a,us,rfl,_⟩:=h;rfl) λ_ _ _ _ H vs Q E hr h=>?_⟩;obtain⟨a,us,rfl,d,hl,k⟩:=h;have B:=hr.units;obtain⟨o,i⟩:∃o,o=jh us:=⟨_,rfl⟩;rw[<- i]at k;obtain⟨L,eL⟩:∃L:Int,L=((us.map V.int).length:Int):=⟨_,rfl⟩;have eL2:L=(us.length:Int):=by rw[eL,Yl]
 refine⟨_,(af (aL (dG (jq (aQ (cf (K:=K) rfl B) (bu (Yb K) T.n_len Yq (ab (aa 0) ad)) aj (aS _)) (mD (dD (aD (jx (K:=K) T) hr (ab (aE (Yc K) (aa 0) aj (λ_ _=>rfl)) ad)))))) (ag (am (aE (Yc K) (aa 0) aj (λ_ _=>rfl)))) aN)
  (af (aL (dG (jq (aQ (cf (K:=K) rfl B) (bu (Yb K) T.n_len Yq (ab (aa 0) ad)) aj (aS _)) (jq (dD (aD (EG (K:=K) T) hr (ab (aE (Yc K) (aa 0) aj (λ_ _=>rfl)) ad))) (mD (dD (aD (EE (K:=K) T) hr (ab (aE (Yc K) (aa 0) aj (λ_ _=>rfl)) ad))))))) (ag (am (az (Ya K) (bE T.zD) (aD (n6 (K:=K) T) hr (ab (aR (ab (az cA (aE (Yc K) (aa 0) aj (λ_ _=>rfl)) (bE T.zE)) (ab (az cA (aE (Yc K) (aa 0) aj (λ_ _=>rfl)) (bE T.sQ)) ad))) (ab (bE T.FT) ad)))))) aN)
  (ag (am ce)))),?_⟩
 have l:∀ {p:Prop} {n:Prop} {b:Bool},(b=true->p)->(b=false->n)->if b=true then p else n:=λ{p n b} x y=>by
  cases b with
  | true=>exact x rfl
  | false=>exact y rfl
 refine⟨_,.inl d,?_⟩;rw[<- eL];refine ao (λe=>?_) (λe=>?_)
 ·have e:L=1:=aac e;obtain⟨u,rfl⟩:∃u,us=[u]:=List.length_eq_one_iff.mp (by lia);refine⟨_,.int u,.inl d,ba (j:=0) rfl,?_⟩;refine⟨.int u,rfl,.int u,?_⟩;refine ao (λg=>?_) (λg=>?_)
  ·refine⟨_,.int u,.inl d,ba (j:=0) rfl,?_⟩;have f:o=some u:=i.trans (aaa g);subst f;exact k _ (ah.refl _)
  ·have f:o=none:=i.trans (on g);subst f;refine⟨_,.inl d,?_⟩;rw[<- eL];refine ao (λc=>aab (aac c) (by lia)) (λ_=>?_);exact k _ (ah.refl _)
 have e:¬L=1:=λz=>e (aad z);refine⟨_,.inl d,?_⟩;rw[<- eL];refine ao (λc=>?_) (λc=>?_)
 ·have c:L=2:=aac c;obtain⟨u,v,rfl⟩:∃u v,us=[u,v]:=Iu (by lia);refine⟨_,.int u,.inl d,ba (j:=0) rfl,?_⟩;refine⟨u,rfl,?_⟩;refine ao (λg=>?_) (λg=>?_)
  ·simp only [YT,decide_eq_true_eq]at g;refine⟨_,.int v,.inl d,ba (j:=1) rfl,?_⟩;refine⟨v,rfl,?_⟩;refine ao (λc=>?_) (λc=>?_)
   ·simp only [YT,decide_eq_true_eq]at c;have f:o=some (65536+((u-55296)*1024+(v-56320))):=i.trans (aaa ⟨g,c⟩);subst f;refine⟨_,.int u,.inl d,ba (j:=0) rfl,?_⟩;refine⟨_,.int v,.inl d,ba (j:=1) rfl,?_⟩;refine⟨sz rfl,λs D q=>?_⟩;have r:=IH (u-55296) (v-56320);have C:aG K D s (([u-55296,v-56320]:f6).map V.int):=q.lst;obtain⟨ps,m⟩:∃ps:f6,ps=[u-55296,v-56320]:=⟨_,rfl⟩;rw[<- m]at C r;have F:(2:Int) ^ 10=1024:=by decide
    refine⟨s,ps,10,rfl,C,?_,by decide,by rw[m];simp,?_⟩
    ·intro x hx;rw[m]at hx;simp at hx;rcases hx with rfl|rfl<;>lia
    ·rw[r];exact k _ q.sm
   ·have f:o=none:=i.trans (on λz=>c (by simp;exact z.2));subst f;exact k _ (ah.refl _)
  ·have f:o=none:=i.trans (on λz=>g (by simp;exact z.1));subst f;exact k _ (ah.refl _)
 ·have c:¬L=2:=λz=>c (aad z);have z0:us=[]:=a0n.mp (by lia);subst z0;subst i;exact k _ (ah.refl _)
def Po(t:Adr)(H:Hp)(o:Addr)(h:Bool):Prop:=∃dx,H o=some (.ins t.bR dx [("order",.str (cr h))])
def Po.mono{H a:Hp}{o:Addr}{h:Bool}(p:Po t H o h)(s:ah H a):Po t a o h:=let ⟨dx,z⟩:=p;⟨dx,s _ _ z⟩
def Cn(t:Adr):Sp:=λvs H Q _=>∃(x dx:Addr) (h:Bool),vs=[.ref x,.str (cr h)]/\H x=some (.ins t.bR dx [])/\Q .non (upd H x (.ins t.bR dx [("order",.str (cr h))]))
def ND (T:Txt w K mg t):bH P w K mg base bO 1 t.tI t.oI ["self", "order"] (Cn t):=by
 refine T.WY.okQ Lg (λvs H Q E h=>by obtain⟨x,dx,v,rfl,_⟩:=h;rfl) λ_ _ _ _ H vs Q E hr h=>?_;obtain⟨x,dx,h,rfl,hx,k⟩:=h;refine⟨_,(af (aL (dG (fV (eS (dD (bu (oY (K:=K) rfl) T.n_isinstance Z4 (ab (aa 1) (ab (nK rfl T.n_str PyProof.Rows.boot_str) ad))))) (fU (aQ (RX (K:=K) rfl rfl T.FF) (aa 1) (fG (v:=.ref t.Be) rfl T.FV rfl) (by with_unfolding_all rfl))))) (ag eU) aN)
  (ag (bQ (K:=K) rfl (aa 0) (aa 1)))),?_⟩
 refine⟨_,_,.str _,by with_unfolding_all rfl,?_⟩;refine⟨_,rfl,rfl,?_⟩;refine ao (λe=>aab e (by cases h<;>simp[gY,cr])) (λ_=>?_);exact⟨x,_,dx,_,rfl,hx,T.gd,T.vf,by decide,k⟩
def qJ (T:Txt w K mg t):gg P w K mg base "PairTongue" t.bR 1 t.tI t.oI ["self", "order"] [] (Cn t):=⟨T.Rp,T.OH,⟨[],T.VH,.nil⟩,ND T⟩
def Qq (T:Txt w K mg t):bz P w K mg base "is_byte" 2 t.AA t.wN ["thing"] (nr (λv=>db v 0 255) K):=by
 refine⟨T.Sj,T.He.kp,T.UW,T.He.okQ KH qE λ_ _ _ _ H vs Q E hr h=>?_⟩;obtain⟨v,rfl,b,k⟩:=h;refine⟨_,(ag (am (gQ (aD (vB (K:=K) T) hr (ab (aa 0) ad)) (ii (nJ fH fH aj (aa 0) (bE T.T0)))))),?_⟩;refine⟨v,rfl,b,?_⟩;refine ao (λe=>?_) (λe=>?_)
 ·obtain⟨i,rfl⟩:=vo e;refine ao (λa=>?_) (λa=>?_)
  ·exact cI k (by simp[db]at *;lia)
  ·exact cI k (by simp[db]at *;lia)
 ·exact cI k (by cases v<;>simp_all [jw,db])
def Jk(t:Adr):Sp:=λvs H Q _=>∃(o a:Addr) (h:Bool) (x y:Int),vs=[.ref o,.ref a]/\Po t H o h/\H a=some (.lst [.int x,.int y])/\∀p H',ah H H'->H' p=some (.lst ((if h then [x,y] else [y,x]).map V.int))->Q (.ref p) H'
def EV (T:Txt w K mg t):cc P w K mg base t.bR "turned" 1 t.A6 t.xy ["self", "pair"] (Jk t):=by
 refine⟨T.gd,T.On,T.VE,T.WV.okQ Le (λvs H Q E h=>by obtain⟨o,a,h,x,y,rfl,_⟩:=h;rfl) λ_ _ _ _ H vs Q E hr h=>?_⟩;obtain⟨o,a,h,x,y,rfl,⟨dx,c⟩,b,k⟩:=h;have d:=hr.units;refine⟨_,(ag (am (gw (aQ (cf (K:=K) rfl d) (aX (K:=K) rfl (aa 0)) dC (aS _)) (aa 1) (aR (ab (aE (Yc K) (aa 1) aj (λ_ _=>rfl)) (ab (aE (Yc K) (aa 1) aj (λ_ _=>rfl)) ad)))))),?_⟩;refine⟨o,_,dx,_,_,rfl,c,T.gd,T.vf,rfl,?_⟩;cases h with
 | true =>
  refine⟨_,_,aO.str _,aO.str _,by decide +kernel,by decide +kernel,?_⟩;refine ao (λ_=>?_) (λe=>aab (by decide +kernel) e);exact k _ _ (ah.refl _) b
 | false =>
  refine⟨_,_,aO.str _,aO.str _,by decide +kernel,by decide +kernel,?_⟩;refine ao (λe=>aab e (by decide +kernel)) (λ_=>?_);refine⟨_,.int y,.inl (.of b),ba (j:=1) rfl,?_⟩;refine⟨_,.int x,.inl (.of b),ba (j:=0) rfl,?_⟩;exact⟨sz rfl,λp f g=>k _ _ g.sm g.at_⟩
def Jh(K:PySem.W.Frag)(t:Adr):Sp:=λvs H Q _=>∃(o a:Addr) (h:Bool) (r:f6),vs=[.ref o,.ref a]/\Po t H o h/\aG K H a (r.map V.int)/\(r.length=2\/r.length=4)/\Byts r/\∀p H',bc H p (.lst ((dm h r).map V.int)) H'->Q (.ref p) H'
def QX (T:Txt w K mg t):cc P w K mg base t.bR "units_in" 3 t.A4 t.xw ["self", "row"] (Jh K t):=by
 refine⟨T.gd,T.Ol,T.VC,T.WT.okQ Lc (λvs H Q E h=>by obtain⟨o,a,h,r,rfl,_⟩:=h;rfl) λ_ _ _ _ H vs Q E hr h=>?_⟩;obtain⟨o,a,h,r,rfl,po,j,hl,hb,k⟩:=h;have O:=hr.units;refine⟨_,(ag (am (iL rfl (cZ.of (fns:=(ae jo).names) (N:=["self", "row"]) (Nc:=["at", "self", "row"]) (nv:=1) (caps:=[0,1]) rfl rfl (by decide +kernel)) (uP rfl T.n_range (ab aj (ab (bu (Yb K) T.n_len Yq (ab (aa 1) ad)) (ab aj ad)))) (λ_ _ _ _=>(bi (i:=0) (show List.Nodup (["at", "self", "row"]:List Str) by decide +kernel) rfl (Or.inl rfl) (Or.inr rfl))) (λ_ _ _ _=>fD) (λ_ _ _ _=>(aD (n6 (K:=K) T) hr (ab (cM (EV (K:=K) T) hr (aa 1) (ab (cD (Yd K) (aa 2) (bU (aa 0)) (bU (az (Ya K) (aa 0) aj))) ad)) (ab (bE T.sS) ad))))))),?_⟩;refine⟨_,.inl j,?_⟩;refine⟨r.length,2,by rw[Yl];rfl,by lia,by decide,by decide,?_⟩;have B:(dm h r).length=(r.length+(2-1))/2:=by
  match r,hl with
  | [x,y],_=>simp[dm]
  | [x,y,z,v],_=>simp[dm]
 refine Tf (cs:=[some (.ref o),some (.ref a)]) ((dm h r).map V.int) (by rw[Yl,B]) (bM (by lia)) (λi y J N e d g hN=>?_) k;obtain⟨c,b,C,p,F,rfl⟩:∃c b,gz r (some ((0:Int)+(i:Int)*((2:Nat):Int))) (some ((0:Int)+(i:Int)*((2:Nat):Int)+2))=[c,b]/\c∈r/\b∈r/\y=.int (u2 h c b):=by
  match r,hl,e,d with
  | [x,z],_,e,d =>
   have:i=0:=by simp at e;lia
   subst this;cases d;exact⟨x,z,rfl,by simp,by simp,rfl⟩
  | [x,z,v,u],_,e,d =>
   have:i=0\/i=1:=by simp at e;lia
   rcases this with rfl|rfl
   ·cases d;exact⟨x,z,rfl,by simp,by simp,rfl⟩
   ·cases d;exact⟨v,u,rfl,by simp,by simp,rfl⟩
 obtain⟨dx,m⟩:=po.mono g;refine⟨o,dx,_,rfl,m,rfl,?_⟩;refine⟨_,rfl,_,rfl,_,g.seq j,λI S f=>?_⟩;rw[dL,C]at f;refine⟨o,I,h,c,b,rfl,⟨dx,f.sm _ _ m⟩,f.at_,λs R D G=>?_⟩;have L:=hb c p;have U:=hb b F;have M:(2:Int) ^ 8=256:=by decide
 refine⟨s,if h then [c,b] else [b,c],8,rfl,.of G,?_,by decide,by cases h<;>simp,?_⟩
 ·intro q l;cases h<;>simp at l<;>rcases l with rfl|rfl<;>lia
 ·have n:aY 8 (if h then [c,b] else [b,c])=u2 h c b:=by cases h<;>simp[aY,u2]
  rw[n];exact hN _ (f.sm.trans D)
theorem HH(h:Bool):∀r:f6,r.length=2\/r.length=4->(dm h r).length<=2
 | [_,_],_=>by simp[dm]
 | [_,_,_,_],_=>by simp[dm]
def Cg(K:PySem.W.Frag)(t:Adr):Sp:=λvs H Q _=>∃(o a:Addr) (h:Bool) (r:f6),vs=[.ref o,.ref a,.int 0]/\Po t H o h/\aG K H a (r.map V.int)/\Byts r/\r.length<=1000/\(∀n,fP h r=some n->∀p H',bc H p (.tup [.int n,.int 0]) H'->Q (.ref p) H')/\(fP h r=none->∀H',ah H H'->Q .non H')
def Nt (T:Txt w K mg t):bH P w K mg base bO 5 t.tH t.oH ["self", "row", "page"] (Cg K t):=by
 refine T.WS.okQ CN (λvs H Q E h=>by obtain⟨o,a,h,r,rfl,_⟩:=h;rfl) λ_ _ _ _ H vs Q E hr h=>?_;obtain⟨o,a,h,r,rfl,po,d,hb,hl,k1,k2⟩:=h;have z:=hr.units;refine⟨_,(af (aL (aQ (E6 (K:=K) rfl) (bu (Yb K) T.n_len Yq (ab (aa 1) ad)) (cm (ab aj (ab aj ad))) (by with_unfolding_all rfl)) (ag (am ce)) aN)
  (af (aP (i:=3) CN.nd rfl (.inl rfl) (aD (Qi (K:=K) T) hr (ab (cM (QX (K:=K) T) hr (aa 0) (ab (aa 1) ad)) ad)))
  (ag (am (gw (aQ hE (aa 3) ce (aS _)) ce (cm (ab (aa 3) (ab (aa 2) ad)))))))),?_⟩
 refine⟨_,.inl d,?_⟩;refine⟨sz rfl,λy u b=>?_⟩;refine⟨_,.inr b.tup,rfl,rfl,?_⟩;have f:dZ (.int ((r.map V.int).length:Int)) [V.int 2,V.int 4]=decide (r.length=2\/r.length=4):=by
  rw[Yl,ZF];simp[dZ,d6];lia
 refine ao (λe=>?_) (λe=>?_)
 ·have e:(!dZ (.int ((r.map V.int).length:Int)) [V.int 2,V.int 4])=true:=e;rw[f]at e;have c:¬(r.length=2\/r.length=4):=by simpa using e
  exact k2 (on c) _ b.sm
 have e:¬(!dZ (.int ((r.map V.int).length:Int)) [V.int 2,V.int 4])=true:=e;rw[f]at e;have c:r.length=2\/r.length=4:=by simp at e;lia
 have s:fP h r=jh (dm h r):=aaa c;obtain⟨dx,g⟩:=po.mono b.sm;refine⟨o,dx,_,rfl,g,rfl,?_⟩;refine⟨o,a,h,r,rfl,⟨dx,g⟩,b.sm.seq d,c,hb,λl x j=>?_⟩;refine⟨l,dm h r,rfl,j.lst,HH h r c,λv k=>?_⟩;have sA:=b.sm.trans (j.sm.trans k);rw[s]at k1 k2;cases es:jh (dm h r) with
 | none=>exact k2 es _ sA
 | some n=>exact⟨sz rfl,λq p m=>k1 n es q p (m.after sA)⟩
def EU (T:Txt w K mg t):dR P w K mg base t.bR "whole" 5 t.tH t.oH ["self", "row", "page"] [] (Cg K t) :=
 ⟨T.gd,T.Oj,⟨_,T.VB,.nil⟩,Nt T⟩
def oq(h:Bool)(r:f6):Option (f6):=(iz h).find? λf=>(fP h (r++f)).isSome
def Cr(K:PySem.W.Frag)(t:Adr):Sp:=λvs H Q _=>∃(o a:Addr) (h:Bool) (r:f6),vs=[.ref o,.ref a,.int 0]/\Po t H o h/\aG K H a (r.map V.int)/\Byts r/\r.length<=900/\(∀f,oq h r=some f->∀p H',bc H p (.lst (f.map V.int)) H'->Q (.ref p) H')/\(oq h r=none->∀H',ah H H'->Q .non H')
def rj(t:Adr)(h:Bool):List Addr:=if h then [t.a_FILLS_0_0,t.a_FILLS_0_1,t.a_FILLS_0_2,t.a_FILLS_0_3,t.a_FILLS_0_4] else [t.a_FILLS_1_0,t.a_FILLS_1_1,t.a_FILLS_1_2,t.a_FILLS_1_3,t.a_FILLS_1_4]
def SL(T:Txt w K mg t)(h:Bool){i:Nat}{x:V}(hx:((rj t h).map V.ref)[i]? = some x):∃b f,x=.ref b/\(iz h)[i]? = some f/\∀H,bq K H b (f.map V.int):=by
 cases h with
 | true =>
  match i,hx with
  | 0,hx=>cases hx;exact⟨_,_,rfl,rfl,T.q_FILLS_0_0⟩
  | 1,hx=>cases hx;exact⟨_,_,rfl,rfl,T.q_FILLS_0_1⟩
  | 2,hx=>cases hx;exact⟨_,_,rfl,rfl,T.q_FILLS_0_2⟩
  | 3,hx=>cases hx;exact⟨_,_,rfl,rfl,T.q_FILLS_0_3⟩
  | 4,hx=>cases hx;exact⟨_,_,rfl,rfl,T.q_FILLS_0_4⟩
 | false =>
  match i,hx with
  | 0,hx=>cases hx;exact⟨_,_,rfl,rfl,T.q_FILLS_1_0⟩
  | 1,hx=>cases hx;exact⟨_,_,rfl,rfl,T.q_FILLS_1_1⟩
  | 2,hx=>cases hx;exact⟨_,_,rfl,rfl,T.q_FILLS_1_2⟩
  | 3,hx=>cases hx;exact⟨_,_,rfl,rfl,T.q_FILLS_1_3⟩
  | 4,hx=>cases hx;exact⟨_,_,rfl,rfl,T.q_FILLS_1_4⟩
theorem Fo{α:Type}{p:α->Bool}:∀ {l:List α} {i:Nat} {f:α},l[i]? = some f->(∀g∈l.take i,p g=false)->p f=true->l.find? p=some f
 | a::r,0,f,h,_,hp=>by cases h;rw[Y2,hp]
 | a::r,i+1,f,h,hn,hp=>by
  rw[Y2,hn a (by simp)];exact Fo (l:=r) (i:=i) h (λg b=>hn g (by simp[b])) hp
def NF (T:Txt w K mg t):bH P w K mg base bO 6 t.tJ t.oJ ["self", "row", "page"] (Cr K t):=by
 refine T.WZ.okQ CO (λvs H Q E h=>by obtain⟨o,a,h,r,rfl,_⟩:=h;rfl) λ_ _ _ _ H vs Q E hr h=>?_;obtain⟨o,a,h,r,rfl,po,L,hb,hl,k1,k2⟩:=h;have S:=hr.units;refine⟨_,(af (cq PassesOwn.never rfl (C7 (K:=K) rfl (LY (K:=K) rfl rfl T.FF rfl T.FV (aX (K:=K) rfl (aa 0)))) (bi (i:=3) CO.nd rfl (.inl rfl)) (ag (aL (aQ vF (cL (EU (K:=K) T) hr (aa 0) (ab (az (Ya K) (aa 1) (eV (Ye K) T.n_list Y4 (ab (aa 3) ad))) (ab (aa 2) ad))) ce (aS _)) (ag (am (eV (Ye K) T.n_list Y4 (ab (aa 3) ad)))) aN)))
  (ag (am ce))),?_⟩
 obtain⟨dx,p⟩:=id po;refine⟨o,_,dx,_,_,rfl,p,T.gd,T.vf,rfl,?_⟩;obtain⟨F,eF,qF⟩:∃F,gY [(t.h_FILLS_0, "high",t.a_FILLS_0),(t.h_FILLS_1, "low",t.a_FILLS_1)] (cr h)=some F/\∀H,bq K H F ((rj t h).map V.ref):=by
  cases h with
  | true=>exact⟨_,by simp[gY,cr],T.q_FILLS_0⟩
  | false=>exact⟨t.a_FILLS_1,by simp[gY,cr,show ¬(("high" : Str) = "low") by decide],T.q_FILLS_1⟩
 refine⟨_,F,rfl,eF,?_⟩;have eL:((rj t h).map V.ref).length=(iz h).length:=by cases h<;>rfl
 refine⟨_,rfl,⟨_,qF _⟩,Fk (K:=K) (a:=F) (xs:=(rj t h).map V.ref) (λi σ s=>ah H s/\(∀g∈(iz h).take i,(fP h (r++g)).isSome=false)/\∃m,σ=[some (.ref o),some (.ref a),some (.int 0),m]) ⟨ah.refl _,λg z=>by simp at z,_,rfl⟩ (λi σ s _ z=>qF _) ?_ ?_⟩
 ·rintro i x σ C hx ⟨e,d,m,rfl⟩;obtain⟨b,f,rfl,l,u⟩:=SL T h hx;have hm:=YD l;have I:=SI hm;refine⟨o,dx,_,rfl,e _ _ p,rfl,?_⟩;refine⟨_,.inr (u _),λY W v=>?_⟩;have q:=e.trans v.sm;refine⟨_,_,q.seq L,v.lst,bM (by rw[Yl,Yl];lia),λJ U j=>?_⟩;rw[<- Yw]at j;have k:=q.trans j.sm;refine⟨o,J,h,r++f,rfl,⟨dx,k _ _ p⟩,j.lst,hb.app (SJ hm),by rw[Yo];lia,λn hw R B y=>?_,λhw B M=>?_⟩
  ·have G:oq h r=some f:=Fo l d (by rw[hw];rfl);exact⟨_,.inr (u _),λO N D=>k1 f G O N (D.after (k.trans y.sm))⟩
  ·refine⟨k.trans M,λg c=>?_,_,rfl⟩;rw[a0h,l]at c;rcases Yx.mp c with c|c
   ·exact d g c
   ·have:g=f:=by simpa using c
    rw[this,hw];rfl
 ·rintro σ C ⟨e,d,m,rfl⟩;rw[eL,Yy]at d;exact k2 (List.find?_eq_none.mpr λg c=>by rw[d g c];simp) _ e
def Q4 (T:Txt w K mg t):dR P w K mg base t.bR "fill" 6 t.tJ t.oJ ["self", "row", "page"] [] (Cr K t) :=
 ⟨T.gd,T.Op,⟨_,T.VI,.nil⟩,NF T⟩
def pL(h:Bool)(m:Int)(r:f6):dm h (ub h m++r)=m::dm h r:=by
 have e:m/256*256+m%256=m:=by lia
 cases h
 ·show u2 false (m%256) (m/256)::dm false r=_;unfold u2;rw[on (by simp),e]
 ·show u2 true (m/256) (m%256)::dm true r=_;unfold u2;rw[aaa rfl,e]
theorem BA(h:Bool):∀us:f6,dm h (us.flatMap (ub h))=us
 | []=>rfl
 | a::r=>by rw[a0m,pL,BA h r]
def qi(h:Bool)(n:Int):(bN h n).length=if n<65536 then 2 else 4:=by
 unfold bN c6;by_cases c:n<65536
 ·rw[aaa c,aaa c,qV];rfl
 ·rw[on c,on c,qV];rfl
def Ki{n:Int}(hs:Sg n):jh (c6 n)=some n:=by
 have a:=hs;obtain⟨f,d,b,g⟩:=a;unfold c6;by_cases c:n<65536
 ·rw[aaa c];exact aaa ((ig n).mpr hs)
 ·rw[on c];have e:65536+((55296+(n-65536)/1024-55296)*1024+(56320+(n-65536)%1024-56320))=n:=by lia
  refine (aaa (by lia)).trans ?_;rw[e]
def Hw(h:Bool){n:Int}(hs:Sg n):fP h (bN h n)=some n:=by
 have e:=qi h n;unfold fP;rw[aaa (by rw[e];by_cases c:n<65536<;>simp[c])];unfold bN;rw[BA,Ki hs]
def HS(h:Bool){u:Int}(a:0<=u/\u<65536):Byts (ub h u):=by
 intro b hb;unfold ub at hb;cases h<;>simp at hb<;>lia
def Dl(h:Bool){n:Int}(hs:Sg n):Byts (bN h n):=by
 intro b hb;unfold bN at hb;obtain⟨u,a,hb⟩:=a1o.mp hb;exact HS h (Bz hs a) b hb
def Mt(h:Bool){n:Int}(hs:Sg n)(c:¬n<65536):∃u,(bN h n).take 2=ub h u/\55296<=u/\u<56320:=by
 obtain⟨a,e,b,d⟩:=hs;refine⟨55296+(n-65536)/1024,?_,by lia,by lia⟩;unfold bN c6;rw[on c,a0m];have:=m6 h (55296+(n-65536)/1024);rw[<- this,List.take_left]
def P1(h:Bool){u:Int}(b:55296<=u)(a:u<56320):fP h (ub h u)=none:=by
 unfold fP;rw[aaa (.inl (m6 h u))];have e:=pL h u [];rw[Y8]at e;rw[e];refine on λz=>?_;have z:=(ig u).mp z;unfold Sg at z;lia
def P2(h:Bool){u:Int}(c:55296<=u)(b:u<56320):oq h (ub h u)≠none:=by
 intro z;have z:=List.find?_eq_none.mp z;have a:dm h (ub h u++ub h 56320)=[u,56320]:=by
  have:=pL h 56320 [];rw[Y8]at this;rw[pL,this];rfl
 have m:ub h 56320∈iz h:=by cases h<;>decide
 refine z _ m ?_;unfold fP;rw[aaa (.inr (by rw[Yo,m6,m6])),a];have:jh [u,56320]=some (65536+((u-55296)*1024+(56320-56320))):=aaa (by lia);rw[this]
 rfl
def FH(f:Int)(r:f6):cn ((f::r).map V.int) (some 1) none=r.map V.int:=by
 rw[dL]
 congr 1
 exact i3 (f::r) 1
def JN:Sp:=λvs H Q _=>∃f,vs=[.int f]/\Q (.int (lb f)) H
def Ql (T:Txt w K mg t):bz P w K mg base "length_behind" 1 t.Aq t.wE ["first"] JN:=by
 refine⟨T.R7,T.G3.kp,T.UM,T.G3.okQ Kz (λvs H Q E h=>by obtain⟨f,rfl,_⟩:=h;rfl) λ_ _ _ _ H vs Q E hr h=>?_⟩;obtain⟨f,rfl,k⟩:=h;have i:=hr.units;refine⟨_,(af (aL (aQ dH (aa 0) aj (aS _)) (ag (am aj)) aN)
  (af (aL (dG (fV (aQ dH (aa 0) aj (aS _)) (fU (aQ iU (aa 0) aj (aS _))))) (ag (am aj)) aN)
  (af (aL (aQ dH (aa 0) aj (aS _)) (ag (am aj)) aN)
  (af (aL (aQ dH (aa 0) aj (aS _)) (ag (am aj)) aN)
  (ag (am aj)))))),?_⟩
 have a:∀ {n:Int},n=lb f->Q (.int n) H:=λe=>e ▸ k;refine ao (λe=>a ?_) (λe=>?_)
 ·simp at e;unfold lb;rw[aaa (by lia)]
 refine ao (λb=>?_) (λb=>?_)
 ·exact a (by simp at e b;unfold lb;rw[on (by lia),aaa (by lia)])
 refine ao (λc=>?_) (λc=>?_)
 ·exact a (by simp at e b c;unfold lb;rw[on (by lia),aaa (by lia)])
 refine ao (λd=>?_) (λd=>?_)
 ·exact a (by simp at e b c d;unfold lb;rw[on (by lia),on (by lia),aaa (by lia)])
 refine ao (λg=>?_) (λg=>?_)
 ·exact a (by simp at e b c d g;unfold lb;rw[on (by lia),on (by lia),on (by lia),aaa (by lia)])
 ·exact a (by simp at e b c d g;unfold lb;rw[on (by lia),on (by lia),on (by lia),on (by lia)])
def J8(K:PySem.W.Frag):Sp:=λvs H Q _=>∃(a:Addr) (f:Int) (r:f6) (p:Nat),vs=[.ref a,.int (p:Int)]/\aG K H a ((f::r).map V.int)/\∀b H',ah H H'->bq K H' b [.int (eW f p),.int (gb f p)]->Q (.ref b) H'
def EI (T:Txt w K mg t):bz P w K mg base "bounds_behind" 1 t.AJ t.wW ["row", "place"] (J8 K):=by
 refine⟨T.Sw,T.Hn.kp,T.U5,T.Hn.okQ KL (λvs H Q E h=>by obtain⟨a,f,r,p,rfl,_⟩:=h;rfl) λ_ _ _ _ H vs Q E hr h=>?_⟩;obtain⟨a,f,r,p,rfl,g,k⟩:=h;have l:=hr.units;refine⟨_,(af (aL (aQ (cf (K:=K) rfl l) (aa 1) aj (aS _)) (ag (am (LZ (K:=K) rfl T.S9 rfl T.TM (aE (Yc K) (aa 0) aj (λ_ _=>rfl)) (cm (ab (bE T.sR) (ab (bE T.FS) ad)))))) aN)
  (ag (am (cm (ab (bE T.sR) (ab (bE T.FS) ad)))))),?_⟩
 refine ao (λe=>?_) (λe=>?_)
 ·have d:p=1:=by have:=aac e;lia
  subst d;refine⟨_,.int f,.inl g,ba (j:=0) rfl,?_⟩;refine⟨sz rfl,λi c b=>?_⟩;refine⟨f,rfl,?_⟩;by_cases c1:f=224
  ·subst c1;exact k _ _ b.sm (T.q_SECONDS_0 c)
  by_cases c2:f=237
  ·subst c2;exact k _ _ b.sm (T.q_SECONDS_1 c)
  by_cases c3:f=238
  ·subst c3;exact k _ _ b.sm (T.q_SECONDS_2 c)
  by_cases c4:f=240
  ·subst c4;exact k _ _ b.sm (T.q_SECONDS_3 c)
  by_cases c5:f=244
  ·subst c5;exact k _ _ b.sm (T.q_SECONDS_4 c)
  have e:oh [(224,t.a_SECONDS_0),(237,t.a_SECONDS_1),(238,t.a_SECONDS_2),(240,t.a_SECONDS_3),(244,t.a_SECONDS_4)] f=none:=by
   simp[oh,Ne.symm c1,Ne.symm c2,Ne.symm c3,Ne.symm c4,Ne.symm c5]
  rw[e];refine k _ _ b.sm ?_;rw[eW,gb,aaa rfl,aaa rfl,jv,gX,on c1,on c4,on c2,on c3,on c5];exact b.tup
 ·refine⟨sz rfl,λi c b=>?_⟩;have d:p≠1:=λz=>by subst z;exact e rfl
  refine k _ _ b.sm ?_;rw[eW,gb,on d,on d];exact b.tup
def JX(K:PySem.W.Frag):Sp:=λvs H Q _=>∃(a:Addr) (f:Int) (r:f6),vs=[.ref a]/\aG K H a ((f::r).map V.int)/\r.length<=1000/\∀H',ah H H'->(tU f r->Q (.bl true) H')/\(¬tU f r->Q (.bl false) H')
def Qt (T:Txt w K mg t):bz P w K mg base "fits_behind" 2 t.AD t.wQ ["row"] (JX K):=by
 refine⟨T.Sn,T.Hh.kp,T.UZ,T.Hh.okQ uE (λvs H Q E h=>by obtain⟨a,f,r,rfl,_⟩:=h;rfl) λ_ _ _ _ H vs Q E hr h=>?_⟩;obtain⟨a,f,r,rfl,p,hl,k⟩:=h;have I:=hr.units;refine⟨_,(af (cq PassesOwn.never rfl (C8 rfl T.n_range (ab aj (ab (bu (Yb K) T.n_len Yq (ab (aa 0) ad)) ad))) (bi (i:=1) uE.nd rfl (.inl rfl)) (af (aP (i:=2) uE.nd rfl (.inl rfl) (aD (EI (K:=K) T) hr (ab (aa 0) (ab (aa 1) ad))))
  (ag (aL (eS (Db fH fH (aE (Yc K) (aa 2) aj (λ_ _=>rfl)) (aE (Yc K) (aa 0) (aa 1) (λ_ _=>rfl)) (aE (Yc K) (aa 2) aj (λ_ _=>rfl)))) (ag (am dW)) aN))))
  (ag (am dW))),?_⟩
 refine⟨_,.inl p,?_⟩;have hL:((List.map V.int (f::r)).length:Int)=(r.length:Int)+1:=by simp
 refine⟨1,_,rfl,⟨by lia,by lia,by lia,by lia⟩,?_⟩;have hN:(((List.map V.int (f::r)).length:Int)-1).toNat=r.length:=by lia
 rw[hN];refine om (lo:=1) (n:=r.length) (λi σ D=>ah H D/\(∀j x,j<i->r[j]? = some x->eW f (j+1)<=x/\x<=gb f (j+1))/\∃s o,σ=[some (.ref a),s,o])
  ⟨ah.refl _,λj x z=>aab z (Zm _),_,_,rfl⟩ ?_ ?_
 ·rintro i σ G C ⟨d,m,s,o,rfl⟩;obtain⟨x,hx⟩:∃x,r[i]? = some x:=⟨_,YM C⟩;have B:(1:Int)+(i:Int)=((i+1:Nat):Int):=by lia
  refine⟨a,f,r,i+1,by rw[<- B];rfl,d.seq p,λb F l hb=>?_⟩;refine⟨_,.int (eW f (i+1)),.inr hb,ba (j:=0) rfl,?_⟩;have u:cv (List.map V.int (f::r)) (1+(i:Int))=some (.int x):=by
   rw[B];exact ba (by rw[YO,List.getElem?_cons_succ,Yt,hx];rfl)
  refine⟨_,.int x,.inl (l.seq (d.seq p)),u,?_⟩;have g:¬(eW f (i+1)<=x/\x<=gb f (i+1))->Q (.bl false) F:=λz=>(k _ (d.trans l)).2 λy=>z (y i x hx);refine ao (λe=>?_) (λe=>?_)
  ·refine⟨_,.int (gb f (i+1)),.inr hb,ba (j:=1) rfl,?_⟩;refine ao (λv=>?_) (λv=>?_)
   ·exact g λz=>by simp at v;lia
   ·refine⟨d.trans l,λj y J q=>?_,_,_,rfl⟩;by_cases c:j<i
    ·exact m j y c q
    ·have:j=i:=by lia
     subst this;rw[hx]at q;cases q;have:=aac e;simp at v;lia
  ·exact g λz=>e (aad z.1)
 ·rintro σ G ⟨d,m,s,o,rfl⟩;exact (k _ d).1 λi x hx=>m i x (Yr.mp hx).1 hx
def JI(K:PySem.W.Frag):Sp:=λvs H Q _=>∃(a:Addr) (f:Int) (r:f6),vs=[.ref a]/\aG K H a ((f::r).map V.int)/\r.length<=1000/\∀H',ah H H'->(pJ f r->Q (.int (lb f-((r.length:Int)+1))) H')/\(¬pJ f r->Q .non H')
def EB (T:Txt w K mg t):bz P w K mg base "missing" 3 t.Aj t.wz ["row"] (JI K):=by
 refine⟨T.R0,T.GW.kp,T.UG,T.GW.okQ CB (λvs H Q E h=>by obtain⟨a,f,r,rfl,_⟩:=h;rfl) λ_ _ _ _ H vs Q E hr h=>?_⟩;obtain⟨a,f,r,rfl,b,hl,k⟩:=h;have g:=hr.units;refine⟨_,(af (aP (i:=1) CB.nd rfl (.inl rfl) (az cA (aD (Ql (K:=K) T) hr (ab (aE (Yc K) (aa 0) aj (λ_ _=>rfl)) ad)) (bu (Yb K) T.n_len Yq (ab (aa 0) ad))))
  (af (aL (dG (fV (aQ dH (aa 1) aj (aS _)) (fU (eS (dD (aD (Qt (K:=K) T) hr (ab (aa 0) ad))))))) (ag (am ce)) aN)
  (ag (am (aa 1))))),?_⟩
 refine⟨_,.int f,.inl b,ba (j:=0) rfl,?_⟩;refine⟨f,rfl,?_⟩;refine⟨_,.inl b,?_⟩;have hL:((List.map V.int (f::r)).length:Int)=(r.length:Int)+1:=by simp
 refine ao (λe=>?_) (λe=>?_)
 ·exact (k _ (ah.refl _)).2 λz=>by have:=aac e;have:=z.1;lia
 ·have e':¬(lb f-((List.map V.int (f::r)).length:Int)<0):=λz=>e (aad z);refine⟨a,f,r,rfl,b,hl,λd c=>⟨λy=>?_,λy=>?_⟩⟩
  ·have q:=(k _ c).1 ⟨by lia,y⟩;rw[<- hL]at q;exact q
  ·exact (k _ c).2 λz=>y z.2
def Cq(K:PySem.W.Frag):Sp:=λvs H Q _=>∃(o a:Addr) (rr:f6),vs=[.ref o,.ref a,.int 0]/\aG K H a (rr.map V.int)/\rr.length<=1000/\(tY rr->∀p H',bc H p (.lst ((qU rr).map V.int)) H'->Q (.ref p) H')/\(¬tY rr->∀H',ah H H'->Q .non H')
def NG (T:Txt w K mg t):bH P w K mg base bO 4 t.tP t.oQ ["self", "row", "page"] (Cq K):=by
 refine T.W9.okQ CP (λvs H Q E h=>by obtain⟨o,a,rr,rfl,_⟩:=h;rfl) λ_ _ _ _ H vs Q E hr h=>?_;obtain⟨o,a,rr,rfl,d,hl,k1,k2⟩:=h;have D:=hr.units;refine⟨_,(af (aL (eS (dE (K:=K) rfl (aa 1))) (ag (am (aR (ab aj ad)))) aN)
  (af (aP (i:=3) CP.nd rfl (.inl rfl) (aD (EB (K:=K) T) hr (ab (aa 1) ad)))
  (af (aL (aQ hE (aa 3) ce (aS _)) (ag (am ce)) aN)
  (ag (am (iL rfl (cZ.of (fns:=(ae jp).names) (N:=["self", "row", "page", "lack"]) (Nc:=["place", "row"]) (nv:=1) (caps:=[1]) rfl rfl (by decide +kernel)) (C8 rfl T.n_range (ab (bu (Yb K) T.n_len Yq (ab (aa 1) ad)) (ab (az (Ya K) (bu (Yb K) T.n_len Yq (ab (aa 1) ad)) (aa 3)) ad))) (λ_ _ _ _=>(bi (i:=0) (show List.Nodup (["place", "row"]:List Str) by decide +kernel) rfl (Or.inl rfl) (Or.inr rfl))) (λ_ _ _ _=>fD) (λ_ _ _ _=>(aE (Yc K) (aD (EI (K:=K) T) hr (ab (aa 1) (ab (aa 0) ad))) aj (λ_ _=>rfl))))))))),?_⟩
 refine⟨_,.inl d,?_⟩;cases rr with
 | nil =>
  refine nY ?_;exact⟨sz rfl,λp u g=>k1 trivial p u g⟩
 | cons f r =>
  refine Py ?_;refine⟨a,f,r,rfl,d,by simp at hl;lia,λB c=>⟨λy=>?_,λy=>?_⟩⟩
  ·refine⟨_,.inl (c.seq d),?_⟩;refine⟨_,.inl (c.seq d),?_⟩;have hL:((List.map V.int (f::r)).length:Int)=(r.length:Int)+1:=by simp
   have hb:=Ef f;have C:=y.1;refine⟨_,_,rfl,⟨by lia,by lia,by lia,by lia⟩,?_⟩;have l:(((List.map V.int (f::r)).length:Int)+(lb f-((r.length:Int)+1))-((List.map V.int (f::r)).length:Int)).toNat=(lb f-((r.length:Int)+1)).toNat:=by lia
   rw[l];refine Th ((qU (f::r)).map V.int) (by rw[Yl,qU,Yl,ZO]) (bM (by lia)) (λi v e N q k m hN=>?_) λp e z=>k1 y p e (z.after c);have s:v=.int (eW f (r.length+1+i)):=by
    rw[Yt,qU,Yt,Ze q]at k;cases k
    rfl
   subst s;have n:((List.map V.int (f::r)).length:Int)+(i:Int)=((r.length+1+i:Nat):Int):=by lia
   refine⟨a,f,r,r.length+1+i,by rw[<- n];rfl,m.seq (c.seq d),λb F x hb=>?_⟩;exact⟨_,.int (eW f (r.length+1+i)),.inr hb,ba (j:=0) rfl,hN _ x⟩
  ·exact k2 y _ c
def Rc (T:Txt w K mg t):dR P w K mg base t.dO "fill" 4 t.tP t.oQ ["self", "row", "page"] [] (Cq K) :=
 ⟨T.oX,T.Oz,⟨_,T.VT,.nil⟩,NG T⟩
def iP(n:Nat):Int:=if n=1 then 192 else if n=2 then 224 else 240
def jB:f6->Int
 | []=>0
 | [f]=>f
 | f::r=>aY 6 ((f-iP r.length)::r.map λb=>b-128)
def J7(K:PySem.W.Frag):Sp:=λvs H Q _=>∃(a:Addr) (rr:f6),vs=[.ref a]/\aG K H a (rr.map V.int)/\hW rr/\∀H',ah H H'->Q (.int (jB rr)) H'
def Hv{f x:Int}{r:f6}(h:hW (f::x::r)):(∀y∈x::r,128<=y/\y<=191)/\0<=f-iP (r.length+1)/\f-iP (r.length+1)<64/\r.length<=2/\(∃v,[0,0,192,224,240][r.length+2]? = some v/\v=iP (r.length+1)):=by
 have hl:=Ef f;obtain⟨⟨d,b⟩,c⟩:pJ f (x::r)/\((x::r).length:Int)+1=lb f:=h;refine⟨((qX f _).mp b).1,?_⟩;have a:(r.length:Int)+2=lb f:=by simp at c;lia
 have hr:r.length<=2:=by lia
 unfold lb at a;have:r.length=0\/r.length=1\/r.length=2:=by lia
 rcases this with z|z|z<;>rw[z]at a ⊢<;>simp only [iP]<;>(repeat' split at a)<;>first|lia|exact⟨by simp;lia,by simp;lia,by lia,_,rfl,rfl⟩
def Qw (T:Txt w K mg t):bz P w K mg base "carried" 3 t.AH t.wU ["row"] (J7 K):=by
 refine⟨T.Su,T.Hl.kp,T.U3,T.Hl.okQ KK (λvs H Q E h=>by obtain⟨a,rr,rfl,_⟩:=h;rfl) λ_ _ _ _ H vs Q E hr h=>?_⟩;obtain⟨a,rr,rfl,c,hw,k⟩:=h;have z:=hr.units;refine⟨_,(af (aL (aQ (cf (K:=K) rfl z) (bu (Yb K) T.n_len Yq (ab (aa 0) ad)) aj (aS _)) (ag (am (aE (Yc K) (aa 0) aj (λ_ _=>rfl)))) aN)
  (ag (am (aD (n6 (K:=K) T) hr (ab (az (Ya K) (aR (ab (az cA (aE (Yc K) (aa 0) aj (λ_ _=>rfl)) (aE (Yc K) (fG (v:=.ref t.o9) rfl T.FR rfl) (bu (Yb K) T.n_len Yq (ab (aa 0) ad)) (λ_ _=>rfl))) ad)) (iL rfl (cZ.of (fns:=(ae jn).names) (N:=["row"]) (Nc:=["byte"]) (nv:=1) (caps:=[]) rfl rfl (by decide +kernel)) (c8 (K:=K) rfl (cD (Yd K) (aa 0) (bU aj) dU)) (λ_ _ _ _=>(bi (i:=0) (show List.Nodup (["byte"]:List Str) by decide +kernel) rfl (Or.inl rfl) (Or.inr rfl))) (λ_ _ _ _=>fD) (λ_ _ _ _=>(az cA (aa 0) (bE T.sR))))) (ab (bE T.FW) ad)))))),?_⟩
 refine⟨_,.inl c,?_⟩
 match rr,c,hw,k with
 | [],_,hw,_=>exact hw.elim
 | [f],c,hw,k =>
  exact⟨_,.int f,.inl c,ba (j:=0) rfl,k _ (ah.refl _)⟩
 | f::x::r,c,hw,k =>
  obtain⟨s,C,D,L,v,g,q⟩:=Hv hw;have hL:((List.map V.int (f::x::r)).length:Int)=((r.length+2:Nat):Int):=by simp;lia
  refine⟨_,.int f,.inl c,ba (j:=0) rfl,?_⟩;refine⟨_,.inl c,?_⟩;have o:cv (([0,0,192,224,240]:f6).map V.int) ((List.map V.int (f::x::r)).length:Int)=some (.int v):=by
   rw[hL];exact ba (by rw[Yt,g];rfl)
  refine⟨_,.int v,.inr (T.Dj _),o,?_⟩;refine⟨sz rfl,λO M l=>?_⟩;refine⟨_,rfl,_,l.sm.seq c,λG I e=>?_⟩;rw[FH]at e;refine⟨_,rfl,⟨_,e.lst⟩,?_⟩;refine oW (((x::r).map λb=>b-128).map V.int) (by simp) e.lst (bM (by simp;lia)) (λi y v B N d g F hN=>?_) λR B n=>?_
  ·rw[Yt]at d;obtain⟨y,m,rfl⟩:=Zk.mp d;rw[Yt,Yt,m]at g;cases g;exact hN _ (ah.refl _)
  refine⟨_,_,(e.sm.trans n.sm).seq l.lst,n.lst,bM (by simp;lia),λu J p=>?_⟩;refine⟨u,(f-v)::(x::r).map λb=>b-128,6,rfl,p.lst,?_,by decide,by simp;lia,?_⟩
  ·intro y d;rcases Yz.mp d with rfl|d
   ·rw[q];exact⟨C,D⟩
   ·obtain⟨b,hb,rfl⟩:=Y3.mp d;have:=s b hb;exact⟨by lia,show b-128<64 by lia⟩
  ·rw[q];exact k _ (l.sm.trans (e.sm.trans (n.sm.trans p.sm)))
def Ch(K:PySem.W.Frag):Sp:=λvs H Q _=>∃(o a:Addr) (rr:f6),vs=[.ref o,.ref a,.int 0]/\aG K H a (rr.map V.int)/\rr.length<=1000/\(hW rr->∀p H',bc H p (.tup [.int (jB rr),.int 0]) H'->Q (.ref p) H')/\(¬hW rr->∀H',ah H H'->Q .non H')
def Nu (T:Txt w K mg t):bH P w K mg base bO 4 t.tN t.oK ["self", "row", "page"] (Ch K):=by
 refine T.W7.okQ Lm (λvs H Q E h=>by obtain⟨o,a,rr,rfl,_⟩:=h;rfl) λ_ _ _ _ H vs Q E hr h=>?_;obtain⟨o,a,rr,rfl,c,hl,k1,k2⟩:=h;have j:=hr.units;refine⟨_,(af (aL (dG (jq (dE (K:=K) rfl (aa 1)) (mD (aQ (cf (K:=K) rfl j) (aD (EB (K:=K) T) hr (ab (aa 1) ad)) aj (aS _))))) (ag (am (cm (ab (aD (Qw (K:=K) T) hr (ab (aa 1) ad)) (ab (aa 2) ad))))) aN)
  (ag (am ce))),?_⟩
 refine⟨_,.inl c,?_⟩;cases rr with
 | nil=>exact k2 id _ (ah.refl _)
 | cons f r =>
  refine⟨a,f,r,rfl,c,by simp at hl;lia,λl b=>⟨λy=>?_,λy=>?_⟩⟩
  ·refine ao (λe=>?_) (λe=>?_)
   ·have hw:hW (f::r):=⟨y,by have:=aac e;lia⟩;refine⟨a,f::r,rfl,b.seq c,hw,λk d=>?_⟩;exact⟨sz rfl,λp i g=>k1 hw p i (g.after (b.trans d))⟩
   ·exact k2 (λz=>e (aad (by have:=z.2;lia))) _ b
  ·refine⟨_,_,aO.non,aO.int 0,rfl,rfl,?_⟩;exact k2 (λz=>y z.1) _ b
def Q9 (T:Txt w K mg t):dR P w K mg base t.dO "whole" 4 t.tN t.oK ["self", "row", "page"] [] (Ch K) :=
 ⟨T.oX,T.Ox,⟨_,T.VR,.nil⟩,Nu T⟩
def LA{n:Int}(h:Sg n):hW (row n)/\jB (row n)=n:=by
 obtain⟨c,d,b,a⟩:=h;unfold row;by_cases c1:n<128
 ·rw[aaa c1]
  exact⟨⟨⟨by unfold lb;rw[aaa c1];simp,λi x z=>by cases z⟩,by unfold lb;rw[aaa c1];simp⟩,rfl⟩
 rw[on c1];by_cases c2:n<2048
 ·rw[aaa c2];have e:lb (192+n/64)=2:=by unfold lb;repeat' split<;>lia
  refine⟨⟨⟨by rw[e];simp,(qX _ _).mpr ⟨λx hx=>?_,λx hx=>?_⟩⟩,by rw[e];simp⟩,?_⟩
  ·simp at hx;lia
  ·simp at hx;subst hx;unfold jv gX;repeat' split<;>lia
  ·simp[jB,iP,aY];lia
 rw[on c2];by_cases c3:n<65536
 ·rw[aaa c3];have e:lb (224+n/4096)=3:=by unfold lb;repeat' split<;>lia
  refine⟨⟨⟨by rw[e];simp,(qX _ _).mpr ⟨λx hx=>?_,λx hx=>?_⟩⟩,by rw[e];simp⟩,?_⟩
  ·simp at hx;lia
  ·simp at hx;subst hx;unfold jv gX;repeat' split<;>lia
  ·simp[jB,iP,aY];lia
 rw[on c3];have e:lb (240+n/262144)=4:=by unfold lb;repeat' split<;>lia
 refine⟨⟨⟨by rw[e];simp,(qX _ _).mpr ⟨λx hx=>?_,λx hx=>?_⟩⟩,by rw[e];simp⟩,?_⟩
 ·simp at hx;lia
 ·simp at hx;subst hx;unfold jv gX;repeat' split<;>lia
 ·simp[jB,iP,aY];lia
def Hu{rr:f6}(h:hW rr){i:Nat}(g:0<i)(a:i<rr.length):tY (rr.take i)/\¬hW (rr.take i):=by
 cases rr with
 | nil=>exact h.elim
 | cons f r =>
  obtain⟨i,rfl⟩:∃j,i=j+1:=⟨i-1,by lia⟩;obtain⟨⟨e,b⟩,d⟩:=h;have hl:(r.take i).length=i:=by rw[Yp];simp at a;lia
  simp at a;rw[List.take_succ_cons];refine⟨⟨by rw[hl];lia,λj x hx=>?_⟩,λz=>?_⟩
  ·have c:j<i:=by have:=(Yr.mp hx).1;lia
   rw[Zt c]at hx;exact b j x hx
  ·have:=z.2;rw[hl]at this;lia
def fZ(n:Int):Int:=if n<128 then 1 else if n<2048 then 2 else if n<65536 then 3 else 4
def Ph{n:Int}(h:Sg n)(f:128<=n):∃(L:Nat) (v d:Int) (bL:f6),fZ n=(L:Int)/\L≠1/\L<=4/\bF 6 L n=d::bL/\[0,0,192,224,240][L]? = some v/\row n=(v+d)::bL.map (λx=>128+x)/\n<2 ^ (6*L):=by
 obtain⟨g,e,_,_⟩:=h;have a:¬n<128:=by lia
 by_cases c2:n<2048
 ·have c:row n=[192+n/64,128+n%64]:=by unfold row;rw[on a,aaa c2]
  have b:fZ n=2:=by unfold fZ;rw[on a,aaa c2]
  rw[c,b];refine⟨2,192,n/64%64,[n%64],rfl,by decide,by decide,by simp[bF,Zc],rfl,?_,by simp;lia⟩;have:n/64%64=n/64:=by lia
  rw[this];rfl
 by_cases c3:n<65536
 ·have c:row n=[224+n/4096,128+n/64%64,128+n%64]:=by unfold row;rw[on a,on c2,aaa c3]
  have b:fZ n=3:=by unfold fZ;rw[on a,on c2,aaa c3]
  rw[c,b];refine⟨3,224,n/4096%64,[n/64%64,n%64],rfl,by decide,by decide,by simp[bF,Zc],rfl,?_,by simp;lia⟩;have:n/4096%64=n/4096:=by lia
  rw[this];rfl
 have c:row n=[240+n/262144,128+n/4096%64,128+n/64%64,128+n%64]:=by unfold row;rw[on a,on c2,on c3]
 have b:fZ n=4:=by unfold fZ;rw[on a,on c2,on c3]
 rw[c,b];refine⟨4,240,n/262144%64,[n/4096%64,n/64%64,n%64],rfl,by decide,by decide,by simp[bF,Zc],rfl,?_,by simp;lia⟩;have:n/262144%64=n/262144:=by lia
 rw[this];rfl
def JF:Sp:=λvs H Q _=>∃(n:Int) (b m:Nat),vs=[.int n,.int (b:Int),.int (m:Int)]/\0<=n/\n<2 ^ (b*m)/\b<=1000/\m<=1000/\∀p H',bc H p (.lst ((bF b m n).map V.int)) H'->Q (.ref p) H'
def oa (T:Txt w K mg t):bz P w K mg base "parted" 2 t.Ai t.wy ["number", "bits", "many"] JF:=by
 refine⟨T.RW,T.GV.kp,T.UF,T.GV.okQ nC (λvs H Q E h=>by obtain⟨n,b,m,rfl,_⟩:=h;rfl) λ_ _ _ _ H vs Q E hr h=>?_⟩;obtain⟨n,b,m,rfl,j,r,hb,hm,k⟩:=h;refine⟨_,(af (ck (aD (EH (K:=K) T) hr (ab (aa 0) (ab (az qM (aa 1) (aa 2)) ad))))
  (af (aP (i:=3) nC.nd rfl (.inl rfl) (aR ad))
  (af (cq PassesOwn.never rfl (nI rfl T.n_range (ab (aa 2) ad)) (bi (i:=4) nC.nd rfl (.inl rfl)) (af (aP (i:=5) nC.nd rfl (.inl rfl) (az RT (aa 0) (aa 1)))
  (af (ck (cT (K:=K) rfl YJ ZD ZE ju (aa 3) (ab (az cA (aa 0) (az E4 (aa 5) (aa 1))) ad)))
  (ag (aP (i:=0) nC.nd rfl (.inl rfl) (aa 5))))))
  (ag (am (LW (K:=K) rfl rfl T.n_list T.n_reversed (ab (aa 3) ad))))))),?_⟩
 have p:(2:Int) ^ 64=18446744073709551616:=by decide
 refine⟨Or.inl ⟨by lia,by lia⟩,?_⟩;refine⟨n,b*m,by rw[Int.natCast_mul];rfl,j,r,?_⟩;refine⟨sz rfl,λo D f=>?_⟩;refine⟨(m:Int),rfl,by lia,by lia,?_⟩;refine om (lo:=0) (n:=((m:Nat):Int).toNat) (λi σ q=>ah H q/\q o=some (.lst (((List.range i).map λi=>n/2 ^ (b*i)%2 ^ b).map V.int))/\∃g l,σ=[some (.int (n/2 ^ (b*i))),some (.int b),some (.int m),some (.ref o),g,l])
  ⟨f.sm,f.at_,_,_,by simp;rfl⟩ ?_ ?_
 ·rintro i σ v B ⟨c,a,g,l,rfl⟩;have y:i<m:=by simpa using B
  refine⟨by lia,?_⟩;refine⟨.inl ⟨rfl,_,.of a⟩,?_⟩;have u:0<=n/2 ^ (b*i)/2 ^ b/\n/2 ^ (b*i)/2 ^ b<=n:=by
   have z1:0<=n/2 ^ (b*i):=a0i j (YN (cB _));exact⟨a0i z1 (YN (cB _)),Int.le_trans (Int.ediv_le_self _ z1) (Int.ediv_le_self _ j)⟩
  have d:Builtin.Int.intBits (n/2 ^ (b*i)/2 ^ b)<=b*m:=intBits_le_iff.mpr (by
   have:((n/2 ^ (b*i)/2 ^ b).natAbs:Int)<((2 ^ (b*m):Nat):Int):=by rw[a1l u.1,a1m];exact Int.lt_of_le_of_lt u.2 r
   exact a1n.mp this)
  have x:b*m<=1000000:=Nat.mul_le_mul hb hm;refine⟨⟨by lia,show ((Builtin.Int.intBits (n/2 ^ (b*i)/2 ^ b):Nat):Int)+(b:Int)<=2 ^ 27 by lia⟩,?_⟩;refine⟨_,a,fA (by simp;lia),?_⟩;refine⟨c.put f.nw,?_,?_⟩
  ·rw[aJ,Zc,Yw,Yw];have:=OA (n/2 ^ (b*i)) b;exact congrArg (λz=>some (HO.lst (_++[V.int z]))) this
  ·rw[<- S2 n b i];exact⟨_,_,rfl⟩
 ·rintro σ v ⟨c,a,g,l,rfl⟩;refine⟨o,_,rfl,.of a,λC F s=>?_⟩;have e:((List.map V.int ((List.range ((m:Nat):Int).toNat).map λi=>n/2 ^ (b*i)%2 ^ b))).reverse=(bF b m n).map V.int:=by
   rw[<- List.map_reverse,Zw,Mr]
  rw[e]at s;exact k _ _ (s.after c)
def Jf:Sp:=λvs H Q _=>∃n,vs=[.int n]/\Sg n/\∀p H',bc H p (.lst ((c6 n).map V.int)) H'->Q (.ref p) H'
def Qh (T:Txt w K mg t):bz P w K mg base "units_of" 3 t.Ad t.wq ["sign"] Jf:=by
 refine⟨T.RN,T.GQ.kp,T.UA,T.GQ.okQ CA (λvs H Q E h=>by obtain⟨n,rfl,_⟩:=h;rfl) λ_ _ _ _ H vs Q E hr h=>?_⟩;obtain⟨n,rfl,hs,k⟩:=h;have v:=hr.units;refine⟨_,(af (aL (aQ dH (aa 0) (bE T.zD) (aS _)) (ag (am (aR (ab (aa 0) ad)))) aN)
  (af (aP (i:=1) CA.nd rfl (.inl rfl) (aD (oa (K:=K) T) hr (ab (az cA (aa 0) (bE T.zD)) (ab (bE T.FT) (ab aj ad)))))
  (ag (am (aR (ab (az (Ya K) (bE T.zE) (aE (Yc K) (aa 1) aj (λ_ _=>rfl))) (ab (az (Ya K) (bE T.sQ) (aE (Yc K) (aa 1) aj (λ_ _=>rfl))) ad))))))),?_⟩
 obtain⟨x,r,_,_⟩:=hs;refine ao (λe=>?_) (λe=>?_)
 ·have d:c6 n=[n]:=by unfold c6;rw[aaa (aac e)]
  rw[d]at k;exact⟨sz rfl,λp f g=>k p f g⟩
 have c:¬n<65536:=λz=>e (aad z);have d:c6 n=[55296+(n-65536)/1024,56320+(n-65536)%1024]:=by unfold c6;rw[on c]
 have b:(2:Int) ^ (10*2)=1048576:=by decide
 refine⟨n-65536,10,2,rfl,by lia,by lia,by decide,by decide,λu o a=>?_⟩;have l:bF 10 2 (n-65536)=[(n-65536)/1024,(n-65536)%1024]:=by
  have:(n-65536)/1024%1024=(n-65536)/1024:=by lia
  simp[bF,Zc,this]
 rw[l]at a;refine⟨_,.int ((n-65536)/1024),.inl a.lst,ba (j:=0) rfl,?_⟩;refine⟨_,.int ((n-65536)%1024),.inl a.lst,ba (j:=1) rfl,?_⟩;rw[d]at k;exact⟨sz rfl,λq s m=>k _ _ (m.after a.sm)⟩
def Jv(K:PySem.W.Frag)(t:Adr):Sp:=λvs H Q _=>∃(o a:Addr) (h:Bool) (us:f6),vs=[.ref o,.ref a]/\Po t H o h/\aG K H a (us.map V.int)/\us.length<=10/\(∀u∈us,0<=u/\u<65536)/\∀p H',bc H p (.lst ((us.flatMap (ub h)).map V.int)) H'->Q (.ref p) H'
def Q0 (T:Txt w K mg t):cc P w K mg base t.bR "row_of" 3 t.A7 t.xz ["self", "units"] (Jv K t):=by
 refine⟨T.gd,T.Oo,T.VG,T.WX.okQ uJ (λvs H Q E h=>by obtain⟨o,a,h,us,rfl,_⟩:=h;rfl) λ_ _ _ _ H vs Q E hr h=>?_⟩;obtain⟨o,a,h,us,rfl,po,q,hl,hb,k⟩:=h;have I:=hr.units;refine⟨_,(af (aP (i:=2) uJ.nd rfl (.inl rfl) (aR ad))
  (af (cq PassesOwn.never rfl (c8 (K:=K) rfl (aa 1)) (bi (i:=3) uJ.nd rfl (.inl rfl)) (ag (ck (cT (K:=K) rfl YJ Zg Zh (Yf K) (aa 2) (ab (cM (EV (K:=K) T) hr (aa 0) (ab (aD (oa (K:=K) T) hr (ab (aa 3) (ab (bE T.sS) (ab aj ad)))) ad)) ad)))))
  (ag (am (aa 2))))),?_⟩
 refine⟨sz rfl,λs L d=>?_⟩;refine⟨a,rfl,⟨_,d.sm.seq q⟩,iy (K:=K) (a:=a) (xs:=us.map V.int) (λi σ j=>ah H j/\j s=some (.lst (((us.take i).flatMap (ub h)).map V.int))/\∃m,σ=[some (.ref o),some (.ref a),some (.ref s),m]) ⟨d.sm,d.at_,_,rfl⟩ (λi σ j _ z=>z.1.seq q) ?_ ?_⟩
 ·rintro i x σ B hx ⟨c,f,m,rfl⟩;obtain⟨u,b,rfl⟩:=dz hx;have p:=hb u (YD b);have N:i<us.length:=(Yr.mp b).1;obtain⟨dx,v⟩:=po;have l:(2:Int) ^ (8*2)=65536:=by decide
  refine⟨.inl ⟨rfl,_,.of f⟩,?_⟩;refine⟨o,dx,_,rfl,c _ _ v,rfl,?_⟩;refine⟨u,8,2,rfl,p.1,by lia,by decide,by decide,λy M g=>?_⟩;have C:bF 8 2 u=[u/256,u%256]:=by
   have:u/256%256=u/256:=by lia
   simp[bF,Zc,this]
  rw[C]at g;refine⟨o,y,h,u/256,u%256,rfl,⟨dx,g.sm _ _ (c _ _ v)⟩,g.at_,λO J r G=>?_⟩;have n:=r _ _ (g.sm _ _ f);have D:((us.take i).flatMap (ub h)).length=2*(us.take i).length:=qV h _;have F:(us.take i).length<=10:=by rw[Yp];lia
  refine⟨_,_,n,G,bM (by rw[Yl,Yl,D];cases h<;>simp<;>lia),?_⟩;refine⟨(c.trans (g.sm.trans r)).put d.nw,?_,_,rfl⟩;rw[aJ];have e:us.take (i+1)=us.take i++[u]:=by rw[a0h,b];rfl
  rw[e,a1p,Yw];simp[ub]
 ·rintro σ B ⟨c,f,m,rfl⟩;rw[Yl,Yy]at f;exact k _ _ ⟨d.nw,c,f⟩
def nj(t:Adr):Sp:=λvs H Q _=>∃(o:Addr) (h:Bool) (n:Int),vs=[.ref o,.int n,.int 0]/\Po t H o h/\Sg n/\∀p q H',H q=none->ah H H'->H' q=some (.lst ((bN h n).map V.int))->H' p=some (.tup [.ref q,.int 0])->Q (.ref p) H'
def DD (T:Txt w K mg t):bH P w K mg base bO 4 t.o7 t.mR ["self", "sign", "page"] (nj t):=by
 refine T.WW.okQ Lf (λvs H Q E h=>by obtain⟨o,h,n,rfl,_⟩:=h;rfl) λ_ _ _ _ H vs Q E hr h=>?_;obtain⟨o,h,n,rfl,po,hs,k⟩:=h;have d:=hr.units;refine⟨_,(af (aL (eS (dD (aD (jx (K:=K) T) hr (ab (aa 1) ad)))) (ag eU) aN)
  (ag (am (cm (ab (cM (Q0 (K:=K) T) hr (aa 0) (ab (aD (Qh (K:=K) T) hr (ab (aa 1) ad)) ad)) (ab (aa 2) ad)))))),?_⟩
 refine⟨.int n,rfl,.int n,?_⟩;refine ao (λe=>aab ((ig n).mpr hs) (by simpa using e)) (λ_=>?_);obtain⟨dx,j⟩:=id po;refine⟨o,dx,_,rfl,j,rfl,?_⟩;refine⟨n,rfl,hs,λi m a=>?_⟩;refine⟨o,i,h,c6 n,rfl,po.mono a.sm,a.lst,by have:=By n;lia,λu d=>Bz hs d,λf p c=>?_⟩;exact⟨sz rfl,λl g b=>k l f g (c.after a.sm).nw (a.sm.trans (c.sm.trans b.sm)) (b.sm _ _ c.at_) b.at_⟩
def EW (T:Txt w K mg t):dR P w K mg base t.bR "spell" 4 t.o7 t.mR ["self", "sign", "page"] [] (nj t) :=
 ⟨T.gd,T.DR,⟨_,T.VF,.nil⟩,DD T⟩
def Qk (T:Txt w K mg t):bz P w K mg base "length_of" 1 t.Ap t.wD ["sign"] (λvs H Q _=>∃n,vs=[.int n]/\Q (.int (fZ n)) H):=by
 refine⟨T.R6,T.G2.kp,T.UL,T.G2.okQ Ky (λvs H Q E h=>by obtain⟨n,rfl,_⟩:=h;rfl) λ_ _ _ _ H vs Q E hr h=>?_⟩;obtain⟨n,rfl,k⟩:=h;refine⟨_,(af (aL (aQ dH (aa 0) aj (aS _)) (ag (am aj)) aN)
  (af (aL (aQ dH (aa 0) aj (aS _)) (ag (am aj)) aN)
  (af (aL (aQ dH (aa 0) aj (aS _)) (ag (am aj)) aN)
  (ag (am aj))))),?_⟩
 unfold fZ at k;refine ao (λe=>?_) (λe=>?_)
 ·rw[aaa (aac e)]at k;exact k
 rw[on (λz=>e (aad z))]at k;refine ao (λe=>?_) (λe=>?_)
 ·rw[aaa (aac e)]at k;exact k
 rw[on (λz=>e (aad z))]at k;refine ao (λe=>?_) (λe=>?_)
 ·rw[aaa (aac e)]at k;exact k
 rw[on (λz=>e (aad z))]at k;exact k
def Jw:Sp:=λvs H Q _=>∃n,vs=[.int n]/\Sg n/\∀p H',bc H p (.lst ((row n).map V.int)) H'->Q (.ref p) H'
def Qm (T:Txt w K mg t):bz P w K mg base "lead_row" 3 t.Ar t.wF ["sign"] Jw:=by
 refine⟨T.R8,T.G4.kp,T.UN,T.G4.okQ uC (λvs H Q E h=>by obtain⟨n,rfl,_⟩:=h;rfl) λ_ _ _ _ H vs Q E hr h=>?_⟩;obtain⟨n,rfl,hs,k⟩:=h;have F:=hr.units;refine⟨_,(af (aP (i:=1) uC.nd rfl (.inl rfl) (aD (Qk (K:=K) T) hr (ab (aa 0) ad)))
  (af (aL (aQ (cf (K:=K) rfl F) (aa 1) aj (aS _)) (ag (am (aR (ab (aa 0) ad)))) aN)
  (af (aP (i:=2) uC.nd rfl (.inl rfl) (aD (oa (K:=K) T) hr (ab (aa 0) (ab (bE T.FW) (ab (aa 1) ad)))))
  (ag (am (az (Ya K) (aR (ab (az (Ya K) (aE (Yc K) (fG (v:=.ref t.o9) rfl T.FR rfl) (aa 1) (λ_ _=>rfl)) (aE (Yc K) (aa 2) aj (λ_ _=>rfl))) ad)) (iL rfl (cZ.of (fns:=(ae jj).names) (N:=["sign", "length", "parts"]) (Nc:=["part"]) (nv:=1) (caps:=[]) rfl rfl (by decide +kernel)) (c8 (K:=K) rfl (cD (Yd K) (aa 2) (bU aj) dU)) (λ_ _ _ _=>(bi (i:=0) (show List.Nodup (["part"]:List Str) by decide +kernel) rfl (Or.inl rfl) (Or.inr rfl))) (λ_ _ _ _=>fD) (λ_ _ _ _=>(az (Ya K) (bE T.sR) (aa 0)))))))))),?_⟩
 refine⟨n,rfl,?_⟩;by_cases c:n<128
 ·have J:fZ n=1:=by unfold fZ;rw[aaa c]
  have C:row n=[n]:=by unfold row;rw[aaa c]
  refine ao (λ_=>?_) (λe=>aab (aad J) e);rw[C]at k;exact⟨sz rfl,λp x g=>k p x g⟩
 obtain⟨L,v,B,bL,eL,U,l4,r,f,G,z⟩:=Ph hs (by lia);refine ao (λe=>aab (aac e) (by rw[eL];lia)) (λ_=>?_);refine⟨n,6,L,by rw[eL];rfl,hs.1,z,by decide,by lia,λp1 H1 d=>?_⟩;rw[r]at d;have q:cv (([0,0,192,224,240]:f6).map V.int) (fZ n)=some (.int v):=by
  rw[eL];exact ba (by rw[Yt,f];rfl)
 refine⟨_,.int v,.inr (T.Dj _),q,?_⟩;refine⟨_,.int B,.inl d.lst,ba (j:=0) rfl,?_⟩;refine⟨sz rfl,λO S m=>?_⟩;refine⟨_,rfl,_,m.sm.seq d.lst,λp3 H3 a=>?_⟩;rw[FH]at a;have I:bL.length<=1000:=by
  have:=ij 6 L n;rw[r]at this;simp at this;lia
 refine⟨_,rfl,⟨_,a.lst⟩,?_⟩;refine oW ((bL.map λb=>128+b).map V.int) (by simp) a.lst (bM (by simp;lia)) (λi y v D N s f Y hN=>?_) λW D l=>?_
 ·rw[Yt]at s;obtain⟨y,o,rfl⟩:=Zk.mp s;rw[Yt,Yt,o]at f;cases f;exact hN _ (ah.refl _)
 refine⟨_,_,(a.sm.trans l.sm).seq m.lst,l.lst,bM (by simp;lia),λR M u=>?_⟩;rw[G]at k;exact k _ _ (u.after (((d.sm.trans m.sm).trans a.sm).trans l.sm))
def pU:Sp:=λvs H Q _=>∃(o:Addr) (n:Int),vs=[.ref o,.int n,.int 0]/\Sg n/\∀p q H',H q=none->ah H H'->H' q=some (.lst ((row n).map V.int))->H' p=some (.tup [.ref q,.int 0])->Q (.ref p) H'
def Ny (T:Txt w K mg t):bH P w K mg base bO 4 t.tO t.oN ["self", "sign", "page"] pU:=by
 refine T.W8.okQ Ln (λvs H Q E h=>by obtain⟨o,n,rfl,_⟩:=h;rfl) λ_ _ _ _ H vs Q E hr h=>?_;obtain⟨o,n,rfl,hs,k⟩:=h;have i:=hr.units;refine⟨_,(af (aL (eS (dD (aD (jx (K:=K) T) hr (ab (aa 1) ad)))) (ag eU) aN)
  (ag (am (cm (ab (aD (Qm (K:=K) T) hr (ab (aa 1) ad)) (ab (aa 2) ad)))))),?_⟩
 refine⟨.int n,rfl,.int n,?_⟩;refine ao (λe=>aab ((ig n).mpr hs) (by simpa using e)) (λ_=>?_);refine⟨n,rfl,hs,λf g a=>?_⟩;exact⟨sz rfl,λc d b=>k c f d a.nw (a.sm.trans b.sm) (b.sm _ _ a.at_) b.at_⟩
def EY (T:Txt w K mg t):dR P w K mg base t.dO "spell" 4 t.tO t.oN ["self", "sign", "page"] [] pU :=
 ⟨T.oX,T.Oy,⟨_,T.VS,.nil⟩,Ny T⟩
end
end My
namespace My
open PySem L2
def bX:f6->Int->Option Nat
 | [],_=>none
 | m::ms,n=>if m=n then some 0 else (bX ms n).map (· + 1)
def gx{ns:f6}{n:Int}:bX ns n=none ↔ n∉ns:=by
 induction ns with
 | nil=>simp[bX]
 | cons m ms ih =>
  unfold bX;by_cases e:m=n
  ·simp[e]
  ·rw[on e];have e':¬n=m:=λz=>e z.symm;simp[ih,e']
theorem mN:∀ {ns:f6} {n:Int} {i:Nat},bX ns n=some i->ns[i]? = some n/\∀j,j<i->ns[j]? ≠ some n
 | [],n,i,h=>by cases h
 | m::ms,n,i,h=>by
  unfold bX at h;by_cases e:m=n
  ·rw[aaa e]at h;cases h;exact⟨by simp[e],λj c=>aab c (by lia)⟩
  ·rw[on e]at h;obtain⟨k,d,rfl⟩:=Zk.mp h;obtain⟨a,b⟩:=mN d;refine⟨by simpa using a,λj c=>?_⟩;cases j with
   | zero=>simpa using e
   | succ j=>simpa using b j (by lia)
theorem PK(ns:f6)(n m:Int):bX (ns++[n]) m=match bX ns m with
 | some i=>some i
 | none=>if n=m then some ns.length else none:=by
 induction ns with
 | nil=>simp[bX]
 | cons a as ih =>
  rw[List.cons_append,bX,bX];by_cases e:a=m
  ·rw[aaa e,aaa e]
  ·rw[on e,on e,ih];cases bX as m with
   | some i=>rfl
   | none =>
    dsimp only [Option.map];by_cases e2:n=m
    ·rw[aaa e2,aaa e2];simp
    ·rw[on e2,on e2]
def nZ{ns:f6}{n:Int}(h:n∈ns):∃i,bX ns n=some i/\i<ns.length:=by
 cases e:bX ns n with
 | none=>exact aab h (gx.mp e)
 | some i=>exact⟨i,rfl,(Yr.mp (mN e).1).1⟩
def av{α:Type}(g:Int)(x y:α):α:=if g=0 then x else y
def cY(g:Int):Prop:=g=0\/g=1
def mW{g:Int}{x y:V}(h:cY g):cv [x,y] g=some (av g x y):=by
 rcases h with rfl|rfl<;>rfl
def cY.flip{g:Int}(h:cY g):cY (1-g):=by
 rcases h with rfl|rfl
 ·exact .inr rfl
 ·exact .inl rfl
def Cw{α:Type}{g:Int}{x y:α}(h:cY g):av (1-g) x y=av g y x:=by
 rcases h with rfl|rfl<;>rfl
def jQ{α β:Type}(f:α->β)(g:Int)(x y:α):av g (f x) (f y)=f (av g x y):=by
 unfold av;split<;>rfl
def o6(O P:f6)(b:Nat):Bool:=!decide (O.getD b 0∈P)
def gD(O P:f6):List Nat:=(List.range O.length).filter (o6 O P)
def DX{O P:f6}{b:Nat}:b∈gD O P ↔ ∃n,O[b]? = some n/\n∉P:=by
 unfold gD o6;rw[List.mem_filter,YE]
 constructor
 ·rintro⟨h,k⟩;refine⟨O[b],YM h,?_⟩;rw[YZ,YM h]at k;simpa using k
 ·rintro⟨n,h,k⟩;refine⟨(Yr.mp h).1,?_⟩;rw[YZ,h];simpa using k
theorem Ev{f:Nat->Bool}{i:Nat}(h:∀j,j<i->f j=false)(k:f i=true):∀ {n:Nat},i<n->((List.range n).filter f).head? = some i
 | 0,z=>aab z (by lia)
 | n+1,z=>by
  rw[Zc,List.filter_append,List.head?_append];by_cases c:i<n
  ·rw[Ev h k c];rfl
  ·obtain rfl:i=n:=by lia
   have e:(List.range i).filter f=[]:=by
    rw[a2o];intro j a;rw[h j (YE.mp a)]
    decide
   rw[e];simp[k]
def SH{f:Nat->Bool}{n:Nat}(h:∀j,j<n->f j=false):(List.range n).filter f=[]:=by
 rw[a2o];intro j a;rw[h j (YE.mp a)]
 decide
def cX(O P:f6)(g:Int):f6:=match (gD O P).head? with
 | some b=>[254+(1-g),(b:Int)]
 | none=>[]
def dj(ns:f6):Prop:=(∀n∈ns,Sg n)/\ns.Nodup/\ns.length<=250
def uv{g:Int}{ns a:f6}(h:dj ns)(k:dj a):dj (av g ns a):=by
 unfold av;split
 ·exact h
 ·exact k
structure Fp where
 dx:Addr
 pp:Addr
 pl:Addr
 ps:Addr
 d0:Addr
 d1:Addr
 l0:Addr
 l1:Addr
 s0:Addr
 s1:Addr
def ia(H:Hp)(d:Addr)(ns:f6):Prop:=∃kv,H d=some (.dK kv)/\∀n:Int,bA kv (.inl n)=(bX ns n).map λi=>V.int (i:Int)
structure Tg (t:Adr) (H:Hp) (a:Addr) (f:Fp) (ns ms:f6):Prop where
 o:H a=some (.ins t.bV f.dx [("places",.ref f.pp),("lists",.ref f.pl),("shifted",.ref f.ps)])
 p:H f.pp=some (.lst [.ref f.d0,.ref f.d1])
 l:H f.pl=some (.lst [.ref f.l0,.ref f.l1])
 s:H f.ps=some (.lst [.ref f.s0,.ref f.s1])
 d0:ia H f.d0 ns
 d1:ia H f.d1 ms
 l0:H f.l0=some (.lst (ns.map V.int))
 l1:H f.l1=some (.lst (ms.map V.int))
 s0:H f.s0=some (.lst ((cX ms ns 0).map V.int))
 s1:H f.s1=some (.lst ((cX ns ms 1).map V.int))
 k0:dj ns
 k1:dj ms
section
variable {t:Adr}{H H':Hp}{a:Addr}{f:Fp}{ns ms:f6}{g:Int}
def Tg.keep(h:Tg t H a f ns ms)(k:∀c u,c∈[a,f.pp,f.pl,f.ps,f.d0,f.d1,f.l0,f.l1,f.s0,f.s1]->H c=some u->H' c=some u):Tg t H' a f ns ms:=by
 obtain⟨o,p,l,s,⟨g,d0,e⟩,⟨d,d1,b⟩,l0,l1,s0,s1,k0,k1⟩:=h;exact⟨k _ _ (by simp) o,k _ _ (by simp) p,k _ _ (by simp) l,k _ _ (by simp) s,⟨g,k _ _ (by simp) d0,e⟩,⟨d,k _ _ (by simp) d1,b⟩,k _ _ (by simp) l0,k _ _ (by simp) l1,k _ _ (by simp) s0,k _ _ (by simp) s1,k0,k1⟩
def Tg.mono(h:Tg t H a f ns ms)(k:ah H H'):Tg t H' a f ns ms:=h.keep λc u _ e=>k c u e
def Tg.dk(h:Tg t H a f ns ms)(tg:cY g):ia H (av g f.d0 f.d1) (av g ns ms):=by
 rcases tg with rfl|rfl
 ·exact h.d0
 ·exact h.d1
def Tg.ll(h:Tg t H a f ns ms)(tg:cY g):H (av g f.l0 f.l1)=some (.lst ((av g ns ms).map V.int)):=by
 rcases tg with rfl|rfl
 ·exact h.l0
 ·exact h.l1
def Tg.ss(h:Tg t H a f ns ms)(tg:cY g):H (av g f.s0 f.s1)=some (.lst ((cX (av g ms ns) (av g ns ms) g).map V.int)):=by
 rcases tg with rfl|rfl
 ·exact h.s0
 ·exact h.s1
def JC(K:PySem.W.Frag):Sp:=λvs H Q _=>∃(a:Addr) (ns:f6) (b:Int),vs=[.ref a,.int b]/\aG K H a (ns.map V.int)/\dj ns/\∀p H',ah H H'->H p=none->ia H' p ns->Q (.ref p) H'
def EA (T:Txt w K mg t):bz P w K mg base "places_in" 4 t.Ah t.ww ["signs", "which"] (JC K):=by
 refine⟨T.RV,T.GU.kp,T.UE,T.GU.okQ pZ (λvs H Q E h=>by obtain⟨a,xs,J,rfl,_⟩:=h;rfl) λ_ _ _ _ H vs Q E hr h=>?_⟩;obtain⟨a,ns,J,rfl,B,⟨sg,nd,ln⟩,N⟩:=h;have I:=hr.units;refine⟨_,(af (aL (aQ iU (bu (Yb K) T.n_len Yq (ab (aa 0) ad)) (bE T.TU) (aS _)) (ag eU) aN)
  (af (aP (i:=2) pZ.nd rfl (.inl rfl) De)
  (af (cq PassesOwn.never rfl (gP (K:=K) rfl rfl T.n_enumerate (ab (aa 0) ad)) (fF (K:=K) rfl rfl (cC (bi (i:=3) pZ.nd rfl (.inl rfl)) (cC (bi (i:=4) pZ.nd rfl (.inl rfl)) fE))) (af (aL (dG (fV (eS (dD (aD (jx (K:=K) T) hr (ab (aa 4) ad)))) (fU (aQ (qN I) (aa 4) (aa 2) (by with_unfolding_all rfl))))) (ag eU) aN)
  (ag (qh I (aa 2) (aa 4) (aa 3)))))
  (ag (am (aa 2)))))),?_⟩
 refine⟨_,.inl B,?_⟩;refine ao (λz=>?_) (λ_=>?_)
 ·have z:((ns.map V.int).length:Int) > 250:=aac z;rw[Yl]at z;lia
 refine λd Y c=>?_;refine⟨a,_,rfl,c.sm.seq B,hG (K:=K) (a:=a) (xs:=ns.map V.int) (λi σ r=>ah H r/\∃(b:List (aU × V)) (u s:Option V),r d=some (.dK b)/\b.length<=i/\(∀n:Int,bA b (.inl n)=(bX (ns.take i) n).map λi=>V.int (i:Int))/\σ=[some (.ref a),some (.int J),some (.ref d),u,s]) ⟨c.sm,[],_,_,c.at_,by simp,(λn=>by simp[bA,bX]),rfl⟩ (λi σ r _ z=>z.1.seq B) ?_ ?_⟩
 ·rintro i x p σ G H3 hx ⟨o,b,u,s,v,lk,e,rfl⟩ C;obtain⟨n,l,rfl⟩:=dz hx;have hi:=(Yr.mp l).1;refine⟨p,_,rfl,C.tup,rfl,_,_,rfl,_,_,rfl,rfl,?_⟩;have M:=o.trans C.sm;have d3:=C.sm _ _ v;have D:dv (.int n)=true:=(ig n).mpr (sg n (YD l));refine⟨_,rfl,.int n,?_⟩;refine ao (λy=>?_) (λ_=>?_)
  ·have y:(!dv (.int n))=true:=y;rw[D]at y;cases y
  have g:n∉ns.take i:=λz=>by
   obtain⟨j,F⟩:=a2m z;have f:j<i:=by
    have:=(Yr.mp F).1;rw[Yp]at this;lia
   rw[Zt f]at F;obtain⟨S,W⟩:=Yr.mp F;obtain⟨R,O⟩:=Yr.mp l;exact aab (W.trans O.symm) (Z5.mp nd j i S R f)
  have L:bA b (.inl n)=none:=by rw[e,gx.mpr g];rfl
  refine⟨d,_,rfl,cK.k (k:=.inl n) d3,?_⟩;refine ao (λy=>?_) (λ_=>?_)
  ·have y:(bA b (.inl n)).isSome=true:=y;rw[L]at y;cases y
  refine⟨d,_,rfl,ic.k (k:=.inl n) d3 (fA (by lia)),?_⟩;refine⟨M.put c.nw,_,_,_,aJ,?_,λm=>?_,rfl⟩
  ·rw[L6 _ L,Yo];simp;lia
  ·rw[ie,de l,PK,Yp,Zz (by lia)];by_cases q:m=n
   ·subst q;rw[aaa rfl,gx.mpr g];simp
   ·rw[on (λz=>q (Sum.inl.inj z)),e];have U:¬n=m:=λz=>q z.symm;cases bX (ns.take i) m with
    | some j=>rfl
    | none=>simp[U]
 ·rintro σ G ⟨o,b,u,s,v,lk,e,rfl⟩;rw[Yl,Yy]at e;exact N d G o c.nw ⟨b,v,e⟩
structure pH (t:Adr) (H:Hp) (a dx pp pl d0 d1 l0 l1:Addr) (ns ms:f6):Prop where
 o:H a=some (.ins t.bV dx [("places",.ref pp),("lists",.ref pl)])
 p:H pp=some (.lst [.ref d0,.ref d1])
 l:H pl=some (.lst [.ref l0,.ref l1])
 d0:ia H d0 ns
 d1:ia H d1 ms
 l0:H l0=some (.lst (ns.map V.int))
 l1:H l1=some (.lst (ms.map V.int))
def ia.mono{H c:Hp}{d:Addr}{ns:f6}(h:ia H d ns)(s:ah H c):ia c d ns:=by
 obtain⟨e,a,b⟩:=h;exact⟨e,s _ _ a,b⟩
def pH.mono{H c:Hp}{a dx pp pl d0 d1 l0 l1:Addr}{ns b:f6}(h:pH t H a dx pp pl d0 d1 l0 l1 ns b)(s:ah H c):pH t c a dx pp pl d0 d1 l0 l1 ns b :=
 ⟨s _ _ h.o,s _ _ h.p,s _ _ h.l,h.d0.mono s,h.d1.mono s,s _ _ h.l0,s _ _ h.l1⟩
def Jz(t:Adr):Sp:=λvs H Q _=>∃(a dx pp pl d0 d1 l0 l1:Addr) (ns b:f6) (g:Int),vs=[.ref a,.int g]/\cY g/\pH t H a dx pp pl d0 d1 l0 l1 ns b/\∀p H',ah H H'->H p=none->H' p=some (.lst ((cX (av g b ns) (av g ns b) g).map V.int))->Q (.ref p) H'
def EQ (T:Txt w K mg t):cc P w K mg base t.bV "row_beyond" 1 t.AY t.xj ["self", "page"] (Jz t):=by
 refine⟨T.cV,T.N9,T.Vo,T.WE.okQ uI (λvs H Q E h=>by obtain⟨a,dx,pp,pl,d0,d1,l0,l1,ns,m,g,rfl,_⟩:=h;rfl) λ_ _ _ _ H vs Q E hr h=>?_⟩;obtain⟨a,dx,pp,pl,d0,d1,l0,l1,ns,m,g,rfl,tg,b,k⟩:=h;have N:=hr.units;refine⟨_,(af (cq PassesOwn.never rfl (gP (K:=K) rfl rfl T.n_enumerate (ab (aE (Yc K) (aX (K:=K) rfl (aa 0)) (az cA aj (aa 1)) (λ_ _=>rfl)) ad)) (fF (K:=K) rfl rfl (cC (bi (i:=2) uI.nd rfl (.inl rfl)) (cC (bi (i:=3) uI.nd rfl (.inl rfl)) fE))) (ag (aL (aQ (E5 N) (aa 3) (aE (Yc K) (aX (K:=K) rfl (aa 0)) (aa 1) (λ_ _=>rfl)) (by with_unfolding_all rfl)) (ag (am (aR (ab (aE (Yc K) (fG (v:=.ref t.mX) rfl T.zB rfl) (az cA aj (aa 1)) (λ_ _=>rfl)) (ab (aa 2) ad))))) aN)))
  (ag (am (aR ad)))),?_⟩
 have ln:H (av (1-g) l0 l1)=some (.lst ((av g m ns).map V.int)):=by
  rcases tg with rfl|rfl
  ·exact b.l1
  ·exact b.l0
 have S:ia H (av g d0 d1) (av g ns m):=by
  rcases tg with rfl|rfl
  ·exact b.d0
  ·exact b.d1
 obtain⟨u,D,C⟩:=S;have sh:cv (([254,255]:f6).map V.int) (1-g)=some (.int (254+(1-g))):=by
  rcases tg with rfl|rfl<;>rfl
 generalize hO:av g m ns=O at *;generalize hP:av g ns m=P' at *;refine⟨a,_,dx,_,_,rfl,b.o,T.cV,T.qy,rfl,?_⟩;refine⟨_,.ref (av (1-g) l0 l1),.inl (.of b.l),by rw[mW tg.flip];exact congrArg some (jQ V.ref _ _ _),?_⟩;refine⟨av (1-g) l0 l1,_,rfl,.of ln,hG (K:=K) (a:=av (1-g) l0 l1) (xs:=O.map V.int) (λi σ F=>ah H F/\(∀j,j<i->o6 O P' j=false)/\∃s B,σ=[some (.ref a),some (.int g),s,B]) ⟨ah.refl _,(λj h=>aab h (by lia)),_,_,rfl⟩ (λi σ F _ z=>z.1.seq (.of ln)) ?_ ?_⟩
 ·rintro i x p σ L Y hx ⟨r,n,s,B,rfl⟩ I;obtain⟨q,J,rfl⟩:=dz hx;have U:=(Yr.mp J).1;refine⟨p,_,rfl,I.tup,rfl,_,_,rfl,_,_,rfl,rfl,?_⟩;have f:=r.trans I.sm;refine⟨a,_,dx,_,_,rfl,f _ _ b.o,T.cV,T.jr,rfl,?_⟩;refine⟨_,.ref (av g d0 d1),.inl (.of (f _ _ b.p)),by rw[mW tg];exact congrArg some (jQ V.ref _ _ _),?_⟩;refine⟨av g d0 d1,_,rfl,cK.k (k:=.inl q) (f _ _ D),?_⟩;have eq:(bA u (.inl q)).isSome=decide (q∈P'):=by
   rw[C];cases e:bX P' q with
   | none=>have:=gx.mp e;simp[this]
   | some j =>
    have:q∈P':=Decidable.byContradiction λz=>by rw[gx.mpr z]at e;cases e
    simp[this]
  have G:o6 O P' i = !decide (q∈P'):=by
   unfold o6;rw[YZ,J];rfl
  refine ao (λy=>?_) (λy=>?_)
  ·have y:(!(bA u (.inl q)).isSome)=true:=y;rw[eq,<- G]at y;refine⟨_,.int (254+(1-g)),.inr (T.uT _),sh,?_⟩;refine⟨sz rfl,λM R d=>?_⟩;refine k _ _ (f.trans d.sm) (f.free d.nw) ?_;have e:cX O P' g=[254+(1-g),(i:Int)]:=by
    unfold cX gD;rw[Ev n y U]
   rw[e];exact d.at_
  ·have y:¬(!(bA u (.inl q)).isSome)=true:=y;rw[eq,<- G]at y;refine⟨f,λj W=>?_,_,_,rfl⟩;by_cases c:j<i
   ·exact n j c
   ·obtain rfl:j=i:=by lia
    simpa using y
 ·rintro σ L ⟨r,n,s,B,rfl⟩;rw[Yl]at n;refine⟨sz rfl,λM R d=>k _ _ (r.trans d.sm) (r.free d.nw) ?_⟩;have e:cX O P' g=[]:=by
   unfold cX gD;rw[SH n]
   rfl
  rw[e];exact d.at_
def Kp.seq{a f:Addr}{H b:Hp}{xs:List V}(k:Kp a H b)(n:f≠a)(h:aG K H f xs):aG K b f xs:=by
 rcases h with h|h
 ·rcases h with h|⟨o,h⟩
  ·exact .inl (.inl (k _ _ n h))
  ·exact .inl (.inr ⟨o,k _ _ n h⟩)
 ·exact .inr h
def spInit(K:PySem.W.Frag)(t:Adr):Sp:=λvs H Q _=>∃(a dx f g:Addr) (ns b:f6),vs=[.ref a,.ref f,.ref g]/\H a=some (.ins t.bV dx [])/\aG K H f (ns.map V.int)/\aG K H g (b.map V.int)/\dj ns/\dj b/\f≠a/\g≠a /\
 ∀fp H',Kp a H H'->Tg t H' a fp ns b->(∀c∈[fp.pp,fp.pl,fp.ps,fp.d0,fp.d1,fp.l0,fp.l1,fp.s0,fp.s1],c≠a/\H c=none)->Q .non H'
def ok_init (T:Txt w K mg t):bH P w K mg base bO 5 t.tj t.rf ["self", "first", "second"] (spInit K t):=by
 refine T.WF.okQ K2 (λvs H Q E h=>by obtain⟨a,dx,f,g,ns,ms,rfl,_⟩:=h;rfl) λ_ _ _ _ H vs Q E hr h=>?_;obtain⟨a,dx,f,g,ns,ms,rfl,ha,hf,hg,S,W,nf,ng,kq⟩:=h;have hu:=hr.units;refine⟨_,(af (bQ (K:=K) rfl (aa 0) (aR (ab (aD (EA (K:=K) T) hr (ab (aa 1) (ab aj ad))) (ab (aD (EA (K:=K) T) hr (ab (aa 2) (ab aj ad))) ad))))
  (af (bQ (K:=K) rfl (aa 0) (aR (ab (eV (Ye K) T.n_list Y4 (ab (aa 1) ad)) (ab (eV (Ye K) T.n_list Y4 (ab (aa 2) ad)) ad))))
  (ag (bQ (K:=K) rfl (aa 0) (aR (ab (cM (EQ (K:=K) T) hr (aa 0) (ab aj ad)) (ab (cM (EQ (K:=K) T) hr (aa 0) (ab aj ad)) ad))))))),?_⟩
 refine⟨f,ns,0,rfl,hf,S,λd0 H1 s1 U ap=>?_⟩;refine⟨g,ms,1,rfl,s1.seq hg,W,λd1 H2 s2 Y al=>?_⟩;refine⟨sz rfl,λpp H3 O=>?_⟩;have s3:=s1.trans (s2.trans O.sm);refine⟨a,_,dx,_,rfl,s3 _ _ ha,T.cV,T.jr,Yn Zr (by decide),?_⟩;obtain⟨H4,e4⟩:∃H4,H4=upd H3 a (HO.ins t.bV dx (bZ "places" (.ref pp) [])):=⟨_,rfl⟩;have a4:H4 a=some (.ins t.bV dx [("places",.ref pp)]):=by rw[e4,aJ];rfl
 have k4:Kp a H3 H4:=by rw[e4];exact Kp.upd
 rw[<- e4];clear e4;have b:Kp a H H4:=(Kp.of s3).trans k4;refine⟨_,.inl (b.seq nf hf),λl0 H5 i=>?_⟩;refine⟨_,.inl ((b.trans (Kp.of i.sm)).seq ng hg),λl1 H6 z=>?_⟩;refine⟨sz rfl,λpl H7 M=>?_⟩;have a1:=i.sm.trans (z.sm.trans M.sm);refine⟨a,_,dx,_,rfl,a1 _ _ a4,T.cV,T.qy,Yn (Yu 1) (by decide),?_⟩;obtain⟨s,e8⟩:∃s,s=upd H7 a (HO.ins t.bV dx (bZ "lists" (.ref pl) [("places",.ref pp)])):=⟨_,rfl⟩;have J:s a=some (.ins t.bV dx [("places",.ref pp),("lists",.ref pl)]):=by rw[e8,aJ];rfl
 have k8:Kp a H7 s:=by rw[e8];exact Kp.upd
 rw[<- e8];clear e8;have F:d0≠a:=(aI ha U).symm;have C:d1≠a:=(aI (s1 _ _ ha) Y).symm;have D:pp≠a:=(aI (s2 _ _ (s1 _ _ ha)) O.nw).symm;have q:l0≠a:=(aI a4 i.nw).symm;have m:l1≠a:=(aI (i.sm _ _ a4) z.nw).symm;have r:pl≠a:=(aI (z.sm _ _ (i.sm _ _ a4)) M.nw).symm;have j:Kp a H3 s:=k4.trans ((Kp.of a1).trans k8);have o:Kp a H s:=(Kp.of s3).trans j;obtain⟨ak,q0,e0⟩:=ap;obtain⟨ar,q1,e1⟩:=al;have d:pH t s a dx pp pl d0 d1 l0 l1 ns ms:=⟨J,j _ _ D O.at_,k8 _ _ r M.at_,⟨ak,j _ _ F (O.sm _ _ (s2 _ _ q0)),e0⟩,⟨ar,j _ _ C (O.sm _ _ q1),e1⟩,k8 _ _ q (M.sm _ _ (z.sm _ _ i.at_)),k8 _ _ m (M.sm _ _ z.at_)⟩;refine⟨a,dx,_,rfl,J,rfl,?_⟩;refine⟨a,dx,pp,pl,d0,d1,l0,l1,ns,ms,0,rfl,.inl rfl,d,λz0 H9 G V an=>?_⟩;refine⟨a,dx,_,rfl,G _ _ J,rfl,?_⟩;refine⟨a,dx,pp,pl,d0,d1,l0,l1,ns,ms,1,rfl,.inr rfl,d.mono G,λz1 HA sA R aq=>?_⟩;refine⟨sz rfl,λps HB gB=>?_⟩;have L:=G.trans (sA.trans gB.sm);refine⟨a,_,dx,_,rfl,L _ _ J,T.cV,T.qx,Yn (Yu 2) (by decide),?_⟩;obtain⟨N,eC⟩:∃N,N=upd HB a (HO.ins t.bV dx (bZ "shifted" (.ref ps) [("places",.ref pp),("lists",.ref pl)])):=⟨_,rfl⟩;have aC:N a=some (.ins t.bV dx [("places",.ref pp),("lists",.ref pl),("shifted",.ref ps)]):=by rw[eC,aJ];rfl
 have kC:Kp a HB N:=by rw[eC];exact Kp.upd
 rw[<- eC];clear eC;have v:z0≠a:=(aI J V).symm;have B:z1≠a:=(aI (G _ _ J) R).symm;have I:ps≠a:=(aI (sA _ _ (G _ _ J)) gB.nw).symm;have am:Kp a s N:=(Kp.of L).trans kC;have hB:=d.mono L;have fr:∀ {c:Addr} {H':Hp},Kp a H H'->c≠a->H' c=none->H c=none:=λ{c H'} k n e=>by
  cases h:H c with
  | none=>rfl
  | some u=>rw[k c u n h]at e;cases e
 refine kq ⟨dx,pp,pl,ps,d0,d1,l0,l1,z0,z1⟩ N (o.trans am) ⟨aC,kC _ _ D hB.p,kC _ _ r hB.l,kC _ _ I gB.at_,?_,?_,kC _ _ q hB.l0,kC _ _ m hB.l1,kC _ _ v (gB.sm _ _ (sA _ _ an)),kC _ _ B (gB.sm _ _ aq),S,W⟩ ?_
 ·obtain⟨kv,x,y⟩:=hB.d0;exact⟨kv,kC _ _ F x,y⟩
 ·obtain⟨kv,x,y⟩:=hB.d1;exact⟨kv,kC _ _ C x,y⟩
 ·intro c hc;simp only [Yz,Y0,or_false]at hc;rcases hc with rfl|rfl|rfl|rfl|rfl|rfl|rfl|rfl|rfl
  ·exact⟨D,s1.free (s2.free O.nw)⟩
  ·exact⟨r,fr (b.trans (Kp.of (i.sm.trans z.sm))) r M.nw⟩
  ·exact⟨I,fr (o.trans (Kp.of (G.trans sA))) I gB.nw⟩
  ·exact⟨F,U⟩
  ·exact⟨C,s1.free Y⟩
  ·exact⟨q,fr b q i.nw⟩
  ·exact⟨m,fr (b.trans (Kp.of i.sm)) m z.nw⟩
  ·exact⟨v,fr o v V⟩
  ·exact⟨B,fr (o.trans (Kp.of G)) B R⟩
def PN (T:Txt w K mg t):gg P w K mg base "ShiftTongue" t.bV 5 t.tj t.rf ["self", "first", "second"] [] (spInit K t):=⟨T.Rl,T.OD,⟨[],T.Vp,.nil⟩,ok_init T⟩
def FY(O P:f6)(g:Int):cX O P g=[]\/∃b:Nat,(gD O P).head? = some b/\cX O P g=[254+(1-g),(b:Int)]:=by
 unfold cX;cases e:(gD O P).head? with
 | none=>exact .inl rfl
 | some b=>exact .inr ⟨b,rfl,rfl⟩
def T5(O P:f6)(g:Int):cX O P g=[] ↔ gD O P=[]:=by
 unfold cX;cases e:gD O P with
 | nil=>simp
 | cons b r=>simp
def fi(P O:f6)(g:Int)(x:V):Option (f6 × Int):=match x with
 | .int n=>match bX P n with
  | some i=>some ([(i:Int)],g)
  | none=>match bX O n with
   | some i=>some ([254+(1-g),(i:Int)],1-g)
   | none=>none
 | _=>none
def IZ{P O:f6}{g:Int}{x:V}(hP:dj P)(hO:dj O)(h:dv x=false):fi P O g x=none:=by
 cases x with
 | int n =>
  have a:¬Sg n:=λz=>by rw[(ig n).mpr z]at h;cases h
  unfold fi;dsimp only;rw[gx.mpr λz=>a (hP.1 n z)];dsimp only;rw[gx.mpr λz=>a (hO.1 n z)]
 | _=>rfl
def Kj{v:V}(h:dv v=true):∃n,v=.int n/\Sg n:=by
 cases v with
 | int n=>exact⟨n,rfl,(ig n).mp h⟩
 | _=>simp[dv,db]at h
def Nd:Option Int->V
 | some n=>.int n
 | none=>.non
def VW{L:f6}{b n:Int}(a:0<=b)(h:L[b.toNat]? = some n):cv (L.map V.int) b=some (.int n):=by
 obtain⟨k,rfl⟩:∃k:Nat,b=(k:Int):=⟨b.toNat,by omega⟩;exact ba (by rw[Yt];simp at h;rw[h];rfl)
def Js(t:Adr):Sp:=λvs H Q _=>∃(a:Addr) (f:Fp) (ns c:f6) (b g:Int),vs=[.ref a,.int b,.int g]/\cY g/\Tg t H a f ns c/\0<=b/\Q (Nd (av g ns c)[b.toNat]?) H
def EO (T:Txt w K mg t):cc P w K mg base t.bV "sign_of" 1 t.AX t.xi ["self", "byte", "page"] (Js t):=by
 refine⟨T.cV,T.N8,T.Vn,T.WD.okQ K1 (λvs H Q E h=>by obtain⟨a,f,ns,c,b,g,rfl,_⟩:=h;rfl) λ_ _ _ _ H vs Q E hr h=>?_⟩;obtain⟨a,f,ns,c,b,g,rfl,two,tg,i,k⟩:=h;refine⟨_,(ag (am (gw (aQ dH (aa 1) (bu (Yb K) T.n_len Yq (ab (aE (Yc K) (aX (K:=K) rfl (aa 0)) (aa 2) (λ_ _=>rfl)) ad)) (aS _)) (aE (Yc K) (aE (Yc K) (aX (K:=K) rfl (aa 0)) (aa 2) (λ_ _=>rfl)) (aa 1) (λ_ _=>rfl)) ce))),?_⟩;have e:cv [V.ref f.l0,V.ref f.l1] g=some (.ref (av g f.l0 f.l1)):=by rw[mW two];exact congrArg some (jQ V.ref _ _ _)
 have hl:=tg.ll two;refine⟨a,_,f.dx,_,_,rfl,tg.o,T.cV,T.qy,rfl,?_⟩;refine⟨_,_,.inl (.of tg.l),e,?_⟩;refine⟨_,.inl (.of hl),?_⟩;refine ao (λz=>?_) (λz=>?_)
 ·have z:b<(((av g ns c).map V.int).length:Int):=aac z;rw[Yl]at z;refine⟨a,_,f.dx,_,_,rfl,tg.o,T.cV,T.qy,rfl,?_⟩;refine⟨_,_,.inl (.of tg.l),e,?_⟩;obtain⟨n,d⟩:∃n,(av g ns c)[b.toNat]? = some n:=⟨_,YM (by omega)⟩;rw[d]at k;exact⟨_,.int n,.inl (.of hl),VW i d,k⟩
 ·have z:¬b<(((av g ns c).map V.int).length:Int):=λy=>z (aad y);rw[Yl]at z;rw[Zb (by omega)]at k;exact k
def Bi(g:Int)(row:f6):Prop:=(∃b,row=[b]/\0<=b)\/∃c,row=[254+(1-g),c]/\0<=c
def fO(P O:f6)(g:Int)(row:f6):Option (Int × Int):=match row with
 | [b]=>P[b.toNat]?.map λn=>(n,g)
 | [_,c]=>match O[c.toNat]? with
  | some n=>if n∈P then none else some (n,1-g)
  | none=>none
 | _=>none
def Ci(t:Adr):Sp:=λvs H Q _=>∃(a:Addr) (f:Fp) (ns b:f6) (q:Addr) (row:f6) (g:Int),vs=[.ref a,.ref q,.int g]/\cY g/\Tg t H a f ns b/\H q=some (.lst (row.map V.int))/\Bi g row /\
 (fO (av g ns b) (av g b ns) g row=none->Q .non H)/\(∀n g',fO (av g ns b) (av g b ns) g row=some (n,g')->∀p H',bc H p (.tup [.int n,.int g']) H'->Q (.ref p) H')
def Nv (T:Txt w K mg t):bH P w K mg base bO 2 t.sZ t.oC ["self", "row", "page"] (Ci t):=by
 refine T.WB.okQ uH (λvs H Q E h=>by obtain⟨o,f,ns,m,q,row,g,rfl,_⟩:=h;rfl) λ_ _ _ _ H vs Q E hr h=>?_;obtain⟨a,f,ns,m,q,row,g,rfl,two,tg,s,ok,d,l⟩:=h;have x:=hr.units;refine⟨_,(af (aL (aQ (cf (K:=K) rfl x) (bu (Yb K) T.n_len Yq (ab (aa 1) ad)) aj (aS _)) (af (aP (i:=3) uH.nd rfl (.inl rfl) (cM (EO (K:=K) T) hr (aa 0) (ab (aE (Yc K) (aa 1) aj (λ_ _=>rfl)) (ab (aa 2) ad))))
  (ag (am (gw (aQ hE (aa 3) ce (aS _)) ce (cm (ab (aa 3) (ab (aa 2) ad))))))) aN)
  (af (aL (dG (jq (aQ (cf (K:=K) rfl x) (bu (Yb K) T.n_len Yq (ab (aa 1) ad)) aj (aS _)) (mD (aQ (cf (K:=K) rfl x) (aE (Yc K) (aa 1) aj (λ_ _=>rfl)) (aE (Yc K) (fG (v:=.ref t.mX) rfl T.zB rfl) (az cA aj (aa 2)) (λ_ _=>rfl)) (aS _))))) (af (aP (i:=3) uH.nd rfl (.inl rfl) (cM (EO (K:=K) T) hr (aa 0) (ab (aE (Yc K) (aa 1) aj (λ_ _=>rfl)) (ab (az cA aj (aa 2)) ad))))
  (ag (am (gw (dG (fV (aQ hE (aa 3) ce (aS _)) (fU (aQ (qN x) (aa 3) (aE (Yc K) (aX (K:=K) rfl (aa 0)) (aa 2) (λ_ _=>rfl)) (by with_unfolding_all rfl))))) ce (cm (ab (aa 3) (ab (az cA aj (aa 2)) ad))))))) aN)
  (ag (am ce)))),?_⟩
 refine⟨_,.inl (.of s),?_⟩;rcases ok with ⟨b,rfl,b0⟩|⟨c,rfl,c0⟩
 ·refine⟨a,f.dx,_,rfl,tg.o,rfl,?_⟩;refine⟨_,_,.inl (.of s),ba (j:=0) rfl,?_⟩;refine⟨a,f,ns,m,b,g,rfl,two,tg,b0,?_⟩;unfold fO at d l;dsimp only at d l;cases e:(av g ns m)[b.toNat]? with
  | none=>exact d (by rw[e];rfl)
  | some n=>exact⟨sz rfl,λp y g'=>l n g (by rw[e];rfl) p y g'⟩
 ·have sh:cv (([254,255]:f6).map V.int) (1-g)=some (.int (254+(1-g))):=by
   rcases two with rfl|rfl<;>rfl
  refine⟨_,.inl (.of s),?_⟩;refine⟨_,_,.inl (.of s),ba (j:=0) rfl,?_⟩;refine⟨_,_,.inr (T.uT _),sh,?_⟩;refine ao (λ_=>?_) (λz=>aab (show decide (254+(1-g)=254+(1-g))=true by simp) z);refine⟨a,f.dx,_,rfl,tg.o,rfl,?_⟩;refine⟨_,_,.inl (.of s),ba (j:=1) rfl,?_⟩;refine⟨a,f,ns,m,c,1-g,rfl,two.flip,tg,c0,?_⟩;rw[Cw two];unfold fO at d l;dsimp only at d l;cases e:(av g m ns)[c.toNat]? with
  | none =>
   rw[e]at d;exact d rfl
  | some n =>
   rw[e]at d l;dsimp only at d l;obtain⟨u,C,r⟩:=tg.dk two;refine⟨a,_,f.dx,_,_,rfl,tg.o,T.cV,T.jr,rfl,?_⟩;refine⟨_,.ref (av g f.d0 f.d1),.inl (.of tg.p),by rw[mW two];exact congrArg some (jQ V.ref _ _ _),?_⟩;refine⟨_,_,rfl,cK.k (k:=.inl n) C,?_⟩;by_cases hn:n∈av g ns m
   ·rw[aaa hn]at d;obtain⟨i,D,_⟩:=nZ hn;have B:bA u (.inl n)=some (.int (i:Int)):=by rw[r,D];rfl
    refine ao (λ_=>?_) (λz=>aab (show (bA u (.inl n)).isSome=true by rw[B];rfl) z);exact d rfl
   ·rw[on hn]at l;have B:bA u (.inl n)=none:=by rw[r,gx.mpr hn];rfl
    refine ao (λz=>aab (show (bA u (.inl n)).isSome=true from z) (by rw[B];decide)) (λ_=>?_);exact⟨sz rfl,λp y g'=>l n (1-g) rfl p y g'⟩
def EM (T:Txt w K mg t):dR P w K mg base t.bV "whole" 2 t.sZ t.oC ["self", "row", "page"] [] (Ci t) :=
 ⟨T.cV,T.N6,⟨_,T.Vl,.nil⟩,Nv T⟩
def cP(one other:f6):Bool:=decide (other.take one.length=one)
def Kb(K:PySem.W.Frag):Sp:=λvs H Q _=>∃(a b:Addr) (x y:f6),vs=[.ref a,.ref b]/\aG K H a (x.map V.int)/\aG K H b (y.map V.int)/\∀H',ah H H'->Q (.bl (cP x y)) H'
def xT(ns:f6)(k:Nat):cn (ns.map V.int) none (some (k:Int))=(ns.take k).map V.int:=by rw[dL,oS]
def qK (T:Txt w K mg t):bz P w K mg base "begins" 1 t.AL t.wY ["one", "other"] (Kb K):=by
 refine⟨T.Sy,T.Hq.kp,T.U7,T.Hq.okQ KN (λvs H Q E h=>by obtain⟨a,b,x,y,rfl,_⟩:=h;rfl) λ_ _ _ _ H vs Q E hr h=>?_⟩;obtain⟨a,b,x,y,rfl,d,hb,k⟩:=h;have f:=hr.units;refine⟨_,(ag (am (iM (cf (K:=K) rfl f) (cD (Yd K) (aa 1) dU (bU (bu (Yb K) T.n_len Yq (ab (aa 0) ad)))) (aa 0) (aS _)))),?_⟩;refine⟨_,.inl d,_,rfl,_,hb,λg e c=>?_⟩;rw[Yl,xT]at c;exact SN c.lst (c.sm.seq d) (k e c.sm)
def iV(P O:f6)(g:Int)(row:f6):Bool:=(fO P O g row).isSome || (!(cX O P g).isEmpty && cP row (cX O P g))
def Cp(t:Adr):Sp:=λvs H Q _=>∃(a:Addr) (f:Fp) (ns b:f6) (q:Addr) (row:f6) (g:Int),vs=[.ref a,.ref q,.int g]/\cY g/\Tg t H a f ns b/\H q=some (.lst (row.map V.int))/\Bi g row /\
 (iV (av g ns b) (av g b ns) g row=false->∀H',ah H H'->Q .non H')/\(iV (av g ns b) (av g b ns) g row=true->∀p (c:f6) H',ah H H'->H' p=some (.lst (c.map V.int))->(fO (av g ns b) (av g b ns) g row=none->c=(cX (av g b ns) (av g ns b) g).drop row.length)->Q (.ref p) H')
def NH (T:Txt w K mg t):bH P w K mg base bO 3 t.tm t.oF ["self", "row", "page"] (Cp t):=by
 refine T.WG.okQ K3 (λvs H Q E h=>by obtain⟨o,f,ns,d,q,row,g,rfl,_⟩:=h;rfl) λ_ _ _ _ H vs Q E hr h=>?_;obtain⟨a,f,ns,d,q,row,g,rfl,two,tg,m,ok,i,j⟩:=h;have D:=hr.units;refine⟨_,(af (aL (aQ vF (cL (EM (K:=K) T) hr (aa 0) (ab (aa 1) (ab (aa 2) ad))) ce (aS _)) (ag (am (aR ad))) aN)
  (af (aL (dG (jq (eS (dE (K:=K) rfl (aa 1))) (mD (dE (K:=K) rfl (aE (Yc K) (aX (K:=K) rfl (aa 0)) (aa 2) (λ_ _=>rfl)))))) (ag (am (aR (ab aj ad)))) aN)
  (af (aL (dG (jq (dE (K:=K) rfl (aE (Yc K) (aX (K:=K) rfl (aa 0)) (aa 2) (λ_ _=>rfl))) (mD (dD (aD (qK (K:=K) T) hr (ab (aa 1) (ab (aE (Yc K) (aX (K:=K) rfl (aa 0)) (aa 2) (λ_ _=>rfl)) ad))))))) (ag (am (cD (Yd K) (aE (Yc K) (aX (K:=K) rfl (aa 0)) (aa 2) (λ_ _=>rfl)) (bU (bu (Yb K) T.n_len Yq (ab (aa 1) ad))) dU))) aN)
  (ag (am ce))))),?_⟩
 refine⟨a,f.dx,_,rfl,tg.o,rfl,?_⟩;refine⟨a,f,ns,d,q,row,g,rfl,two,tg,m,ok,λhw=>?_,λn g' hw p B C=>?_⟩
 ·have r:row≠[]:=by
   rcases ok with ⟨b,rfl,_⟩|⟨c,rfl,_⟩<;>simp
  have rt:(!(row.map V.int).isEmpty)=true:=by
   cases row with
   | nil=>exact aab rfl r
   | cons _ _=>rfl
  refine⟨_,.inl (.of m),?_⟩;refine ao (λz=>aab (show (!(!(row.map V.int).isEmpty))=true from z) (by rw[rt];decide)) (λ_=>?_);have x:cv [V.ref f.s0,V.ref f.s1] g=some (.ref (av g f.s0 f.s1)):=by rw[mW two];exact congrArg some (jQ V.ref _ _ _)
  have hs:=tg.ss two;refine⟨a,_,f.dx,_,_,rfl,tg.o,T.cV,T.qx,rfl,?_⟩;refine⟨_,_,.inl (.of tg.s),x,?_⟩;refine⟨_,.inl (.of hs),?_⟩;unfold iV at i j;rw[hw]at i j;refine ao (λz=>?_) (λz=>?_)
  ·have z:(!((cX (av g d ns) (av g ns d) g).map V.int).isEmpty)=true:=z;rw[List.isEmpty_map]at z;rw[z]at i j;refine⟨a,_,f.dx,_,_,rfl,tg.o,T.cV,T.qx,rfl,?_⟩;refine⟨_,_,.inl (.of tg.s),x,?_⟩;refine⟨q,av g f.s0 f.s1,row,_,rfl,.of m,.of hs,λB s1=>?_⟩;refine ao (λy=>?_) (λy=>?_)
   ·have y:cP row (cX (av g d ns) (av g ns d) g)=true:=y;rw[y]at j;have l:=tg.mono s1;refine⟨a,_,f.dx,_,_,rfl,l.o,T.cV,T.qx,rfl,?_⟩;refine⟨_,_,.inl (.of l.s),x,?_⟩;refine⟨_,.inl (.of (s1 _ _ m)),_,rfl,_,.of (s1 _ _ hs),λu v k=>?_⟩;rw[Yl,dL,i3]at k;exact j rfl u _ v (s1.trans k.sm) k.at_ (λ_=>rfl)
   ·have y:cP row (cX (av g d ns) (av g ns d) g)=false:=by
     cases e:cP row (cX (av g d ns) (av g ns d) g) with
     | false=>rfl
     | true=>exact aab e y
    rw[y]at i;exact i rfl B s1
  ·have z:(!((cX (av g d ns) (av g ns d) g).map V.int).isEmpty)=false:=by
    cases e:(!((cX (av g d ns) (av g ns d) g).map V.int).isEmpty) with
    | false=>rfl
    | true=>exact aab e z
   rw[List.isEmpty_map]at z;rw[z]at i;exact i rfl H (ah.refl _)
 ·refine⟨sz rfl,λu v k=>?_⟩;exact j (by unfold iV;rw[hw];rfl) u [] v (C.sm.trans k.sm) k.at_ (λh=>by rw[hw]at h;cases h)
def QN (T:Txt w K mg t):dR P w K mg base t.bV "fill" 3 t.tm t.oF ["self", "row", "page"] [] (Cp t) :=
 ⟨T.cV,T.Oa,⟨_,T.Vq,.nil⟩,NH T⟩
def fX(P O:f6)(g:Int)(row:f6):List V:=match fO P O g row with
 | some (n,g')=>[.str "sign",.int n,.int g']
 | none=>if iV P O g row=true then [.str "more",.non,.int g] else [.str "none",.non,.int g]
def hU(P O:f6):f6:=(gD P O).map λb:Nat=>(b:Int)
def vg{O P:f6}{c:Int}(a:0<=c):c∈hU O P ↔ ∃n,O[c.toNat]? = some n/\n∉P:=by
 unfold hU;rw[Y3]
 constructor
 ·rintro⟨b,hb,rfl⟩;simpa using DX.mp hb
 ·rintro h;exact⟨c.toNat,DX.mpr h,by omega⟩
def Gf{O P:f6}:hU O P=[] ↔ gD O P=[]:=by unfold hU;simp
theorem Eb{P O:f6}{g b:Int}(h:0<=b):fX P O g [b]=match P[b.toNat]? with
 | some n=>[.str "sign",.int n,.int g]
 | none=>if b=254+(1-g)/\hU O P≠[] then [.str "more",.non,.int g] else [.str "none",.non,.int g]:=by
 have hw:fO P O g [b]=P[b.toNat]?.map λn=>(n,g):=rfl;unfold fX;rw[hw];cases e:P[b.toNat]? with
 | some n=>rfl
 | none =>
  have a:fO P O g [b]=none:=by rw[hw,e];rfl
  dsimp only [Option.map];unfold iV;rw[a];rcases FY O P g with hb|⟨i,hi,hb⟩
  ·have d:=Gf.mpr ((T5 O P g).mp hb);rw[hb,d];simp
  ·have d:hU O P≠[]:=λz=>by
    rw[Gf.mp z]at hi;cases hi
   rw[hb];unfold cP;by_cases c:b=254+(1-g)
   ·simp[c,d]
   ·have f:¬254+(1-g)=b:=λz=>c z.symm;simp[c,f]
def O8 {P O:f6} {g c:Int} (a:0<=c):fX P O g [254+(1-g),c]=if c∈hU O P then [.str "sign",.int (O.getD c.toNat 0),.int (1-g)] else [.str "none",.non,.int g]:=by
 by_cases h:c∈hU O P
 ·rw[aaa h];obtain⟨n,d,f⟩:=(vg a).mp h;unfold fX fO;simp[d,f,YZ]
 ·rw[on h];have hw:fO P O g [254+(1-g),c]=none:=by
   unfold fO;dsimp only;cases e:O[c.toNat]? with
   | none=>rfl
   | some n =>
    dsimp only;rw[aaa];exact Decidable.byContradiction λz=>h ((vg a).mpr ⟨n,e,z⟩)
  have b:iV P O g [254+(1-g),c]=false:=by
   unfold iV;rw[hw];rcases FY O P g with hb|⟨i,hi,hb⟩
   ·rw[hb];rfl
   ·rw[hb];unfold cP;have:¬(i:Int)=c:=λz=>h (by
     unfold hU;exact Y3.mpr ⟨i,List.mem_of_mem_head? hi,z⟩)
    simp[this]
  unfold fX;rw[hw,b]
  rfl
def pV(t:Adr):Sp:=λvs H Q _=>∃(a:Addr) (f:Fp) (ns b:f6) (x:V) (g:Int) (r:f6) (g':Int),vs=[.ref a,x,.int g]/\cY g/\Tg t H a f ns b/\fi (av g ns b) (av g b ns) g x=some (r,g') /\
 ∀p q H',ah H H'->H q=none->H' q=some (.lst (r.map V.int))->H' p=some (.tup [.ref q,.int g'])->Q (.ref p) H'
def Nz (T:Txt w K mg t):bH P w K mg base bO 4 t.tf t.oE ["self", "sign", "page"] (pV t):=by
 refine T.WC.okQ K0 (λvs H Q E h=>by obtain⟨o,f,ns,m,x,g,r,g',rfl,_⟩:=h;rfl) λ_ _ _ _ H vs Q E hr h=>?_;obtain⟨a,f,ns,m,x,g,r,g',rfl,two,tg,b,k⟩:=h;have C:=hr.units;refine⟨_,(af (aL (dD (aD (jx (K:=K) T) hr (ab (aa 1) ad))) (af (aL (aQ (qN C) (aa 1) (aE (Yc K) (aX (K:=K) rfl (aa 0)) (aa 2) (λ_ _=>rfl)) (by with_unfolding_all rfl)) (ag (am (cm (ab (aR (ab (uS C (aE (Yc K) (aX (K:=K) rfl (aa 0)) (aa 2) (λ_ _=>rfl)) (aa 1)) ad)) (ab (aa 2) ad))))) aN)
  (ag (aL (aQ (qN C) (aa 1) (aE (Yc K) (aX (K:=K) rfl (aa 0)) (az cA aj (aa 2)) (λ_ _=>rfl)) (by with_unfolding_all rfl)) (ag (am (cm (ab (aR (ab (aE (Yc K) (fG (v:=.ref t.mX) rfl T.zB rfl) (az cA aj (aa 2)) (λ_ _=>rfl)) (ab (uS C (aE (Yc K) (aX (K:=K) rfl (aa 0)) (az cA aj (aa 2)) (λ_ _=>rfl)) (aa 1)) ad))) (ab (az cA aj (aa 2)) ad))))) aN))) aN)
  (ag eU)),?_⟩
 have okP:dj (av g ns m):=uv tg.k0 tg.k1;have okO:dj (av g m ns):=uv tg.k1 tg.k0;have u:dv x=true:=by
  cases e:dv x with
  | true=>rfl
  | false=>rw[IZ okP okO e]at b;cases b
 obtain⟨n,rfl,_⟩:=Kj u;refine⟨_,rfl,.int n,?_⟩;refine ao (λ_=>?_) (λz=>aab u z);have D:∀g,cY g->cv [V.ref f.d0,V.ref f.d1] g=some (.ref (av g f.d0 f.d1)):=λg two=>by rw[mW two];exact congrArg some (jQ V.ref _ _ _)
 obtain⟨y,s,q⟩:=tg.dk two;obtain⟨L,j,l⟩:=tg.dk two.flip;rw[Cw two]at l;refine⟨a,_,f.dx,_,_,rfl,tg.o,T.cV,T.jr,rfl,?_⟩;refine⟨_,_,.inl (.of tg.p),D g two,?_⟩;refine⟨_,_,rfl,cK.k (k:=.inl n) s,?_⟩;unfold fi at b;dsimp only at b;cases e1:bX (av g ns m) n with
 | some i =>
  rw[e1]at b;cases b;have B:bA y (.inl n)=some (.int (i:Int)):=by rw[q,e1];rfl
  refine ao (λ_=>?_) (λz=>aab (show (bA y (.inl n)).isSome=true by rw[B];rfl) z);refine⟨a,_,f.dx,_,_,rfl,tg.o,T.cV,T.jr,rfl,?_⟩;refine⟨_,_,.inl (.of tg.p),D g two,?_⟩;refine⟨_,_,rfl,by have:=cK.k (k:=.inl n) s;rw[B]at this;exact this,?_⟩;refine⟨sz rfl,λI M c=>?_⟩;refine⟨sz rfl,λF G d=>?_⟩;exact k F I G (c.sm.trans d.sm) c.nw (d.sm _ _ c.at_) d.at_
 | none =>
  rw[e1]at b;dsimp only at b;have B:bA y (.inl n)=none:=by rw[q,e1];rfl
  refine ao (λz=>aab (show (bA y (.inl n)).isSome=true from z) (by rw[B];decide)) (λ_=>?_);refine⟨a,_,f.dx,_,_,rfl,tg.o,T.cV,T.jr,rfl,?_⟩;refine⟨_,_,.inl (.of tg.p),D (1-g) two.flip,?_⟩;refine⟨_,_,rfl,cK.k (k:=.inl n) j,?_⟩;cases e2:bX (av g m ns) n with
  | none=>rw[e2]at b;cases b
  | some i =>
   rw[e2]at b;cases b;have J:bA L (.inl n)=some (.int (i:Int)):=by rw[l,e2];rfl
   refine ao (λ_=>?_) (λz=>aab (show (bA L (.inl n)).isSome=true by rw[J];rfl) z);have sh:cv (([254,255]:f6).map V.int) (1-g)=some (.int (254+(1-g))):=by
    rcases two with rfl|rfl<;>rfl
   refine⟨_,_,.inr (T.uT _),sh,?_⟩;refine⟨a,_,f.dx,_,_,rfl,tg.o,T.cV,T.jr,rfl,?_⟩;refine⟨_,_,.inl (.of tg.p),D (1-g) two.flip,?_⟩;refine⟨_,_,rfl,by have:=cK.k (k:=.inl n) j;rw[J]at this;exact this,?_⟩;refine⟨sz rfl,λI M c=>?_⟩;refine⟨sz rfl,λF G d=>?_⟩;exact k F I G (c.sm.trans d.sm) c.nw (d.sm _ _ c.at_) d.at_
def EN (T:Txt w K mg t):dR P w K mg base t.bV "spell" 4 t.tf t.oE ["self", "sign", "page"] [] (pV t) :=
 ⟨T.cV,T.N7,⟨_,T.Vm,.nil⟩,Nz T⟩
structure jJ (H:Hp) (p:Addr) (s:Int) (r:f6):Prop where
 h:∃q,H p=some (.tup [.int s,.ref q])/\H q=some (.lst (r.map V.int))
 l:1<=r.length/\r.length<=6
def jJ.mono{H c:Hp}{p:Addr}{s:Int}{r:f6}(h:jJ H p s r)(k:ah H c):jJ c p s r:=by
 obtain⟨⟨q,a,b⟩,l⟩:=h
 exact⟨⟨q,k _ _ a,k _ _ b⟩,l⟩
def fJ(e f:Int × f6):Bool:=decide (e.1=f.1) || cP e.2 f.2 || cP f.2 e.2
def J4:Sp:=λvs H Q _=>∃(a b:Addr) (e f:Int × f6),vs=[.ref a,.ref b]/\jJ H a e.1 e.2/\jJ H b f.1 f.2/\∀H',ah H H'->Q (.bl (fJ e f)) H'
def Qu (T:Txt w K mg t):bz P w K mg base "collide" 2 t.AE t.wR ["one", "other"] J4:=by
 refine⟨T.Sq,T.Hi.kp,T.U0,T.Hi.okQ KI (λvs H Q E h=>by obtain⟨a,b,x,y,rfl,_⟩:=h;rfl) λ_ _ _ _ H vs Q E hr h=>?_⟩;obtain⟨a,b,⟨s1,c⟩,⟨g,d⟩,rfl,⟨⟨l,i,e⟩,_⟩,⟨⟨m,hb,f⟩,_⟩,k⟩:=h;dsimp only at i e hb f;have p:=hr.units;refine⟨_,(ag (am (qg (iM (cf (K:=K) rfl p) (aE (Yc K) (aa 0) aj (λ_ _=>rfl)) (aE (Yc K) (aa 1) aj (λ_ _=>rfl)) (aS _)) (qg (aD (qK (K:=K) T) hr (ab (aE (Yc K) (aa 0) aj (λ_ _=>rfl)) (ab (aE (Yc K) (aa 1) aj (λ_ _=>rfl)) ad))) (ii (aD (qK (K:=K) T) hr (ab (aE (Yc K) (aa 1) aj (λ_ _=>rfl)) (ab (aE (Yc K) (aa 0) aj (λ_ _=>rfl)) ad)))))))),?_⟩;refine⟨_,_,.inr (.of i),ba (j:=0) rfl,?_⟩;refine⟨_,_,.inr (.of hb),ba (j:=0) rfl,?_⟩;refine ao (λz=>?_) (λz=>?_)
 ·refine cI (k H (ah.refl _)) ?_;have z:decide (s1=g)=true:=z;show (decide (s1=g) || cP c d || cP d c)=true;rw[z];rfl
 have z:¬decide (s1=g)=true:=z;refine⟨_,_,.inr (.of i),ba (j:=1) rfl,?_⟩;refine⟨_,_,.inr (.of hb),ba (j:=1) rfl,?_⟩;refine⟨l,m,c,d,rfl,.of e,.of f,λn k1=>?_⟩;refine ao (λy=>?_) (λy=>?_)
 ·refine cI (k n k1) ?_;have y:cP c d=true:=y;show (decide (s1=g) || cP c d || cP d c)=true;rw[y];simp
 have y:¬cP c d=true:=y;refine⟨_,_,.inr (.of (k1 _ _ hb)),ba (j:=1) rfl,?_⟩;refine⟨_,_,.inr (.of (k1 _ _ i)),ba (j:=1) rfl,?_⟩;refine⟨m,l,d,c,rfl,.of (k1 _ _ f),.of (k1 _ _ e),λo k2=>?_⟩;refine cI (k o (k1.trans k2)) ?_;show (decide (s1=g) || cP c d || cP d c)=cP d c;simp at z y;simp[z,y]
structure Es (es:List (Int × f6)):Prop where
 sg:∀e∈es,Sg e.1/\1<=e.2.length/\e.2.length<=6/\∀b∈e.2,0<=b/\b<=255
 pw:es.Pairwise λe f=>fJ e f=false
 l:es.length<=64
def FL(e f:Int × f6):fJ e f=fJ f e:=by
 unfold fJ;rw[show decide (e.1=f.1)=decide (f.1=e.1) by simp[eq_comm],Bool.or_assoc,Bool.or_assoc,Bool.or_comm (cP e.2 f.2)]
def Es.two{a:List (Int × f6)}(h:Es a){e f:Int × f6}(he:e∈a)(g:f∈a):e=f\/fJ e f=false:=by
 obtain⟨i,b,rfl⟩:=a0o.mp he;obtain⟨j,d,rfl⟩:=a0o.mp g;rcases Nat.lt_trichotomy i j with c|c|c
 ·exact .inr (Z5.mp h.pw i j b d c)
 ·subst c;exact .inl rfl
 ·rw[FL];exact .inr (Z5.mp h.pw j i d b c)
def jb(H:Hp)(ps:List Addr)(b:List (Int × f6)):Prop:=cR (λa e=>jJ H a e.1 e.2) ps b
def jb.mono{H b:Hp}{ps:List Addr}{c:List (Int × f6)}(h:jb H ps c)(s:ah H b):jb b ps c:=h.imp λa e z=>z.mono s
def Ja(K:PySem.W.Frag):Sp:=λvs H Q _=>∃(q:Addr) (r:f6),vs=[.ref q]/\H q=some (.lst (r.map V.int))/\(∀b∈r,0<=b/\b<=255)/\r.length<=1000/\∀H',ah H H'->Q (.bl true) H'
def Qo (T:Txt w K mg t):bz P w K mg base "is_row" 3 t.Aw t.wJ ["thing"] (Ja K):=by
 refine⟨T.Sd,T.G8.kp,T.US,T.G8.okQ KD (λvs H Q E h=>by obtain⟨q,r,rfl,_⟩:=h;rfl) λ_ _ _ _ H vs Q E hr h=>?_⟩;obtain⟨q,r,rfl,a,hb,hl,k⟩:=h;refine⟨_,(ag (am (gQ (bu (oY (K:=K) rfl) T.n_isinstance Z4 (ab (aa 0) (ab (nK rfl T.n_list Y4) ad))) (ii (bu (TK (K:=K) rfl rfl) T.n_all PyProof.Rows.boot_all (ab (iL rfl (cZ.of (fns:=(ae jk).names) (N:=["thing"]) (Nc:=["each"]) (nv:=1) (caps:=[]) rfl rfl (by decide +kernel)) (c8 (K:=K) rfl (aa 0)) (λ_ _ _ _=>(bi (i:=0) (show List.Nodup (["each"]:List Str) by decide +kernel) rfl (Or.inl rfl) (Or.inr rfl))) (λ_ _ _ _=>fD) (λ_ _ _ _=>(aD (Qq (K:=K) T) hr (ab (aa 0) ad)))) ad)))))),?_⟩;refine⟨_,_,.lst a,by with_unfolding_all rfl,?_⟩;refine nY ?_;refine⟨q,rfl,⟨_,.of a⟩,oW ((r.map λ_=>true).map V.bl) (by simp) (.of a) (bM (by rw[Yl];lia)) (λi x y g N hx b f hN=>?_) λj e c=>?_⟩
 ·obtain⟨o,d,rfl⟩:=dz hx;rw[Yt,Yt,d]at b;cases b;have:=hb o (YD d);exact⟨_,rfl,.int _,cI (hN _ (ah.refl _)) (by simp[db];lia)⟩
 refine⟨_,c.lst,?_⟩;exact cI (k e c.sm) (by simp)
def J1(K:PySem.W.Frag):Sp:=λvs H Q _=>∃(p:Addr) (e:Int × f6),vs=[.ref p]/\jJ H p e.1 e.2/\Sg e.1/\(∀b∈e.2,0<=b/\b<=255)/\∀H',ah H H'->Q (.bl true) H'
def Qp (T:Txt w K mg t):bz P w K mg base "is_entry" 4 t.Az t.wM ["thing"] (J1 K):=by
 refine⟨T.Si,T.Hd.kp,T.UV,T.Hd.okQ KG (λvs H Q E h=>by obtain⟨p,e,rfl,_⟩:=h;rfl) λ_ _ _ _ H vs Q E hr h=>?_⟩;obtain⟨p,⟨sg,r⟩,rfl,⟨⟨q,a,b⟩,l1,d⟩,hs,hb,k⟩:=h;dsimp only at a b l1 d hs hb;have f:=hr.units;refine⟨_,(af (aL (dG (fV (eS (dD (bu (oY (K:=K) rfl) T.n_isinstance Z4 (ab (aa 0) (ab (nK rfl T.n_tuple a0p) ad))))) (fU (aQ (gZ (K:=K) rfl f) (bu (Yb K) T.n_len Yq (ab (aa 0) ad)) aj (aS _))))) (ag (am dW)) aN)
  (ag (am (gQ (aD (jx (K:=K) T) hr (ab (aE (Yc K) (aa 0) aj (λ_ _=>rfl)) ad)) (gQ (aD (Qo (K:=K) T) hr (ab (aE (Yc K) (aa 0) aj (λ_ _=>rfl)) ad)) (ii (nJ fH fH aj (bu (Yb K) T.n_len Yq (ab (aE (Yc K) (aa 0) aj (λ_ _=>rfl)) ad)) (bE T.TV)))))))),?_⟩
 refine⟨_,_,.tup a,by with_unfolding_all rfl,?_⟩;refine ao (λz=>aab z (by decide)) (λ_=>?_);refine⟨_,.inr (.of a),?_⟩;refine⟨_,_,.inr (.of a),ba (j:=0) rfl,?_⟩;refine⟨_,rfl,.int _,?_⟩;refine ao (λ_=>?_) (λz=>aab ((ig sg).mpr hs) z);refine⟨_,_,.inr (.of a),ba (j:=1) rfl,?_⟩;refine⟨q,r,rfl,b,hb,by lia,λc s1=>?_⟩;refine nY ?_;refine⟨_,_,.inr (.of (s1 _ _ a)),ba (j:=1) rfl,?_⟩;refine⟨_,.inl (.of (s1 _ _ b)),?_⟩;refine ao (λz=>?_) (λz=>?_)
 ·exact cI (k c s1) (by rw[Yl];simp;lia)
 ·exact aab (show decide ((1:Int)<=((r.map V.int).length:Int))=true by rw[Yl];simp;lia) z
def J6:Sp:=λvs H Q _=>∃(a:Addr) (ps:List Addr) (b:List (Int × f6)),vs=[.ref a]/\H a=some (.lst (ps.map V.ref))/\jb H ps b/\Es b/\∀H',ah H H'->Q .non H'
def Tb(xs:List V)(k:Nat):cn xs none (some (k:Int))=xs.take k:=oS xs k
def uN{a:List Addr}{i:Nat}{x:V}(h:(a.map V.ref)[i]? = some x):∃q,a[i]? = some q/\x=.ref q:=by
 rw[Yt]at h;obtain⟨q,b,rfl⟩:=Zk.mp h;exact⟨q,b,rfl⟩
def Qv (T:Txt w K mg t):bz P w K mg base "check_table" 5 t.AF t.wS ["rows"] J6:=by
 refine⟨T.Sr,T.Hj.kp,T.U1,T.Hj.okQ nE (λvs H Q E h=>by obtain⟨a,ps,O,rfl,_⟩:=h;rfl) λ_ _ _ _ H vs Q E hr h=>?_⟩;obtain⟨a,ps,O,rfl,s,C,ok,k⟩:=h;have hu:=hr.units;refine⟨_,(af (aL (aQ iU (bu (Yb K) T.n_len Yq (ab (aa 0) ad)) (bE T.TR) (aS _)) (ag eU) aN)
  (ag (cq PassesOwn.never rfl (gP (K:=K) rfl rfl T.n_enumerate (ab (aa 0) ad)) (fF (K:=K) rfl rfl (cC (bi (i:=1) nE.nd rfl (.inl rfl)) (cC (bi (i:=2) nE.nd rfl (.inl rfl)) fE))) (af (aL (eS (dD (aD (Qp (K:=K) T) hr (ab (aa 2) ad)))) (ag eU) aN)
  (ag (cq PassesOwn.never rfl (gP (K:=K) rfl rfl T.n_enumerate (ab (cD (Yd K) (aa 0) dU (bU (aa 1))) ad)) (fF (K:=K) rfl rfl (cC (bi (i:=3) nE.nd rfl (.inl rfl)) (cC (bi (i:=4) nE.nd rfl (.inl rfl)) fE))) (ag (aL (dD (aD (Qu (K:=K) T) hr (ab (aa 4) (ab (aa 2) ad)))) (ag eU) aN)))))))),?_⟩
 have lp:ps.length=O.length:=C.1;have a0:=ok.l;refine⟨_,.inl (.of s),?_⟩;refine ao (λz=>?_) (λ_=>?_)
 ·have z:((ps.map V.ref).length:Int) > 64:=aac z;rw[Yl]at z;lia
 refine⟨a,_,rfl,.of s,hG (K:=K) (a:=a) (xs:=ps.map V.ref) (λi σ g=>ah H g/\∃M J d c,σ=[some (.ref a),M,J,d,c]) ⟨ah.refl _,_,_,_,_,rfl⟩ (λi σ g _ z=>z.1.seq (.of s)) ?_ ?_⟩
 ·rintro i x p σ L H3 hx ⟨y,M,J,d,c,rfl⟩ N;obtain⟨F,D,rfl⟩:=uN hx;obtain⟨e,he,R⟩:=C.right D;refine⟨p,_,rfl,N.tup,rfl,_,_,rfl,_,_,rfl,rfl,?_⟩;have I:=y.trans N.sm;obtain⟨k1,k2,k3,k4⟩:=ok.sg e (YD he);refine⟨F,e,rfl,R.mono I,k1,k4,λH4 s4=>?_⟩;refine ao (λz=>aab (show (!true)=true from z) (by decide)) (λ_=>?_);have o:=I.trans s4;refine⟨_,rfl,_,o.seq (.of s),λS W r=>?_⟩;rw[Tb]at r;have m:=o.trans r.sm;refine⟨S,_,rfl,r.lst,hG (K:=K) (a:=S) (xs:=(ps.map V.ref).take i) (λj σ g=>ah W g/\∃d c,σ=[some (.ref a),some (.int (i:Int)),some (.ref F),d,c]) ⟨ah.refl _,_,_,rfl⟩ (λi σ g _ z=>z.1.seq r.lst) ?_ ?_⟩
  ·rintro j u U σ H6 H7 b ⟨v,d,c,rfl⟩ B;have q:j<i:=by have:=(Yr.mp b).1;rw[Yp]at this;lia
   rw[Zt q]at b;obtain⟨pu,G,rfl⟩:=uN b;obtain⟨f,hf,Y⟩:=C.right G;refine⟨U,_,rfl,B.tup,rfl,_,_,rfl,_,_,rfl,rfl,?_⟩;have n:=m.trans (v.trans B.sm);refine⟨pu,F,f,e,rfl,Y.mono n,R.mono n,λH8 s8=>?_⟩;have nc:fJ f e=false:=by
    obtain⟨a1,e1⟩:=Yr.mp hf;obtain⟨a2,e2⟩:=Yr.mp he;rw[<- e1,<- e2];exact Z5.mp ok.pw j i a1 a2 q
   refine ao (λz=>aab (show fJ f e=true from z) (by rw[nc];decide)) (λ_=>?_);exact⟨v.trans (B.sm.trans s8),_,_,rfl⟩
  ·rintro σ H6 ⟨v,d,c,rfl⟩;exact⟨m.trans v,_,_,_,_,rfl⟩
 ·rintro σ L ⟨y,_⟩;exact k L y
structure Ft where
 dx:Addr
 d1:Addr
 d2:Addr
 d3:Addr
def c9(r:f6):List aU:=r.map Sum.inl
def qG(r:f6):r.map V.int=(c9 r).map kV:=by
 unfold c9;rw[Z3];rfl
def Eg{r s:f6}(h:c9 r=c9 s):r=s:=by
 unfold c9 at h
 induction r generalizing s with
 | nil=>cases s with
  | nil=>rfl
  | cons _ _=>cases h
 | cons x r ih=>cases s with
  | nil=>cases h
  | cons y s=>simp at h;rw[h.1,ih (by simpa using h.2)]
structure Kv (H:Hp) (k1:List (aU × V)) (k2 k3:List (List aU × V)) (es:List (Int × f6)):Prop where
 a:∀e∈es,∃q,bA k1 (.inl e.1)=some (.ref q)/\H q=some (.tup (e.2.map V.int))
 a':∀n:Int,(∀e∈es,e.1≠n)->bA k1 (.inl n)=none
 b:∀e∈es,bA k2 (c9 e.2)=some (.int e.1)
 b':∀r:f6,(∀e∈es,e.2≠r)->bA k2 (c9 r)=none
 c:∀e∈es,∀m,m<=e.2.length->∃q ys,bA k3 (c9 (e.2.take m))=some (.ref q)/\H q=some (.tup ys)
structure Tt (t:Adr) (H:Hp) (a:Addr) (f:Ft) (es:List (Int × f6)) (n:Nat):Prop where
 o:H a=some (.ins t.cb f.dx [("row_by_sign",.ref f.d1),("sign_by_row",.ref f.d2),("rest_by_row",.ref f.d3)])
 k:∃k1 k2 k3,H f.d1=some (.dK k1)/\H f.d2=some (.dT k2)/\H f.d3=some (.dT k3)/\k1.length<=n/\k2.length<=n/\k3.length<=n/\Kv H k1 k2 k3 es
 ne:f.d2≠f.d3
variable {H H':Hp}{a:Addr}{f:Ft}{es:List (Int × f6)}{n:Nat}
def Kv.mono{k1:List (aU × V)}{k2 k3:List (List aU × V)}(h:Kv H k1 k2 k3 es)(s:∀q xs,H q=some (.tup xs)->H' q=some (.tup xs)):Kv H' k1 k2 k3 es:=by
 refine⟨λe he=>?_,h.a',h.b,h.b',λe he m hm=>?_⟩
 ·obtain⟨q,x,y⟩:=h.a e he;exact⟨q,x,s _ _ y⟩
 ·obtain⟨q,ys,x,y⟩:=h.c e he m hm;exact⟨q,ys,x,s _ _ y⟩
def Tt.mono(h:Tt t H a f es n)(s:ah H H'):Tt t H' a f es n:=by
 obtain⟨o,⟨k1,k2,k3,d,g,i,l1,b,j,c⟩,ne⟩:=h;exact⟨s _ _ o,⟨k1,k2,k3,s _ _ d,s _ _ g,s _ _ i,l1,b,j,c.mono λq xs e=>s _ _ e⟩,ne⟩
def bJ{c d:Addr}{u v:HO}(h:H c=some u)(k:H d=some v)(n:u≠v):c≠d:=λz=>by rw[z,k]at h;exact n (YL h).symm
def eg(f:Ft)(H a:Hp):Prop:=∀c u,c≠f.d1->c≠f.d2->c≠f.d3->H c=some u->a c=some u
def eg.trans{H a d:Hp}(h:eg f H a)(h':eg f a d):eg f H d:=λc u i b g e=>h' c u i b g (h c u i b g e)
def eg.of{H a:Hp}(h:ah H a):eg f H a:=λc u _ _ _ e=>h c u e
def Tt.tup{q:Addr}{xs:List V}(h:Tt t H a f es n)(b:H q=some (.tup xs))(k:eg f H H'):H' q=some (.tup xs):=by
 obtain⟨o,⟨k1,k2,k3,d,e,c,_⟩,ne⟩:=h;exact k _ _ (bJ b d (by intro z;cases z)) (bJ b e (by intro z;cases z)) (bJ b c (by intro z;cases z)) b
def J0(t:Adr):Sp:=λvs H Q _=>∃(a:Addr) (f:Ft) (q:Addr) (n:Nat) (s:Int) (r:f6) (b:List (Int × f6)),vs=[.ref a,.int s,.ref q]/\Tt t H a f b n/\H q=some (.tup (r.map V.int))/\r.length<=6/\n<=1000/\(∀e∈b,e.1≠s/\e.2≠r) /\
 ∀H',Tt t H' a f (b++[(s,r)]) (n+9)->eg f H H'->Q .non H'
def QK (T:Txt w K mg t):cc P w K mg base t.cb "enter" 1 t.AW t.xh ["self", "sign", "row"] (J0 t):=by
 refine⟨T.eG,T.N5,T.Vk,T.WA.okQ CK (λvs H Q E h=>by obtain⟨a,f,q,n,s,r,es,rfl,_⟩:=h;rfl) λ_ _ _ _ H vs Q E hr h=>?_⟩;obtain⟨a,f,q,n,sg,r,es,rfl,tb,hq,lr,ln,new,k⟩:=h;have hu:=hr.units;obtain⟨o,⟨k1,k2,k3,a1,a2,a3,l1,l2,l3,R⟩,ne⟩:=id tb;refine⟨_,(af (qh hu (aX (K:=K) rfl (aa 0)) (aa 1) (aa 2))
  (af (qh hu (aX (K:=K) rfl (aa 0)) (aa 2) (aa 1))
  (ag (cq PassesOwn.never rfl (nI rfl T.n_range (ab (az (Ya K) (bu (Yb K) T.n_len Yq (ab (aa 2) ad)) aj) ad)) (bi (i:=3) CK.nd rfl (.inl rfl)) (ag (qh hu (aX (K:=K) rfl (aa 0)) (cD (E3 (K:=K) rfl) (aa 2) dU (bU (aa 3))) (cD (E3 (K:=K) rfl) (aa 2) (bU (aa 3)) dU))))))),?_⟩
 have a5:f.d1≠f.d2:=bJ a1 a2 (by intro z;cases z);have U:f.d1≠f.d3:=bJ a1 a3 (by intro z;cases z);have D:a≠f.d1:=bJ o a1 (by intro z;cases z);have F:a≠f.d2:=bJ o a2 (by intro z;cases z);have G:a≠f.d3:=bJ o a3 (by intro z;cases z);refine⟨a,_,f.dx,_,_,rfl,o,T.eG,T.qv,rfl,?_⟩;refine⟨f.d1,_,rfl,ic.k (k:=.inl sg) a1 (fA (by lia)),?_⟩;obtain⟨B,O⟩:∃B,B=upd H f.d1 (.dK (cE k1 (.inl sg) (.ref q))):=⟨_,rfl⟩;rw[<- O];have o1:eg f H B:=λc u m1 m2 m3 e=>by rw[O,ay m1];exact e
 have b1:B f.d1=some (.dK (cE k1 (.inl sg) (.ref q))):=by rw[O,aJ]
 have b2:B f.d2=some (.dT k2):=by rw[O,ay a5.symm];exact a2
 have b3:B f.d3=some (.dT k3):=by rw[O,ay U.symm];exact a3
 clear O;refine⟨a,_,f.dx,_,_,rfl,o1 _ _ D F G o,T.eG,T.va,rfl,?_⟩;have ao:=tb.tup hq o1;refine⟨f.d2,_,rfl,ic.t (k:=c9 r) b2 (by rw[<- qG];exact ao) (fA (by lia)),?_⟩;obtain⟨L,M⟩:∃L,L=upd B f.d2 (.dT (cE k2 (c9 r) (.int sg))):=⟨_,rfl⟩;rw[<- M];have o2:eg f B L:=λc u m1 m2 m3 e=>by rw[M,ay m2];exact e
 have c1:L f.d1=some (.dK (cE k1 (.inl sg) (.ref q))):=by rw[M,ay a5];exact b1
 have c2:L f.d2=some (.dT (cE k2 (c9 r) (.int sg))):=by rw[M,aJ]
 have c3:L f.d3=some (.dT k3):=by rw[M,ay ne.symm];exact b3
 clear M;have I:=o1.trans o2;have am:=tb.tup hq I;refine⟨_,.inr (.of am),?_⟩;refine⟨_,rfl,by rw[Yl];lia,by rw[Yl];lia,?_⟩;rw[Yl];refine om (lo:=0) (n:=((r.length:Int)+1).toNat) (λi σ J=>eg f H J/\J f.d1=some (.dK (cE k1 (.inl sg) (.ref q)))/\J f.d2=some (.dT (cE k2 (c9 r) (.int sg)))/\(∃d,J f.d3=some (.dT d)/\d.length<=n+i/\(∀m,m<i->∃q ys,bA d (c9 (r.take m))=some (.ref q)/\J q=some (.tup ys))/\(∀e∈es,∀m,m<=e.2.length->∃q ys,bA d (c9 (e.2.take m))=some (.ref q)/\J q=some (.tup ys)))/\∃v3,σ=[some (.ref a),some (.int sg),some (.ref q),v3]) ⟨I,c1,c2,⟨k3,c3,by lia,(λm h=>aab h (by lia)),λe he m hm=>?_⟩,_,rfl⟩ ?_ ?_
 ·obtain⟨q',ys,x,y⟩:=R.c e he m hm;exact⟨q',ys,x,tb.tup y I⟩
 ·rintro i σ H3 hi ⟨v,d1,d2,⟨d,d3,av,g,j⟩,v3,rfl⟩;have l:=tb.tup hq v;refine⟨_,rfl,_,.of l,l,λp H4 s4 h4=>?_⟩;refine⟨a,_,f.dx,_,_,rfl,s4 _ _ (v _ _ D F G o),T.eG,T.vd,rfl,?_⟩;refine⟨_,rfl,_,.of (s4 _ _ l),s4 _ _ l,λp5 H5 s5 h5=>?_⟩;rw[Zq,xT,qG]at h5;have C:=s4.trans s5;refine⟨f.d3,_,rfl,ic.t (k:=c9 (r.take i)) (C _ _ d3) h5 (fA (by lia)),?_⟩;obtain⟨N,e6⟩:∃N,N=upd H5 f.d3 (.dT (cE d (c9 (r.take i)) (.ref p))):=⟨_,rfl⟩;rw[<- e6];have t6:∀c u,c≠f.d3->H3 c=some u->N c=some u:=λc u m e=>by rw[e6,ay m];exact C _ _ e
  have aw:p≠f.d3:=bJ (s5 _ _ h4) (C _ _ d3) (by intro z;cases z);have S:N p=some (.tup (cn (r.map V.int) (some (0+(i:Int))) none)):=by rw[e6,ay aw];exact s5 _ _ h4
  have b6:N f.d3=some (.dT (cE d (c9 (r.take i)) (.ref p))):=by rw[e6,aJ]
  clear e6;have keep:∀kk,(∃q ys,bA d kk=some (.ref q)/\H3 q=some (.tup ys))->∃q ys,bA (cE d (c9 (r.take i)) (.ref p)) kk=some (.ref q)/\N q=some (.tup ys):=by
   rintro kk ⟨q',ys,x,y⟩;rw[ie];by_cases c:kk=c9 (r.take i)
   ·rw[aaa c];exact⟨p,_,rfl,S⟩
   ·rw[on c];exact⟨q',ys,x,t6 _ _ (bJ y d3 (by intro z;cases z)) y⟩
  refine⟨λc u m1 m2 m3 e=>t6 _ _ m3 (v c u m1 m2 m3 e),t6 _ _ U d1,t6 _ _ ne d2,⟨_,b6,?_,λm hm=>?_,λe he m hm=>keep _ (j e he m hm)⟩,_,rfl⟩
  ·have:=nW d (c9 (r.take i)) (.ref p);lia
  ·by_cases c:m<i
   ·exact keep _ (g m c)
   ·obtain rfl:m=i:=by lia
    refine⟨p,_,?_,S⟩;rw[ie,aaa rfl]
 ·rintro σ H3 ⟨v,d1,d2,⟨d,d3,av,g,j⟩,_⟩;refine k _ ⟨v _ _ D F G o,⟨_,_,d,d1,d2,d3,?_,?_,by lia,?_⟩,ne⟩ v
  ·have:=nW k1 (.inl sg) (.ref q);lia
  ·have:=nW k2 (c9 r) (.int sg);lia
  ·refine⟨λe he=>?_,λn' Y=>?_,λe he=>?_,λr' W=>?_,λe he m hm=>?_⟩
   ·rcases Yx.mp he with he|he
    ·rw[ie,on (λz=>(new e he).1 (Sum.inl.inj z))];obtain⟨q',x,y⟩:=R.a e he;exact⟨q',x,tb.tup y v⟩
    ·rw[YH.mp he,ie,aaa rfl];exact⟨q,rfl,tb.tup hq v⟩
   ·rw[ie,on (λz=>Y (sg,r) (by simp) (Sum.inl.inj z).symm)];exact R.a' n' λe he=>Y e (by simp[he])
   ·rcases Yx.mp he with he|he
    ·rw[ie,on (λz=>(new e he).2 (Eg z))];exact R.b e he
    ·rw[YH.mp he,ie,aaa rfl]
   ·rw[ie,on (λz=>W (sg,r) (by simp) (Eg z).symm)];exact R.b' r' λe he=>W e (by simp[he])
   ·rcases Yx.mp he with he|he
    ·exact j e he m hm
    ·rw[YH.mp he]at hm ⊢;exact g m (by dsimp only at hm;lia)
def Cl(t:Adr):Sp:=λvs H Q _=>∃(a dx p:Addr) (ps:List Addr) (b:List (Int × f6)),vs=[.ref a,.ref p]/\H a=some (.ins t.cb dx [])/\H p=some (.lst (ps.map V.ref))/\jb H ps b/\Es b /\
 ∀f H',Kp a H H'->Tt t H' a f b 1000->Q .non H'
def Tt.up{H:Hp}{a:Addr}{f:Ft}{b:List (Int × f6)}{n m:Nat}(h:Tt t H a f b n)(hm:n<=m):Tt t H a f b m:=by
 obtain⟨o,⟨k1,k2,k3,d,e,g,l1,i,j,c⟩,ne⟩:=h;exact⟨o,⟨k1,k2,k3,d,e,g,by lia,by lia,by lia,c⟩,ne⟩
def NB (T:Txt w K mg t):bH P w K mg base bO 6 t.sX t.re ["self", "rows"] (Cl t):=by
 refine T.Wy.okQ CI (λvs H Q E h=>by obtain⟨a,dx,p,ps,y,rfl,_⟩:=h;rfl) λ_ _ _ _ H vs Q E hr h=>?_;obtain⟨a,dx,p,ps,y,rfl,F,W,en,ok,kq⟩:=h;have hu:=hr.units;refine⟨_,(af (ck (aD (Qv (K:=K) T) hr (ab (aa 1) ad)))
  (af (bQ (K:=K) rfl (aa 0) De)
  (af (bQ (K:=K) rfl (aa 0) Dd)
  (af (bQ (K:=K) rfl (aa 0) Dd)
  (ag (cq PassesOwn.never rfl (c8 (K:=K) rfl (aa 1)) (bi (i:=2) CI.nd rfl (.inl rfl)) (ag (ck (cM (QK (K:=K) T) hr (aa 0) (ab (aE (Yc K) (aa 2) aj (λ_ _=>rfl)) (ab (eV (zA (K:=K) rfl) T.n_tuple a0p (ab (aE (Yc K) (aa 2) aj (λ_ _=>rfl)) ad)) ad))))))))))),?_⟩
 refine⟨p,ps,y,rfl,W,en,ok,λH1 s1=>?_⟩;refine λd1 H2 k=>?_;refine⟨a,_,dx,_,rfl,k.sm _ _ (s1 _ _ F),T.eG,T.qv,Yn Zr (by decide),?_⟩;obtain⟨s,U⟩:∃s,s=upd H2 a (HO.ins t.cb dx (bZ "row_by_sign" (.ref d1) [])):=⟨_,rfl⟩;have a3:s a=some (.ins t.cb dx [("row_by_sign",.ref d1)]):=by rw[U,aJ];rfl
 have k3:Kp a H2 s:=by rw[U];exact Kp.upd
 rw[<- U];clear U;refine λd2 H4 B=>?_;refine⟨a,_,dx,_,rfl,B.sm _ _ a3,T.eG,T.va,Yn (Yu 1) (by decide),?_⟩;obtain⟨g,S⟩:∃g,g=upd H4 a (HO.ins t.cb dx (bZ "sign_by_row" (.ref d2) [("row_by_sign",.ref d1)])):=⟨_,rfl⟩;have a5:g a=some (.ins t.cb dx [("row_by_sign",.ref d1),("sign_by_row",.ref d2)]):=by rw[S,aJ];rfl
 have k5:Kp a H4 g:=by rw[S];exact Kp.upd
 rw[<- S];clear S;refine λd3 H6 m=>?_;refine⟨a,_,dx,_,rfl,m.sm _ _ a5,T.eG,T.vd,Yn (Yu 2) (by decide),?_⟩;obtain⟨d,R⟩:∃d,d=upd H6 a (HO.ins t.cb dx (bZ "rest_by_row" (.ref d3) [("row_by_sign",.ref d1),("sign_by_row",.ref d2)])):=⟨_,rfl⟩;have a7:d a=some (.ins t.cb dx [("row_by_sign",.ref d1),("sign_by_row",.ref d2),("rest_by_row",.ref d3)]):=by rw[R,aJ];rfl
 have k7:Kp a H6 d:=by rw[R];exact Kp.upd
 rw[<- R];clear R;have n1:d1≠a:=(aI (s1 _ _ F) k.nw).symm;have n2:d2≠a:=(aI a3 B.nw).symm;have n3:d3≠a:=(aI a5 m.nw).symm;have I:Kp a s g:=(Kp.of B.sm).trans k5;have J:Kp a g d:=(Kp.of m.sm).trans k7;have L:Kp a s d:=I.trans J;have a9:Kp a H1 d:=(Kp.of k.sm).trans (k3.trans L);have a0:Kp a H d:=(Kp.of s1).trans a9;have b2:g d2=some (.dT []):=k5 _ _ n2 B.at_;have a1:d2≠d3:=aI b2 m.nw;have tb:Tt t d a ⟨dx,d1,d2,d3⟩ [] 0:=⟨a7,⟨[],[],[],L _ _ n1 (k3 _ _ n1 k.at_),J _ _ n2 b2,k7 _ _ n3 m.at_,Ym _,Ym _,Ym _,⟨(λe h=>nomatch h),(λn _=>rfl),(λe h=>nomatch h),(λr _=>rfl),(λe h=>nomatch h)⟩⟩,a1⟩;have f1:H d1=none:=s1.free k.nw;have f2:∀c u,H c=some u->c≠a->c≠d2:=λc u e n=>aI (k3 _ _ n (k.sm _ _ (s1 _ _ e))) B.nw;have f3:∀c u,H c=some u->c≠a->c≠d3:=λc u e n=>aI (I _ _ n (k3 _ _ n (k.sm _ _ (s1 _ _ e)))) m.nw;have lx:=en.1;have ay:=ok.l;have f:∀b,eg ⟨dx,d1,d2,d3⟩ d b->Kp a H b:=λb o c u n e=>o c u (aI e f1) (f2 c u e n) (f3 c u e n) (a0 c u n e);have px:∀b,eg ⟨dx,d1,d2,d3⟩ d b->b p=some (.lst (ps.map V.ref)):=λb o=>f b o _ _ (bJ W F (by intro z;cases z)) W;refine⟨p,rfl,⟨_,.of (px d (eg.of (ah.refl _)))⟩,iy (K:=K) (a:=p) (xs:=ps.map V.ref) (λi σ b=>Tt t b a ⟨dx,d1,d2,d3⟩ (y.take i) (i*9)/\eg ⟨dx,d1,d2,d3⟩ d b/\∃v2,σ=[some (.ref a),some (.ref p),v2]) ⟨tb.up (by lia),eg.of (ah.refl _),_,rfl⟩ (λi σ b _ z=>.of (px b z.2.1)) ?_ ?_⟩
 ·rintro i x σ H8 hx ⟨N,O,v2,rfl⟩;obtain⟨pe,M,rfl⟩:=uN hx;obtain⟨e,he,⟨q,G,C⟩,l1,l6⟩:=en.right M;have D:=f _ O _ _ (bJ G F (by intro z;cases z)) G;have a6:=f _ O _ _ (bJ C F (by intro z;cases z)) C;have hi:i<ps.length:=(Yr.mp M).1;refine⟨a,dx,_,rfl,N.o,rfl,?_⟩;refine⟨_,_,.inr (.of D),ba (j:=0) rfl,?_⟩;refine⟨_,_,.inr (.of D),ba (j:=1) rfl,?_⟩;refine⟨_,.of a6,λpt H9 g9=>?_⟩;refine⟨a,⟨dx,d1,d2,d3⟩,pt,i*9,e.1,e.2,y.take i,rfl,N.mono g9.sm,g9.at_,l6,by lia,λe' Y=>?_,λHA tA oA=>?_⟩
  ·obtain⟨j,hj,rfl⟩:=a0o.mp Y;obtain⟨a2,e2⟩:=Yr.mp he;rw[Yp]at hj;have v:=Z5.mp ok.pw j i (by lia) a2 (by lia);rw[e2]at v;rw[List.getElem_take];unfold fJ cP at v;refine⟨λz=>?_,λz=>?_⟩
   ·rw[aad z]at v;cases v
   ·rw[z]at v;simp at v
  ·have et:y.take (i+1)=y.take i++[(e.1,e.2)]:=de he;rw[et];exact⟨tA.up (by lia),O.trans ((eg.of g9.sm).trans oA),_,rfl⟩
 ·rintro σ H8 ⟨t8,O,_⟩;rw[Yl,lx,Yy]at t8;exact kq _ _ (f _ O) (t8.up (by lia))
def PM (T:Txt w K mg t):gg P w K mg base "TableTongue" t.cb 6 t.sX t.re ["self", "rows"] [] (Cl t):=⟨T.Rk,T.OC,⟨[],T.Vi,.nil⟩,NB T⟩
def Gm(a:List (Int × f6))(row:f6):Prop:=∃e∈a,∃m,m<=e.2.length/\row=e.2.take m
def Cf(t:Adr):Sp:=λvs H Q _=>∃(a:Addr) (f:Ft) (b:List (Int × f6)) (q:Addr) (row:f6) (g:Int),vs=[.ref a,.ref q,.int g]/\Tt t H a f b 1000/\Es b/\H q=some (.lst (row.map V.int)) /\
 ((∀e∈b,e.2≠row)->∀H',ah H H'->Q .non H')/\(∀e∈b,e.2=row->∀p H',ah H H'->H' p=some (.tup [.int e.1,.int g])->Q (.ref p) H')
def Nr (T:Txt w K mg t):bH P w K mg base bO 2 t.sU t.ot ["self", "row", "page"] (Cf t):=by
 refine T.Ww.okQ CH (λvs H Q E h=>by obtain⟨o,f,p,q,row,g,rfl,_⟩:=h;rfl) λ_ _ _ _ H vs Q E hr h=>?_;obtain⟨a,f,p,q,row,g,rfl,v,ok,C,y,x⟩:=h;have z:=hr.units;refine⟨_,(af (aP (i:=3) CH.nd rfl (.inl rfl) (Dh z (aX (K:=K) rfl (aa 0)) (eV (zA (K:=K) rfl) T.n_tuple a0p (ab (aa 1) ad))))
  (ag (am (gw (aQ hE (aa 3) ce (aS _)) ce (cm (ab (aa 3) (ab (aa 2) ad))))))),?_⟩
 obtain⟨o,⟨k1,k2,k3,F,m,D,_,_,_,k⟩,ne⟩:=id v;refine⟨a,_,f.dx,_,_,rfl,o,T.eG,T.va,rfl,?_⟩;refine⟨f.d2,rfl,.inr ⟨_,.inl m⟩,?_⟩;refine⟨_,.of C,λG B j=>?_⟩;have n:=j.at_;rw[qG]at n;refine⟨_,cK.t (j.sm _ _ m) n,?_⟩;by_cases c:∀e∈p,e.2≠row
 ·rw[k.b' row c];exact y c B j.sm
 ·obtain⟨e,he⟩:=Classical.not_forall.mp c;obtain⟨hm,d⟩:=Classical.not_imp.mp he;have d:e.2=row:=Classical.not_not.mp d;have r:=k.b e hm;rw[d]at r;rw[r];exact⟨sz rfl,λs u l=>x e hm d s u (j.sm.trans l.sm) l.at_⟩
def QD (T:Txt w K mg t):dR P w K mg base t.cb "whole" 2 t.sU t.ot ["self", "row", "page"] [] (Cf t) :=
 ⟨T.eG,T.N2,⟨_,T.Vg,.nil⟩,Nr T⟩
def Co(t:Adr):Sp:=λvs H Q _=>∃(a:Addr) (f:Ft) (b:List (Int × f6)) (q:Addr) (row:f6) (g:Int),vs=[.ref a,.ref q,.int g]/\Tt t H a f b 1000/\H q=some (.lst (row.map V.int))/\Gm b row /\
 ∀p H',ah H H'->Q (.ref p) H'
def NE (T:Txt w K mg t):bH P w K mg base bO 3 t.sY t.oB ["self", "row", "page"] (Co t):=by
 refine T.Wz.okQ CJ (λvs H Q E h=>by obtain⟨o,f,x,q,row,g,rfl,_⟩:=h;rfl) λ_ _ _ _ H vs Q E hr h=>?_;obtain⟨a,f,x,q,row,g,rfl,n,z,⟨e,he,m,hm,rfl⟩,k⟩:=h;have y:=hr.units;refine⟨_,(af (aP (i:=3) CJ.nd rfl (.inl rfl) (Dh y (aX (K:=K) rfl (aa 0)) (eV (zA (K:=K) rfl) T.n_tuple a0p (ab (aa 1) ad))))
  (ag (am (gw (aQ hE (aa 3) ce (aS _)) ce (eV (Ye K) T.n_list Y4 (ab (aa 3) ad)))))),?_⟩
 obtain⟨o,⟨k1,k2,k3,C,D,l,_,_,_,u⟩,ne⟩:=id n;refine⟨a,_,f.dx,_,_,rfl,o,T.eG,T.vd,rfl,?_⟩;refine⟨f.d3,rfl,.inr ⟨_,.inl l⟩,?_⟩;refine⟨_,.of z,λF B b=>?_⟩;have j:=b.at_;rw[qG]at j;refine⟨_,cK.t (b.sm _ _ l) j,?_⟩;obtain⟨G,ys,p,d⟩:=u.c e he m hm;rw[p];exact⟨_,.inr (.of (b.sm _ _ d)),λs v r=>k s v (b.sm.trans r.sm)⟩
def QJ (T:Txt w K mg t):dR P w K mg base t.cb "fill" 3 t.sY t.oB ["self", "row", "page"] [] (Co t) :=
 ⟨T.eG,T.N4,⟨_,T.Vj,.nil⟩,NE T⟩
def pW(t:Adr):Sp:=λvs H Q _=>∃(a:Addr) (f:Ft) (b:List (Int × f6)) (e:Int × f6) (g:Int),vs=[.ref a,.int e.1,.int g]/\Tt t H a f b 1000/\Es b/\e∈b /\
 ∀p q H',ah H H'->H q=none->H' q=some (.lst (e.2.map V.int))->H' p=some (.tup [.ref q,.int g])->Q (.ref p) H'
def Nw (T:Txt w K mg t):bH P w K mg base bO 4 t.sV t.oz ["self", "sign", "page"] (pW t):=by
 refine T.Wx.okQ KZ (λvs H Q E h=>by obtain⟨o,f,u,e,g,rfl,_⟩:=h;rfl) λ_ _ _ _ H vs Q E hr h=>?_;obtain⟨a,f,u,e,g,rfl,m,ok,he,k⟩:=h;have l:=hr.units;refine⟨_,(af (aL (dG (fV (eS (dD (aD (jx (K:=K) T) hr (ab (aa 1) ad)))) (fU (aQ (E5 l) (aa 1) (aX (K:=K) rfl (aa 0)) (by with_unfolding_all rfl))))) (ag eU) aN)
  (ag (am (cm (ab (eV (Ye K) T.n_list Y4 (ab (uS l (aX (K:=K) rfl (aa 0)) (aa 1)) ad)) (ab (aa 2) ad)))))),?_⟩
 obtain⟨o,⟨k1,k2,k3,j,y,B,_,_,_,p⟩,ne⟩:=id m;obtain⟨q,i,v⟩:=p.a e he;have c:dv (.int e.1)=true:=(ig _).mpr (ok.sg e he).1;refine⟨_,rfl,.int _,?_⟩;refine ao (λz=>aab (show (!dv (.int e.1))=true from z) (by rw[c];decide)) (λ_=>?_);refine⟨a,_,f.dx,_,_,rfl,o,T.eG,T.qv,rfl,?_⟩;refine⟨f.d1,_,rfl,cK.k (k:=.inl e.1) j,?_⟩;refine ao (λz=>aab (show (!(bA k1 (.inl e.1)).isSome)=true from z) (by rw[i];simp)) (λ_=>?_);refine⟨a,_,f.dx,_,_,rfl,o,T.eG,T.qv,rfl,?_⟩;refine⟨f.d1,_,rfl,by have:=cK.k (k:=.inl e.1) j;rw[i]at this;exact this,?_⟩;refine⟨_,.inr (.of v),λs x b=>?_⟩;refine⟨sz rfl,λn r d=>?_⟩;exact k n s r (b.sm.trans d.sm) b.nw (d.sm _ _ b.at_) d.at_
def EL (T:Txt w K mg t):dR P w K mg base t.cb "spell" 4 t.sV t.oz ["self", "sign", "page"] [] (pW t) :=
 ⟨T.eG,T.N3,⟨_,T.Vh,.nil⟩,Nw T⟩
inductive Kt where
 | ld
 | pr (h:Bool)
 | sh (f:Fp) (ns ms:f6)
 | tb (f:Ft) (es:List (Int × f6))
 | br
def TN(t:Adr)(H:Hp)(o:Addr):Kt->Prop
 | .ld=>∃dx,H o=some (.ins t.dO dx [])
 | .pr h=>Po t H o h
 | .sh f ns ms=>Tg t H o f ns ms
 | .tb f es=>Tt t H o f es 1000/\Es es
 | .br=>False
def TN.mono{H a:Hp}{o:Addr}{D:Kt}(h:TN t H o D)(s:ah H a):TN t a o D:=by
 cases D with
 | ld=>obtain⟨dx,h⟩:=h;exact⟨dx,s _ _ h⟩
 | pr b=>exact Po.mono h s
 | sh f ns ms=>exact Tg.mono h s
 | tb f es=>exact⟨Tt.mono h.1 s,h.2⟩
 | br=>exact h.elim
def um:Kt->Int->Int->Option (f6 × Int)
 | .ld,g,n=>some (row n,g)
 | .pr h,g,n=>some (bN h n,g)
 | .sh _ ns ms,g,n=>fi (av g ns ms) (av g ms ns) g (.int n)
 | .tb _ es,g,n=>(es.find? λe=>decide (e.1=n)).map λe=>(e.2,g)
 | .br,_,_=>none
def aZ(D:Kt)(g n:Int):f6 × Int:=(um D g n).getD ([],g)
def bW:Kt->Int->Prop
 | .ld,n=>Sg n
 | .pr _,n=>Sg n
 | .sh _ ns ms,n=>n∈ns\/n∈ms
 | .tb _ es,n=>∃e∈es,e.1=n
 | .br,_=>False
def dQ:Kt->Int->Prop
 | .sh _ _ _,g=>cY g
 | _,g=>g=0
def I0{ns a:f6}{g n:Int}(two:cY g)(h:n∈ns\/n∈a):∃r g',fi (av g ns a) (av g a ns) g (.int n)=some (r,g')/\cY g'/\r.length<=2:=by
 have b:n∈av g ns a\/n∈av g a ns:=by
  rcases two with rfl|rfl
  ·exact h
  ·exact h.symm
 unfold fi;dsimp only;cases e:bX (av g ns a) n with
 | some i=>exact⟨_,_,rfl,two,by show (1:Nat)<=2;decide⟩
 | none =>
  dsimp only;have c:=gx.mp e;rcases b with b|b
  ·exact aab b c
  ·obtain⟨i,d,_⟩:=nZ b;rw[d];exact⟨_,_,rfl,two.flip,by show (2:Nat)<=2;decide⟩
def mP{a:List (Int × f6)}{n:Int}(h:∃e∈a,e.1=n):∃e∈a,e.1=n/\(a.find? λe=>decide (e.1=n))=some e:=by
 cases e:a.find? λe=>decide (e.1=n) with
 | none =>
  obtain⟨f,b,rfl⟩:=h;have:=List.find?_eq_none.mp e f b;simp at this
 | some f =>
  exact⟨f,List.mem_of_find?_eq_some e,by simpa using List.find?_some e,rfl⟩
def i8:Kt->Prop
 | .tb _ es=>Es es
 | _=>True
def TN.ok{H:Hp}{o:Addr}{D:Kt}(h:TN t H o D):i8 D:=by
 cases D with
 | tb f es=>exact h.2
 | _=>exact trivial
def iI{D:Kt}{g n:Int}(tn:i8 D)(c:dQ D g)(d:bW D n):∃r g',um D g n=some (r,g')/\aZ D g n=(r,g')/\dQ D g'/\r.length<=6:=by
 have key:∃r g',um D g n=some (r,g')/\dQ D g'/\r.length<=6:=by
  cases D with
  | ld=>exact⟨_,_,rfl,c,YK (uK n).2 (by decide)⟩
  | pr b=>exact⟨_,_,rfl,c,YK (qj b n) (by decide)⟩
  | sh f ns ms =>
   obtain⟨r,g',e,two,l⟩:=I0 c d;exact⟨r,g',e,two,by lia⟩
  | tb f es =>
   obtain⟨e,he,_,h⟩:=mP d;exact⟨e.2,g,by show Option.map _ _=_;rw[h];rfl,c,(Es.sg tn e he).2.2.1⟩
  | br=>exact d.elim
 obtain⟨r,g',e,a,b⟩:=key;exact⟨r,g',e,by unfold aZ;rw[e];rfl,a,b⟩
def ap(D:Kt)(g:Int)(ts:f6):f6 × Int:=ts.foldl (λa n=>(a.1++(aZ D a.2 n).1,(aZ D a.2 n).2)) ([],g)
def jd(D:Kt)(g:Int)(ts:f6)(n:Int):ap D g (ts++[n])=((ap D g ts).1++(aZ D (ap D g ts).2 n).1,(aZ D (ap D g ts).2 n).2):=by
 unfold ap;rw[a1g]
 rfl
theorem gk{D:Kt}{g:Int}(tn:i8 D)(c:dQ D g):∀(m:Nat) (ts:f6),(∀i n,i<m->ts[i]? = some n->bW D n)->dQ D (ap D g (ts.take m)).2/\(ap D g (ts.take m)).1.length<=6*m
 | 0,ts,_=>⟨c,Ym _⟩
 | m+1,ts,h=>by
  obtain⟨a,b⟩:=gk tn c m ts λi n f=>h i n (by lia);cases e:ts[m]? with
  | none =>
   rw[YW (by have:=a2p.mp e;lia)];rw[YW (a2p.mp e)]at a b;exact⟨a,by lia⟩
  | some n =>
   rw[de e,jd];obtain⟨r,g',_,d,pg,l⟩:=iI tn a (h m n (by lia) e);rw[d];exact⟨pg,by rw[Yo];dsimp only;lia⟩
def jD{D:Kt}{ts:f6}(h:∀n∈ts,bW D n)(m:Nat):∀i n,i<m->ts[i]? = some n->bW D n:=λi n _ e=>h n (YD e)
def Ce{ns a:f6}{g n:Int}(two:cY g)(h:n∈ns\/n∈a):∃r g',fi (av g ns a) (av g a ns) g (.int n)=some (r,g')/\cY g'/\((∃b:Int,r=[b]/\0<=b/\(av g ns a)[b.toNat]? = some n/\g'=g)\/(∃c:Int,r=[254+(1-g),c]/\0<=c/\(av g a ns)[c.toNat]? = some n/\n∉av g ns a/\g'=1-g)):=by
 have d:n∈av g ns a\/n∈av g a ns:=by
  rcases two with rfl|rfl
  ·exact h
  ·exact h.symm
 unfold fi;dsimp only;cases e:bX (av g ns a) n with
 | some i=>exact⟨_,_,rfl,two,.inl ⟨(i:Int),rfl,by lia,by simpa using (mN e).1,rfl⟩⟩
 | none =>
  dsimp only;have f:=gx.mp e;rcases d with d|d
  ·exact aab d f
  ·obtain⟨i,j,_⟩:=nZ d;rw[j];exact⟨_,_,rfl,two.flip,.inr ⟨(i:Int),rfl,by lia,by simpa using (mN j).1,f,rfl⟩⟩
def Cc{f:Fp}{ns a:f6}{g n:Int}{r:f6}{g':Int}(e:fi (av g ns a) (av g a ns) g (.int n)=some (r,g')):aZ (.sh f ns a) g n=(r,g'):=by
 show (fi (av g ns a) (av g a ns) g (.int n)).getD ([],g)=_;rw[e];rfl
def DE:PyData.strOk "sign" = true:=by decide +kernel
def uY:PyData.strOk "more" = true:=by decide +kernel
def NA:PyData.strOk "none" = true:=by decide +kernel
def jP{x:Str}(h:PyData.strOk x=true):SeqAt.shaped (.str x)=true:=by
 simpa [SeqAt.shaped,PyData.canLay0,PyData.depth] using h
def mK(D:Kt)(g n:Int)(m:Nat):List V:=if m=(aZ D g n).1.length then [.str "sign",.int n,.int (aZ D g n).2] else [.str "more",.non,.int g]
def O6{ns a:f6}{f:Fp}{g n:Int}{m:Nat}(two:cY g)(j:n∈ns\/n∈a)(k0:dj ns)(k1:dj a)(o:1<=m)(i:m<=(aZ (.sh f ns a) g n).1.length):Bi g ((aZ (.sh f ns a) g n).1.take m)/\fX (av g ns a) (av g a ns) g ((aZ (.sh f ns a) g n).1.take m)=mK (.sh f ns a) g n m:=by
 obtain⟨r,g',e,_,hr⟩:=Ce two j;have k:aZ (.sh f ns a) g n=(r,g'):=Cc e;unfold mK;rw[k]at i ⊢;dsimp only at i ⊢;rcases hr with ⟨b,rfl,h,hb,rfl⟩|⟨c,rfl,c0,hc,hnp,rfl⟩
 ·obtain rfl:m=1:=by simp at i;lia
  refine⟨.inl ⟨b,rfl,h⟩,?_⟩;show fX _ _ _ [b]=_;rw[Eb h,hb]
  rfl
 ·have d:c∈hU (av g a ns) (av g ns a):=(vg c0).mpr ⟨n,hc,hnp⟩;have h:(0:Int)<=254+(1-g):=by rcases two with rfl|rfl<;>decide
  have l:m<=2:=i;rcases (show m=1\/m=2 by lia) with rfl|rfl
  ·refine⟨.inl ⟨_,rfl,h⟩,?_⟩;show fX _ _ _ [254+(1-g)]=_;have hl:=(uv (g:=g) k0 k1).2.2;rw[Eb h,Zb (by rcases two with rfl|rfl<;>lia)];dsimp only;rw[aaa ⟨rfl,λz=>by rw[z]at d;cases d⟩]
   rfl
  ·refine⟨.inr ⟨c,rfl,c0⟩,?_⟩;show fX _ _ _ [254+(1-g),c]=_;rw[O8 c0,aaa d,YZ,hc]
   rfl
def IK{b:List (Int × f6)}(ok:Es b){e a:Int × f6}(he:e∈b)(c:a∈b){m:Nat}(hm:m<=a.2.length)(h:e.2=a.2.take m):e=a/\m=a.2.length:=by
 have le:e.2.length=m:=by rw[h,Yp];lia
 have d:fJ e a=true:=by
  unfold fJ cP;have:a.2.take e.2.length=e.2:=by rw[le,h]
  simp[this]
 rcases ok.two he c with rfl|z
 ·exact⟨rfl,le.symm⟩
 ·rw[z]at d;cases d
def tV:Kt->Nat->Prop
 | .pr _,m=>m%2=0
 | _,_=>True
def Ea{n:Int}(h:Sg n){m:Nat}(f:1<=m)(g:m<=(row n).length):(m=(row n).length/\hW ((row n).take m)/\jB ((row n).take m)=n)\/(m<(row n).length/\¬hW ((row n).take m)/\tY ((row n).take m)):=by
 obtain⟨a,b⟩:=LA h;rcases a0q m (row n).length with z|z
 ·obtain⟨c,d⟩:=Hu a f z;exact .inr ⟨z,d,c⟩
 ·have e:m=(row n).length:=by lia
  subst e;rw[Yy];exact .inl ⟨rfl,a,b⟩
def D9(h:Bool){n:Int}(hs:Sg n){m:Nat}(g:1<=m)(d:m<=(bN h n).length)(f:m%2=0):(m=(bN h n).length/\fP h ((bN h n).take m)=some n)\/(m<(bN h n).length/\fP h ((bN h n).take m)=none/\oq h ((bN h n).take m)≠none):=by
 have l:=qi h n;rcases a0q m (bN h n).length with z|z
 ·have c:¬n<65536:=λc=>by rw[aaa c]at l;lia
  rw[on c]at l;have e:m=2:=by lia
  obtain⟨u,b,a,u2⟩:=Mt h hs c;rw[e,b];exact .inr ⟨by lia,P1 h a u2,P2 h a u2⟩
 ·have e:m=(bN h n).length:=by lia
  rw[e,Yy];exact .inl ⟨rfl,Hw h hs⟩
def uq:Sp:=λ_ _ _ _=>False
def IJ{r:f6}(h:Byts r)(m:Nat):Byts (r.take m):=λx hx=>h x (Zf hx)
def nk(t:Adr):Sp:=λvs H Q _=>∃(o q:Addr) (D:Kt) (n g:Int) (m:Nat),vs=[.ref o,.ref q,.int g]/\TN t H o D/\dQ D g/\bW D n/\H q=some (.lst (((aZ D g n).1.take m).map V.int))/\1<=m/\m<=(aZ D g n).1.length/\tV D m /\
 ∀p H',ah H H'->H' p=some (.tup (mK D g n m))->Q (.ref p) H'
def qo (T:Txt w K mg t):bH P w K mg base bO 7 t.hV t.iW ["self", "begun", "page"] (nk t):=by
 refine T.Wv.okQ CG (λvs H Q E h=>by obtain⟨o,q,D,n,g,m,rfl,_⟩:=h;rfl) λ_ _ _ _ H vs Q E hr h=>?_;obtain⟨o,q,D,n,g,m,rfl,tn,pg,u,b,F,c,ev,k⟩:=h;have hu:=hr.units;refine⟨_,(af (aP (i:=3) CG.nd rfl (.inl rfl) (dq (cL (Q9 (K:=K) T) hr (aa 0) (ab (aa 1) (ab (aa 2) ad))) (dq (cL (EU (K:=K) T) hr (aa 0) (ab (aa 1) (ab (aa 2) ad))) (dq (cL (EM (K:=K) T) hr (aa 0) (ab (aa 1) (ab (aa 2) ad))) (cL (QD (K:=K) T) hr (aa 0) (ab (aa 1) (ab (aa 2) ad)))))))
  (af (aL (aQ vF (aa 3) ce (aS _)) (ag (am (cm (ab dC (ab (aE (Yc K) (aa 3) aj (λ_ _=>rfl)) (ab (aE (Yc K) (aa 3) aj (λ_ _=>rfl)) ad)))))) aN)
  (af (aL (aQ hE (dq (cL (Rc (K:=K) T) hr (aa 0) (ab (aa 1) (ab (aa 2) ad))) (dq (cL (Q4 (K:=K) T) hr (aa 0) (ab (aa 1) (ab (aa 2) ad))) (dq (cL (QN (K:=K) T) hr (aa 0) (ab (aa 1) (ab (aa 2) ad))) (cL (QJ (K:=K) T) hr (aa 0) (ab (aa 1) (ab (aa 2) ad)))))) ce (aS _)) (ag (am (cm (ab dC (ab ce (ab (aa 2) ad)))))) aN)
  (ag (am (cm (ab dC (ab ce (ab (aa 2) ad))))))))),?_⟩
 cases D with
 | br=>exact u.elim
 | ld =>
  obtain rfl:g=0:=pg;obtain⟨dx,M⟩:=id tn;have b:H q=some (.lst (((row n).take m).map V.int)):=b;have c:m<=(row n).length:=c;have rl:=uK n;have tl:((row n).take m).length<=1000:=by rw[Yp];lia
  have G:∀p H',ah H H'->H' p=some (.tup (if m=(row n).length then [.str "sign",.int n,.int 0] else [.str "more",.non,.int 0]))->Q (.ref p) H':=k;refine .inl ⟨o,dx,_,rfl,M,rfl,?_⟩;refine⟨o,q,_,rfl,.of b,tl,λW p v d=>?_,λnw v s1=>?_⟩
  ·rcases Ea u F c with ⟨e,_,ec⟩|⟨_,nw,_⟩
   ·rw[ec]at d;refine⟨_,_,.inr d.tup,ba (j:=0) rfl,?_⟩;refine⟨_,_,.inr d.tup,ba (j:=1) rfl,?_⟩;exact⟨sz rfl,λl r a=>G l r (d.sm.trans a.sm) (by rw[aaa e];exact a.at_)⟩
   ·exact aab W nw
  ·rcases Ea u F c with ⟨_,W,_⟩|⟨e,_,bg⟩
   ·exact aab W nw
   ·refine .inl ⟨o,dx,_,rfl,s1 _ _ M,rfl,?_⟩;refine⟨o,q,_,rfl,.of (s1 _ _ b),tl,λ_ l r a=>?_,λnb=>aab bg nb⟩;exact⟨sz rfl,λC y s=>G C y (s1.trans (a.sm.trans s.sm)) (by rw[on (by lia)];exact s.at_)⟩
 | pr h =>
  obtain rfl:g=0:=pg;have po:Po t H o h:=tn;obtain⟨dx,M⟩:=id po;have b:H q=some (.lst (((bN h n).take m).map V.int)):=b;have c:m<=(bN h n).length:=c;have rl:=qj h n;have tl:((bN h n).take m).length<=900:=by rw[Yp];lia
  have I:=IJ (Dl h u) m
  have G:∀p H',ah H H'->H' p=some (.tup (if m=(bN h n).length then [.str "sign",.int n,.int 0] else [.str "more",.non,.int 0]))->Q (.ref p) H':=k;refine .inr (.inl ⟨o,dx,_,rfl,M,rfl,?_⟩);refine⟨o,q,h,_,rfl,po,.of b,I,by lia,λn' x p v d=>?_,λx v s1=>?_⟩
  ·rcases D9 h u F c ev with ⟨e,ec⟩|⟨_,nw,_⟩
   ·rw[ec]at x;cases x;refine⟨_,_,.inr d.tup,ba (j:=0) rfl,?_⟩;refine⟨_,_,.inr d.tup,ba (j:=1) rfl,?_⟩;exact⟨sz rfl,λl r a=>G l r (d.sm.trans a.sm) (by rw[aaa e];exact a.at_)⟩
   ·rw[nw]at x;cases x
  ·rcases D9 h u F c ev with ⟨_,ec⟩|⟨e,_,nf⟩
   ·rw[ec]at x;cases x
   ·refine .inr (.inl ⟨o,dx,_,rfl,s1 _ _ M,rfl,?_⟩);refine⟨o,q,h,_,rfl,po.mono s1,.of (s1 _ _ b),I,tl,λf ef l r a=>?_,λef=>aab ef nf⟩;exact⟨sz rfl,λC y s=>G C y (s1.trans (a.sm.trans s.sm)) (by rw[on (by lia)];exact s.at_)⟩
 | sh f ns ms =>
  have two:cY g:=pg;have tg:Tg t H o f ns ms:=tn;obtain⟨ok,el⟩:=O6 (f:=f) two u tg.k0 tg.k1 F c;rw[<- el]at k;refine .inr (.inr (.inl ⟨o,f.dx,_,rfl,tg.o,rfl,?_⟩));refine⟨o,f,ns,ms,q,_,g,rfl,two,tg,b,ok,λhw=>?_,λn g' hw p v d=>?_⟩
  ·refine .inr (.inr (.inl ⟨o,f.dx,_,rfl,tg.o,rfl,?_⟩));refine⟨o,f,ns,ms,q,_,g,rfl,two,tg,b,ok,λU v s1=>?_,λU p1 r2 v s1 _ _=>?_⟩
   ·refine⟨sz rfl,λl r a=>k l r (s1.trans a.sm) ?_⟩;unfold fX;rw[hw,U];exact a.at_
   ·refine⟨sz rfl,λl r a=>k l r (s1.trans a.sm) ?_⟩;unfold fX;rw[hw,U];exact a.at_
  ·refine⟨_,_,.inr d.tup,ba (j:=0) rfl,?_⟩;refine⟨_,_,.inr d.tup,ba (j:=1) rfl,?_⟩;refine⟨sz rfl,λl r a=>k l r (d.sm.trans a.sm) ?_⟩;unfold fX;rw[hw];exact a.at_
 | tb f es =>
  obtain rfl:g=0:=pg;obtain⟨N,ok⟩:=id tn;obtain⟨L,B,Y,a0⟩:=mP u;have R:aZ (.tb f es) 0 n=(L.2,0):=by
   show (Option.map _ _).getD _=_;rw[a0];rfl
  unfold mK at k;rw[R]at b c k;dsimp only at b c k;have rt:Gm es (L.2.take m):=⟨L,B,m,c,rfl⟩;refine .inr (.inr (.inr ⟨o,f.dx,_,rfl,N.o,rfl,?_⟩));refine⟨o,f,es,q,_,0,rfl,N,ok,b,λO v s1=>?_,λe he J p v s1 S=>?_⟩
  ·refine .inr (.inr (.inr ⟨o,f.dx,_,rfl,(N.mono s1).o,rfl,?_⟩));refine⟨o,f,es,q,_,0,rfl,N.mono s1,s1 _ _ b,rt,λl r s2=>?_⟩;have ne:¬m=L.2.length:=λz=>O L B (by rw[z,Yy]);rw[on ne]at k;exact⟨sz rfl,λC y s=>k C y (s1.trans (s2.trans s.sm)) s.at_⟩
  ·obtain⟨ee,em⟩:=IK ok he B c J;rw[aaa em]at k;rw[ee,Y]at S;refine⟨_,_,.inr (.of S),ba (j:=0) rfl,?_⟩;refine⟨_,_,.inr (.of S),ba (j:=1) rfl,?_⟩;exact⟨sz rfl,λC y s=>k C y (s1.trans s.sm) s.at_⟩
def Rb (T:Txt w K mg t):dR P w K mg base t.dO "look" 7 t.hV t.iW ["self", "begun", "page"] [] (nk t):=⟨T.oX,T.mt_LeadTongue_look,⟨_,T.sT,.nil⟩,qo T⟩
def Q3 (T:Txt w K mg t):dR P w K mg base t.bR "look" 7 t.hV t.iW ["self", "begun", "page"] [] (nk t):=⟨T.gd,T.mt_PairTongue_look,⟨_,T.sT,.nil⟩,qo T⟩
def QM (T:Txt w K mg t):dR P w K mg base t.bV "look" 7 t.hV t.iW ["self", "begun", "page"] [] (nk t):=⟨T.cV,T.mt_ShiftTongue_look,⟨_,T.sT,.nil⟩,qo T⟩
def QH (T:Txt w K mg t):dR P w K mg base t.cb "look" 7 t.hV t.iW ["self", "begun", "page"] [] (nk t):=⟨T.eG,T.mt_TableTongue_look,⟨_,T.sT,.nil⟩,qo T⟩
def jg(u:Int):Sp:=λvs H Q _=>∃o:V,vs=[o]/\Q (.int u) H
def uX (T:Txt w K mg t):bH P w K mg base bO 1 t.i5 t.mQ ["self"] (jg 1):=by
 refine T.Wu.okQ KY (λvs H Q E h=>by obtain⟨o,rfl,_⟩:=h;rfl) λ_ _ _ _ H vs Q E hr h=>?_;obtain⟨o,rfl,k⟩:=h;exact⟨_,(ag (am aj)),k⟩
def Ra (T:Txt w K mg t):cc P w K mg base t.dO "unit" 1 t.i5 t.mQ ["self"] (jg 1):=⟨T.oX,T.mt_LeadTongue_unit,T.zJ,uX T⟩
def QL (T:Txt w K mg t):cc P w K mg base t.bV "unit" 1 t.i5 t.mQ ["self"] (jg 1):=⟨T.cV,T.mt_ShiftTongue_unit,T.zJ,uX T⟩
def QF (T:Txt w K mg t):cc P w K mg base t.cb "unit" 1 t.i5 t.mQ ["self"] (jg 1):=⟨T.eG,T.mt_TableTongue_unit,T.zJ,uX T⟩
def QY (T:Txt w K mg t):cc P w K mg base t.bR "unit" 1 t.A5 t.xx ["self"] (jg 2):=by
 refine⟨T.gd,T.Om,T.VD,T.WU.okQ Ld (λvs H Q E h=>by obtain⟨o,rfl,_⟩:=h;rfl) λ_ _ _ _ H vs Q E hr h=>?_⟩;obtain⟨o,rfl,k⟩:=h;exact⟨_,(ag (am aj)),k⟩
def Kp.free{x b:Addr}{H a:Hp}{o:HO}(k:Kp x H a)(hx:a x=some o)(n:a b=none):H b=none:=by
 cases e:H b with
 | none=>rfl
 | some u =>
  have:=k b u (λz=>by rw[z,hx]at n;cases n) e;rw[n]at this;cases this
abbrev d9(t:Adr)(dx o b mt:Addr)(pl g c:Int)(e:Bool):HO:=.ins t.bY dx [("tongue",.ref o),("place",.int pl),("at_page",.int g),("begun",.ref b),("many",.int c),("met",.ref mt),("ended",.bl e)]
def Cm(t:Adr):Sp:=λvs H Q _=>∃(x dx o:Addr) (pl:Int),vs=[.ref x,.ref o,.int pl]/\H x=some (.ins t.bY dx [])/\∀b mt H',H b=none->H mt=none->b≠mt->Kp x H H'->H' x=some (d9 t dx o b mt pl 0 0 false)->H' b=some (.lst [])->H' mt=some (.lst [])->Q .non H'
def NC (T:Txt w K mg t):bH P w K mg base bO 1 t.tD t.oG ["self", "tongue", "place"] (Cm t):=by
 refine T.WO.okQ La (λvs H Q E h=>by obtain⟨x,dx,o,pl,rfl,_⟩:=h;rfl) λ_ _ _ _ H vs Q E hr h=>?_;obtain⟨x,dx,o,pl,rfl,hx,k⟩:=h;refine⟨_,(af (bQ (K:=K) rfl (aa 0) (aa 1))
  (af (bQ (K:=K) rfl (aa 0) (aa 2))
  (af (bQ (K:=K) rfl (aa 0) aj)
  (af (bQ (K:=K) rfl (aa 0) (aR ad))
  (af (bQ (K:=K) rfl (aa 0) aj)
  (af (bQ (K:=K) rfl (aa 0) (aR ad))
  (ag (bQ (K:=K) rfl (aa 0) dW)))))))),?_⟩
 refine⟨x,_,dx,_,rfl,hx,T.bI,T.im,Yn Zr (by decide),?_⟩;refine⟨x,_,dx,_,rfl,aJ,T.bI,T.NL,Yn (Yu 1) (by decide),?_⟩;refine⟨x,_,dx,_,rfl,aJ,T.bI,T.mH,Yn (Yu 2) (by decide),?_⟩;refine⟨sz rfl,λb j d=>?_⟩;have nb:H b=none:=Kp.free (x:=x) (Kp.trans Kp.upd (Kp.trans Kp.upd Kp.upd)) aJ d.nw;have k1:Kp x H j:=Kp.trans (Kp.trans Kp.upd (Kp.trans Kp.upd Kp.upd)) (Kp.of d.sm);have a:b≠x:=λz=>by rw[z,hx]at nb;cases nb
 have m:=d.sm x _ aJ;refine⟨x,_,dx,_,rfl,m,T.bI,T.io,Yn (Yu 3) (by decide),?_⟩;refine⟨x,_,dx,_,rfl,aJ,T.bI,T.DO,Yn (Yu 4) (by decide),?_⟩;refine⟨sz rfl,λmt i c=>?_⟩;have f:H mt=none:=Kp.free (x:=x) (k1.trans (Kp.trans Kp.upd Kp.upd)) aJ c.nw;have k3:Kp x H i:=Kp.trans (k1.trans (Kp.trans Kp.upd Kp.upd)) (Kp.of c.sm);have n:i b=some (.lst []):=c.sm _ _ (by rw[ay a,ay a];exact d.at_);have g:b≠mt:=aI (by rw[ay a,ay a];exact d.at_) c.nw;have e:mt≠x:=λz=>by rw[z,hx]at f;cases f
 have l:=c.sm x _ aJ;refine⟨x,_,dx,_,rfl,l,T.bI,T.DN,Yn (Yu 5) (by decide),?_⟩;refine⟨x,_,dx,_,rfl,aJ,T.bI,T.js,Yn (Yu 6) (by decide),?_⟩;exact k b mt _ nb f g (k3.trans (Kp.upd.trans Kp.upd)) (by rw[aJ];rfl) (by rw[ay a,ay a];exact n) (by rw[ay e,ay e];exact c.at_)
def Eu (T:Txt w K mg t):gg P w K mg base "Reader" t.bY 1 t.tD t.oG ["self", "tongue", "place"] [.int 0] (Cm t):=⟨T.Ro,T.OG,⟨_,T.Ud,.cons ⟨_,rfl⟩ .nil⟩,NC T⟩
def QR (T:Txt w K mg t):cc P w K mg base t.bY "meet_none" 2 t.tq t.xo ["self"] uq :=
 ⟨T.bI,T.Od,T.Vv,T.WL.okQ K8 (λvs H Q E h=>h.elim) λa A outer s H vs Q E hr h=>h.elim⟩
def QU (T:Txt w K mg t):cc P w K mg base t.bY "meet" 2 t.A3 t.xp ["self", "length", "kind"] uq :=
 ⟨T.bI,T.Oe,T.Vw,T.WM.okQ K9 (λvs H Q E h=>h.elim) λa A outer s H vs Q E hr h=>h.elim⟩
def JO(t:Adr):Sp:=λvs H Q _=>∃(x dx o b mt:Addr) (D:Kt) (n g c pl:Int) (m:Nat),vs=[.ref x]/\H x=some (d9 t dx o b mt pl g c false)/\TN t H o D/\dQ D g/\bW D n/\H b=some (.lst (((aZ D g n).1.take m).map V.int))/\1<=m/\m<=(aZ D g n).1.length/\tV D m /\
 (m<(aZ D g n).1.length->∀q H',ah H H'->H q=none->H' q=some (.lst [])->Q (.ref q) H') /\
 (m=(aZ D g n).1.length->∀q b' H',Kp x H H'->H q=none->H b'=none->q≠b'->H' x=some (d9 t dx o b' mt pl (aZ D g n).2 c false)->H' b'=some (.lst [])->H' q=some (.lst [.int n])->Q (.ref q) H')
def QV (T:Txt w K mg t):cc P w K mg base t.bY "look_at_begun" 8 t.tB t.xq ["self"] (JO t):=by
 refine⟨T.bI,T.Of,T.Vx,T.WN.okQ CL (λvs H Q E h=>by obtain⟨x,dx,o,b,mt,D,n,g,c,pl,m,rfl,_⟩:=h;rfl) λ_ _ _ _ H vs Q E hr h=>?_⟩;obtain⟨x,dx,o,b,mt,D,n,g,c,pl,m,rfl,hx,tn,pg,C,hb,G,J,L,W,V⟩:=h;have U:=hr.units;refine⟨_,(af (aP (i:=1) CL.nd rfl (.inl rfl) (dq (cL (Rb (K:=K) T) hr (aX (K:=K) rfl (aa 0)) (ab (aX (K:=K) rfl (aa 0)) (ab (aX (K:=K) rfl (aa 0)) ad))) (dq (cL (Q3 (K:=K) T) hr (aX (K:=K) rfl (aa 0)) (ab (aX (K:=K) rfl (aa 0)) (ab (aX (K:=K) rfl (aa 0)) ad))) (dq (cL (QM (K:=K) T) hr (aX (K:=K) rfl (aa 0)) (ab (aX (K:=K) rfl (aa 0)) (ab (aX (K:=K) rfl (aa 0)) ad))) (cL (QH (K:=K) T) hr (aX (K:=K) rfl (aa 0)) (ab (aX (K:=K) rfl (aa 0)) (ab (aX (K:=K) rfl (aa 0)) ad)))))))
  (af (aL (aQ (cf (K:=K) rfl U) (aE (Yc K) (aa 1) aj (λ_ _=>rfl)) dC (aS _)) (ag (am (aR ad))) aN)
  (af (aL (aQ (cf (K:=K) rfl U) (aE (Yc K) (aa 1) aj (λ_ _=>rfl)) dC (aS _)) (ag (am (dX (QR (K:=K) T) hr (aa 0)))) aN)
  (af (bQ (K:=K) rfl (aa 0) (aR ad))
  (af (bQ (K:=K) rfl (aa 0) (aE (Yc K) (aa 1) aj (λ_ _=>rfl)))
  (ag (am (aR (ab (aE (Yc K) (aa 1) aj (λ_ _=>rfl)) ad))))))))),?_⟩
 refine iJ (λR y=>∃I,ah H y/\y I=some (.tup (mK D g n m))/\R=[some (.ref x),some (.ref I)]) (λnx l=>?_) ?_
 ·cases D with
  | br=>exact C.elim
  | ld =>
   obtain⟨s,O⟩:=id tn;exact .inl ⟨x,_,dx,_,_,rfl,hx,T.bI,T.im,rfl,o,s,_,rfl,O,rfl,x,_,dx,_,_,rfl,hx,T.bI,T.io,rfl,x,_,dx,_,_,rfl,hx,T.bI,T.mH,rfl,o,b,.ld,n,g,m,rfl,tn,pg,C,hb,G,J,L,λp y v a=>l _ _ ⟨p,v,a,rfl⟩⟩
  | pr h =>
   obtain⟨s,O⟩:=id tn;exact .inr (.inl ⟨x,_,dx,_,_,rfl,hx,T.bI,T.im,rfl,o,s,_,rfl,O,rfl,x,_,dx,_,_,rfl,hx,T.bI,T.io,rfl,x,_,dx,_,_,rfl,hx,T.bI,T.mH,rfl,o,b,.pr h,n,g,m,rfl,tn,pg,C,hb,G,J,L,λp y v a=>l _ _ ⟨p,v,a,rfl⟩⟩)
  | sh f ns ms =>
   exact .inr (.inr (.inl ⟨x,_,dx,_,_,rfl,hx,T.bI,T.im,rfl,o,f.dx,_,rfl,Tg.o tn,rfl,x,_,dx,_,_,rfl,hx,T.bI,T.io,rfl,x,_,dx,_,_,rfl,hx,T.bI,T.mH,rfl,o,b,.sh f ns ms,n,g,m,rfl,tn,pg,C,hb,G,J,L,λp y v a=>l _ _ ⟨p,v,a,rfl⟩⟩))
  | tb f es =>
   exact .inr (.inr (.inr ⟨x,_,dx,_,_,rfl,hx,T.bI,T.im,rfl,o,f.dx,_,rfl,tn.1.o,rfl,x,_,dx,_,_,rfl,hx,T.bI,T.io,rfl,x,_,dx,_,_,rfl,hx,T.bI,T.mH,rfl,o,b,.tb f es,n,g,m,rfl,tn,pg,C,hb,G,J,L,λp y v a=>l _ _ ⟨p,v,a,rfl⟩⟩))
 ·rintro R H1 ⟨I,s1,a,rfl⟩;unfold mK at a;by_cases e:m=(aZ D g n).1.length
  ·rw[aaa e]at a;refine⟨_,_,.inr (.of a),ba (j:=0) rfl,?_⟩;refine⟨_,_,aO.str _,aO.str _,jP DE,jP uY,?_⟩;refine ao (λz=>aab (show PyData.eqv (.str "sign") (.str "more")=true from z) (by decide +kernel)) (λ_=>?_);refine⟨_,_,.inr (.of a),ba (j:=0) rfl,?_⟩;refine⟨_,_,aO.str _,aO.str _,jP DE,jP NA,?_⟩;refine ao (λz=>aab (show PyData.eqv (.str "sign") (.str "none")=true from z) (by decide +kernel)) (λ_=>?_);refine⟨sz rfl,λb' S k=>?_⟩;have M:=s1.trans k.sm;have F:=M _ _ hx;have u:=k.sm _ _ a;have nb:H b'=none:=s1.free k.nw;have r:I≠x:=bJ u F (by intro z;cases z);have d:b'≠x:=λz=>by rw[z,hx]at nb;cases nb
   refine⟨x,_,dx,_,rfl,F,T.bI,T.io,Yn (Yu 7) (by decide),?_⟩;refine⟨_,_,.inr (.of (by rw[ay r];exact u)),ba (j:=2) rfl,?_⟩;refine⟨x,_,dx,_,rfl,aJ,T.bI,T.mH,Yn (Yu 7) (by decide),?_⟩;refine⟨_,_,.inr (.of (by rw[ay r,ay r];exact u)),ba (j:=1) rfl,?_⟩;refine⟨sz rfl,λq Y B=>?_⟩;have N:=B.sm b' _ (by rw[ay d,ay d];exact k.at_);exact V e q b' Y (Kp.trans (Kp.trans (Kp.of M) (Kp.trans Kp.upd Kp.upd)) (Kp.of B.sm)) (Kp.free (x:=x) (Kp.trans (Kp.of M) (Kp.trans Kp.upd Kp.upd)) aJ B.nw) nb (aI (by rw[ay d,ay d];exact k.at_) B.nw).symm (B.sm x _ (by rw[aJ];rfl)) N B.at_
  ·rw[on e]at a;refine⟨_,_,.inr (.of a),ba (j:=0) rfl,?_⟩;refine⟨_,_,aO.str _,aO.str _,jP uY,jP uY,?_⟩;refine ao (λ_=>?_) (λz=>aab (show PyData.eqv (.str "more") (.str "more")=true by decide +kernel) z);exact⟨sz rfl,λq S k=>W (by lia) q S (s1.trans k.sm) (s1.free k.nw) k.at_⟩
theorem t0(D:Kt):∀(ts:f6) (row:f6) (g:Int),ts.foldl (λa n=>(a.1++(aZ D a.2 n).1,(aZ D a.2 n).2)) (row,g)=(row++(ap D g ts).1,(ap D g ts).2)
 | [],row,g=>by simp[ap]
 | n::ts,row,g=>by
  rw[ZU,t0 D ts];have e:ap D g (n::ts)=((aZ D g n).1++(ap D (aZ D g n).2 ts).1,(ap D (aZ D g n).2 ts).2):=by
   show List.foldl _ _ (n::ts)=_;rw[ZU,t0 D ts];simp
  rw[e,YU]
def tZ(D:Kt)(g:Int)(xs ys:f6):ap D g (xs++ys)=((ap D g xs).1++(ap D (ap D g xs).2 ys).1,(ap D (ap D g xs).2 ys).2):=by
 show List.foldl _ _ (xs++ys)=_;rw[a1g];exact t0 D ys _ _
def rk(D:Kt)(ts:f6)(k:Nat):f6:=(aZ D (ap D 0 (ts.take k)).2 (ts.getD k 0)).1
def pK{D:Kt}{ts:f6}{k:Nat}{n:Int}(h:ts[k]? = some n):ap D 0 (ts.take (k+1))=((ap D 0 (ts.take k)).1++rk D ts k,(aZ D (ap D 0 (ts.take k)).2 n).2):=by
 rw[de h,jd];unfold rk;rw[YZ,h]
 rfl
def Ht{D:Kt}{ts:f6}{k:Nat}{n:Int}(h:ts[k]? = some n):∃bL,(ap D 0 ts).1=(ap D 0 (ts.take k)).1++rk D ts k++bL:=by
 have e:ts=ts.take (k+1)++ts.drop (k+1):=(YV _ _).symm;refine⟨(ap D (ap D 0 (ts.take (k+1))).2 (ts.drop (k+1))).1,?_⟩;have:ap D 0 ts=ap D 0 (ts.take (k+1)++ts.drop (k+1)):=by rw[<- e]
 rw[this,tZ,pK h]
def IV{D:Kt}{g n:Int}(tn:i8 D)(pg:dQ D g)(a:bW D n):1<=(aZ D g n).1.length:=by
 cases D with
 | ld=>exact (uK n).1
 | pr h=>show 1<=(bN h n).length;rw[qi];split<;>lia
 | sh f ns ms =>
  obtain⟨r,g',e,_,hr⟩:=Ce pg a;rw[Cc e];rcases hr with ⟨b,rfl,_⟩|⟨c,rfl,_⟩
  ·show 1<=1;decide
  ·show 1<=2;decide
 | tb f es =>
  obtain⟨e,he,_,i⟩:=mP a;have d:aZ (.tb f es) g n=(e.2,g):=by
   show (Option.map _ _).getD _=_;rw[i];rfl
  rw[d];exact (Es.sg tn e he).2.1
 | br=>exact a.elim
def SM{D:Kt}{g n:Int}{m:Nat}(hm:m<(aZ D g n).1.length):tV D (m+1)\/(∃h,D=.pr h)/\(m+1)%2=1/\m+1<(aZ D g n).1.length:=by
 cases D with
 | pr h =>
  rcases a2q (m+1) with z|z
  ·exact .inl z
  ·refine .inr ⟨⟨h,rfl⟩,z,?_⟩;have hm:m<(bN h n).length:=hm;show m+1<(bN h n).length;have:=qi h n
   split at this<;>lia
 | _=>exact .inl trivial
def Bm(x y:Addr)(H a:Hp):Prop:=∀b u,b≠x->b≠y->H b=some u->a b=some u
def Jm(t:Adr):Sp:=λvs H Q _=>∃(d:Hp) (x dx o b mt:Addr) (D:Kt) (n g c a pl:Int) (m:Nat),vs=[.ref x,.int a]/\TN t d o D/\ah d H/\d x=none/\d b=none/\H x=some (d9 t dx o b mt pl g c false)/\dQ D g/\bW D n/\H b=some (.lst (((aZ D g n).1.take m).map V.int))/\(aZ D g n).1[m]? = some a /\
 (m+1<(aZ D g n).1.length->∀q H',Bm x b H H'->H q=none->H' x=some (d9 t dx o b mt pl g (c+1) false)->H' b=some (.lst (((aZ D g n).1.take (m+1)).map V.int))->H' q=some (.lst [])->Q (.ref q) H') /\
 (m+1=(aZ D g n).1.length->∀q b' H',Bm x b H H'->H q=none->H b'=none->q≠b'->H' x=some (d9 t dx o b' mt pl (aZ D g n).2 (c+1) false)->H' b'=some (.lst [])->H' q=some (.lst [.int n])->Q (.ref q) H')
def ER (T:Txt w K mg t):cc P w K mg base t.bY "take" 9 t.tp t.xn ["self", "byte"] (Jm t):=by
 refine⟨T.bI,T.Oc,T.Vu,T.WK.okQ K7 (λvs H Q E h=>by obtain⟨Hb,x,dx,o,b,mt,D,n,g,c,C,pl,m,rfl,_⟩:=h;rfl) λ_ _ _ _ H vs Q E hr h=>?_⟩;obtain⟨Hb,x,dx,o,b,mt,D,n,g,c,C,pl,m,rfl,tn,sb,fx,fb,hx,pg,hn,hb,L,km,ks⟩:=h;have hu:=hr.units;have hm:m<(aZ D g n).1.length:=(Yr.mp L).1;have l6:(aZ D g n).1.length<=6:=by obtain⟨r,g',_,e,_,l⟩:=iI tn.ok pg hn;rw[e];exact l
 have J:b≠x:=bJ hb hx (by intro z;cases z);refine⟨_,(af (ck (cT (K:=K) rfl YJ ZD ZE ju (aX (K:=K) rfl (aa 0)) (ab (aa 1) ad)))
  (af (uR (K:=K) rfl (aa 0) aj)
  (af (aL (aQ (gZ (K:=K) rfl hu) (az gy (bu (Yb K) T.n_len Yq (ab (aX (K:=K) rfl (aa 0)) ad)) (dq (dX (Ra (K:=K) T) hr (aX (K:=K) rfl (aa 0))) (dq (dX (QY (K:=K) T) hr (aX (K:=K) rfl (aa 0))) (dq (dX (QL (K:=K) T) hr (aX (K:=K) rfl (aa 0))) (dX (QF (K:=K) T) hr (aX (K:=K) rfl (aa 0))))))) aj (aS _)) (ag (am (aR ad))) aN)
  (ag (am (dX (QV (K:=K) T) hr (aa 0))))))),?_⟩
 refine⟨x,_,dx,_,_,rfl,hx,T.bI,T.io,rfl,?_⟩;refine⟨.inl ⟨rfl,_,.of hb⟩,?_⟩;refine⟨_,hb,fA (by rw[Yl,Yp];lia),?_⟩;obtain⟨G,R⟩:∃G,G=upd H b (.lst (((aZ D g n).1.take m).map V.int++[.int C])):=⟨_,rfl⟩;rw[<- R];have W:G b=some (.lst (((aZ D g n).1.take (m+1)).map V.int)):=by rw[R,aJ,de L,Yw];rfl
 have O:G x=some (d9 t dx o b mt pl g c false):=by rw[R,ay J.symm];exact hx
 refine⟨x,_,dx,_,_,rfl,O,T.bI,T.DO,rfl,_,_,rfl,rfl,dx,_,O,Yn (Yu 7) (by decide),?_⟩;obtain⟨p,I⟩:∃p,p=upd G x (d9 t dx o b mt pl g (c+1) false):=⟨_,rfl⟩;have Y:upd G x (.ins t.bY dx (bZ "many" (.int (c+1)) [("tongue",.ref o),("place",.int pl),("at_page",.int g),("begun",.ref b),("many",.int c),("met",.ref mt),("ended",.bl false)]))=p:=by rw[I];rfl
 rw[Y];have d:p x=some (d9 t dx o b mt pl g (c+1) false):=by rw[I];exact aJ
 have j:p b=some (.lst (((aZ D g n).1.take (m+1)).map V.int)):=by rw[I,ay J];exact W
 have a5:ah Hb p:=by rw[I,R];exact (sb.put fb).put fx
 have k2:Bm x b H p:=λa u B nb e=>by rw[I,ay B,R,ay nb];exact e
 have i:=tn.mono a5;have a6:((aZ D g n).1.take (m+1)).length=m+1:=by rw[Yp];lia
 have k:∀q,p q=none->H q=none:=λq s=>by
  cases e:H q with
  | none=>rfl
  | some u =>
   have:=k2 q u (λz=>by rw[z,d]at s;cases s) (λz=>by rw[z,j]at s;cases s) e;rw[s]at this;cases this
 dsimp only;refine iJ (λσ' H'=>H'=p/\tV D (m+1)/\σ'=[some (.ref x),some (.int C)]) (λnx v=>?_) ?_
 ·refine⟨x,_,dx,_,_,rfl,d,T.bI,T.io,rfl,?_⟩;refine⟨_,.inl (.of j),?_⟩;rw[Yl,a6];cases D with
  | br=>exact hn.elim
  | ld =>
   obtain⟨F,ho⟩:=id i;refine .inl ⟨x,_,dx,_,_,rfl,d,T.bI,T.im,rfl,o,F,_,rfl,ho,rfl,_,rfl,a1q,?_⟩;exact ao (λz=>aab z (by simp)) (λ_=>v _ _ ⟨rfl,trivial,rfl⟩)
  | pr h =>
   obtain⟨F,ho⟩:=id i;refine .inr (.inl ⟨x,_,dx,_,_,rfl,d,T.bI,T.im,rfl,o,F,_,rfl,ho,rfl,_,rfl,(show (0:Int)<2 by decide),?_⟩);refine ao (λz=>?_) (λz=>?_)
   ·rcases SM hm with S|⟨_,_,lt⟩
    ·have S:(m+1)%2=0:=S;have z:(!decide ((((m+1:Nat):Int))%2=0))=true:=z;rw[aad (by lia)]at z;cases z
    ·exact⟨sz rfl,λq M N=>km lt q M (λa u B nb e=>N.sm _ _ (k2 a u B nb e)) (k q N.nw) (N.sm _ _ d) (N.sm _ _ j) N.at_⟩
   ·refine v _ _ ⟨rfl,?_,rfl⟩;have z:¬(!decide ((((m+1:Nat):Int))%2=0))=true:=z;show (m+1)%2=0;rcases a2q (m+1) with y|y
    ·exact y
    ·exact aab (by rw[aae (by lia)];rfl) z
  | sh f ns ms =>
   refine .inr (.inr (.inl ⟨x,_,dx,_,_,rfl,d,T.bI,T.im,rfl,o,f.dx,_,rfl,Tg.o i,rfl,_,rfl,a1q,?_⟩));exact ao (λz=>aab z (by simp)) (λ_=>v _ _ ⟨rfl,trivial,rfl⟩)
  | tb f es =>
   refine .inr (.inr (.inr ⟨x,_,dx,_,_,rfl,d,T.bI,T.im,rfl,o,f.dx,_,rfl,i.1.o,rfl,_,rfl,a1q,?_⟩));exact ao (λz=>aab z (by simp)) (λ_=>v _ _ ⟨rfl,trivial,rfl⟩)
 ·rintro σ' H' ⟨rfl,S,rfl⟩;refine⟨x,dx,_,rfl,d,rfl,x,dx,o,b,mt,D,n,g,c+1,pl,m+1,rfl,d,i,pg,hn,j,by lia,by lia,S,λlt q M U s hq=>?_,λeq q b' M k3 s a1 ne a4 a3 a2=>?_⟩
  ·exact km lt q M (λa u B nb e=>U _ _ (k2 a u B nb e)) (k q s) (U _ _ d) (U _ _ j) hq
  ·exact ks eq q b' M (λa u B nb e=>k3 _ _ B (k2 a u B nb e)) (k q s) (k b' a1) ne a4 a3 a2
def CZ{D:Kt}{ts:f6}{k:Nat}{n:Int}(h:ts[k]? = some n):rk D ts k=(aZ D (ap D 0 (ts.take k)).2 n).1:=by unfold rk;rw[YZ,h];rfl
def ik(D:Kt):dQ D 0:=by
 cases D with
 | sh f ns ms=>exact .inl rfl
 | _=>exact rfl
def uM{D:Kt}{ts:f6}(tn:i8 D)(hin:∀n∈ts,bW D n){k:Nat}(a:k<ts.length):0<(rk D ts k).length:=by
 have e:=YM a;rw[CZ e];exact IV tn (gk tn (ik D) k ts (jD hin k)).1 (hin _ (YD e))
def Bs{D:Kt}{ts:f6}{j:Nat}(h:j<ts.length):(ap D 0 (ts.take (j+1))).1.length=(ap D 0 (ts.take j)).1.length+(rk D ts j).length:=by
 rw[pK (YM h)];simp
theorem Bt{D:Kt}{ts:f6}{j:Nat}:∀k,j<=k->k<=ts.length->(ap D 0 (ts.take j)).1.length<=(ap D 0 (ts.take k)).1.length
 | 0,h,_=>by
  obtain rfl:j=0:=by lia
  exact Ym _
 | k+1,h,hk=>by
  by_cases e:j=k+1
  ·rw[e];exact Ym _
  ·have:=Bt (D:=D) (ts:=ts) (j:=j) k (by lia) (by lia);rw[Bs (by lia)];lia
def da(D:Kt)(ts:f6)(N k m:Nat):Prop:=k<=ts.length/\(ap D 0 ts).1.take N=(ap D 0 (ts.take k)).1++(rk D ts k).take m/\N<=(ap D 0 ts).1.length/\(k=ts.length->m=0)/\(k<ts.length->m<(rk D ts k).length)
def da.len{D:Kt}{ts:f6}{N k m:Nat}(h:da D ts N k m):N=(ap D 0 (ts.take k)).1.length+m:=by
 obtain⟨c,e,hN,a,b⟩:=h;have l:=congrArg List.length e;rw[Yp,Yo,Yp]at l;rcases a0q k ts.length with z|z
 ·have:=b z;lia
 ·have:=a (by lia);lia
def da.uniq{D:Kt}{ts:f6}{N k m k' m':Nat}(h:da D ts N k m)(h':da D ts N k' m'):k=k'/\m=m':=by
 have f:∀ {k m k' m':Nat},da D ts N k m->da D ts N k' m'->¬k<k':=λ{k m k' m'} h h' lt=>by
  have a:=h.len;have b:=h'.len;have g:k<ts.length:=Yn lt h'.1;have c:=h.2.2.2.2 g;have d:=Bt (D:=D) (ts:=ts) (j:=k+1) k' lt h'.1;rw[Bs g]at d;lia
 have e:k=k':=by
  have:=f h h';have:=f h' h;lia
 subst e;refine⟨rfl,?_⟩;have:=h.len;have:=h'.len;lia
def da.zero{D:Kt}{ts:f6}(pos:∀j,j<ts.length->0<(rk D ts j).length):da D ts 0 0 0:=⟨YS _,rfl,YS _,(λ_=>rfl),pos 0⟩
def da.step{D:Kt}{ts:f6}{N k m:Nat}{b:Int}(h:da D ts N k m)(pos:∀j,j<ts.length->0<(rk D ts j).length)(hb:(ap D 0 ts).1[N]? = some b):∃n,ts[k]? = some n/\(rk D ts k)[m]? = some b/\(m+1<(rk D ts k).length->da D ts (N+1) k (m+1))/\(m+1=(rk D ts k).length->da D ts (N+1) (k+1) 0):=by
 have hl:=h.len;obtain⟨r,o,hN,i,g⟩:=h;have q:N<(ap D 0 ts).1.length:=(Yr.mp hb).1;have c:k<ts.length:=by
  rcases a0q k ts.length with z|z
  ·exact z
  ·have e:k=ts.length:=by lia
   rw[i e,e,Yy]at hl;lia
 have hm:=g c;obtain⟨n,f⟩:∃n,ts[k]? = some n:=⟨_,YM c⟩;obtain⟨bL,p⟩:=Ht (D:=D) f;have l:=pK (D:=D) f;have d:(rk D ts k)[m]? = some b:=by
  rw[p,hl,YU,Zi (by lia),ZW,Zj hm]at hb;exact hb
 have a:(ap D 0 ts).1.take (N+1)=(ap D 0 (ts.take k)).1++(rk D ts k).take (m+1):=by rw[de hb,o,de d,YU]
 refine⟨n,f,d,λlt=>⟨r,a,q,by lia,λ_=>lt⟩,λeq=>⟨c,?_,q,(λ_=>rfl),pos (k+1)⟩⟩;rw[a,eq,Yy,l];simp
def Rd(t:Adr)(H:Hp)(x dx o b mt:Addr)(pl:Int)(D:Kt)(ts:f6)(N k m:Nat):Prop:=H x=some (d9 t dx o b mt pl (ap D 0 (ts.take k)).2 (N:Int) false)/\H b=some (.lst (((rk D ts k).take m).map V.int))
def JY(K:PySem.W.Frag)(t:Adr):Sp:=λvs H Q _=>(∃(d:Hp) (x dx o b mt a:Addr) (D:Kt) (ts e:f6) (pl:Int) (N k m:Nat),vs=[.ref x,.ref a]/\TN t d o D/\ah d H/\d x=none/\d b=none/\(∀n∈ts,bW D n)/\ts.length<=1000/\aG K d a (e.map V.int)/\(∀i,i<e.length->e[i]? = (ap D 0 ts).1[N+i]?)/\Rd t H x dx o b mt pl D ts N k m/\da D ts N k m /\
 ∀(q b':Addr) (k' m':Nat) H',ah d H'->H q=none->d b'=none->q≠b'->Rd t H' x dx o b' mt pl D ts (N+e.length) k' m'->H' q=some (.lst (((ts.take k').drop k).map V.int))->k<=k'->da D ts (N+e.length) k' m'->Q (.ref q) H') \/
 (∃(x dx o b mt a:Addr) (pl g c:Int),vs=[.ref x,.ref a]/\H x=some (d9 t dx o b mt pl g c true)/\∀q H',bc H q (.lst []) H'->Q (.ref q) H')
def ES (T:Txt w K mg t):cc P w K mg base t.bY "feed" 10 t.tE t.xt ["self", "row"] (JY K t):=by
 refine⟨T.bI,T.Og,T.Vy,T.WP.okQ nF (λvs H Q E h=>by rcases h with ⟨Hb,x,dx,o,b,mt,a,D,ts,ws,pl,N,k,m,rfl,_⟩|⟨x,dx,o,b,mt,a,pl,g,c,rfl,_⟩<;>rfl) λ_ _ _ _ H vs Q E hr h=>?_⟩;have hu:=hr.units;rcases h with ⟨Hb,x,dx,o,b0,mt,a,D,ts,ws,pl,N,k0,m0,rfl,tn,sb,fx,fb0,hin,hl,ha,hws,⟨hx,hb0⟩,st0,k⟩|⟨x,dx,o,b,mt,a,pl,g,c,rfl,hx,k⟩
 ·refine⟨_,(af (aP (i:=2) nF.nd rfl (.inl rfl) (aR ad))
   (af (aL (dE (K:=K) rfl (aX (K:=K) rfl (aa 0))) (ag (am (aa 2))) aN)
   (af (cq PassesOwn.never rfl (c8 (K:=K) rfl (aa 1)) (bi (i:=3) nF.nd rfl (.inl rfl)) (af (ck (cT (K:=K) rfl YJ Zg Zh (Yf K) (aa 2) (ab (cM (ER (K:=K) T) hr (aa 0) (ab (aa 3) ad)) ad)))
   (ag (aL (dE (K:=K) rfl (aX (K:=K) rfl (aa 0))) (ag C5) aN))))
   (ag (am (aa 2)))))),?_⟩
  have pos:∀j,j<ts.length->0<(rk D ts j).length:=λj hj=>uM tn.ok hin hj;refine⟨sz rfl,λq H1 p=>?_⟩;have s1:=sb.trans p.sm;have fq:Hb q=none:=sb.free p.nw;have W:=p.sm _ _ hx;refine⟨x,_,dx,_,_,rfl,W,T.bI,T.js,rfl,?_⟩;refine⟨a,rfl,⟨_,s1.seq ha⟩,iy (K:=K) (a:=a) (xs:=ws.map V.int) (λi σ H'=>ah Hb H'/\∃(j m:Nat) (b:Addr) (v3:Option V),Hb b=none/\q≠b/\Rd t H' x dx o b mt pl D ts (N+i) j m/\H' q=some (.lst (((ts.take j).drop k0).map V.int))/\k0<=j/\da D ts (N+i) j m/\σ=[some (.ref x),some (.ref a),some (.ref q),v3])
   ⟨s1,k0,m0,b0,_,fb0,(aI hb0 p.nw).symm,⟨W,p.sm _ _ hb0⟩,by rw[a1c (by rw[Yp];lia)];exact p.at_,Ym _,st0,rfl⟩ (λi σ H' _ z=>z.1.seq ha) ?_ ?_⟩
  ·rintro i v σ H3 hv ⟨M,j,m,b,v3,fb,f,⟨J,ae⟩,d,C,st,rfl⟩;obtain⟨a4,I,rfl⟩:=dz hv;have a7:i<ws.length:=(Yr.mp I).1;rw[hws i a7]at I;obtain⟨n,O,a9,aj,a2⟩:=st.step pos I;have au:j<ts.length:=(Yr.mp O).1;have S:=hin n (YD O);have a3:=(gk tn.ok (ik D) j ts (jD hin j)).1;have a6:=pK (D:=D) O;have r:=CZ (D:=D) O;have y:q≠x:=bJ d J (by intro z;cases z);have aq:((ts.take j).drop k0).length<=1000:=by rw[YY,Yp];lia
   refine⟨.inl ⟨rfl,_,.of d⟩,?_⟩;refine⟨x,dx,_,rfl,J,rfl,Hb,x,dx,o,b,mt,D,n,_,_,a4,pl,m,rfl,tn,M,fx,fb,J,a3,S,by rw[<- r];exact ae,by rw[<- r];exact a9,λlt q2 U k4 a1 G s L=>?_,λeq q2 b2 U k4 a1 Y ne G s L=>?_⟩
   ·rw[<- r]at lt s;have F:=k4 _ _ y f d;have s4:ah Hb U:=λa u e=>k4 a u (aI e fx) (aI e fb) (M a u e);refine⟨_,_,F,L,bM (by rw[Yl];show _+0<=_;lia),?_⟩;have l:upd U q (.lst (((ts.take j).drop k0).map V.int++[])) x=some (d9 t dx o b mt pl (ap D 0 (ts.take j)).2 ((N+i+1:Nat):Int) false):=by rw[ay y.symm,Zn];exact G
    refine⟨x,_,dx,_,_,rfl,l,T.bI,T.js,rfl,?_⟩;exact⟨s4.put fq,j,m+1,b,_,fb,f,⟨l,by rw[ay f.symm];exact s⟩,by rw[aJ,Y8],C,aj lt,rfl⟩
   ·rw[<- r]at eq;have F:=k4 _ _ y f d;have s4:ah Hb U:=λa u e=>k4 a u (aI e fx) (aI e fb) (M a u e);have B:q≠b2:=aI d Y;refine⟨_,_,F,L,bM (by rw[Yl];show _+1<=_;rw[YY,Yp];lia),?_⟩;have ex:(ap D 0 (ts.take (j+1))).2=(aZ D (ap D 0 (ts.take j)).2 n).2:=by rw[a6]
    have l:upd U q (.lst (((ts.take j).drop k0).map V.int++[.int n])) x=some (d9 t dx o b2 mt pl (ap D 0 (ts.take (j+1))).2 ((N+i+1:Nat):Int) false):=by rw[ay y.symm,ex,Zn];exact G
    refine⟨x,_,dx,_,_,rfl,l,T.bI,T.js,rfl,?_⟩;exact⟨s4.put fq,j+1,0,b2,_,M.free Y,B,⟨l,by rw[ay B.symm];exact s⟩,by rw[aJ,de O,a1i (by rw[Yp];lia),Yw];rfl,by lia,a2 eq,rfl⟩
  ·rintro σ H3 ⟨M,j,m,b,v3,fb,f,R,d,C,st,rfl⟩;rw[Yl]at R st;exact k q b j m H3 M p.nw fb f R d C st
 ·refine⟨_,(af (aP (i:=2) nF.nd rfl (.inl rfl) (aR ad))
   (af (aL (dE (K:=K) rfl (aX (K:=K) rfl (aa 0))) (ag (am (aa 2))) aN)
   (af (cq PassesOwn.never rfl (c8 (K:=K) rfl (aa 1)) (bi (i:=3) nF.nd rfl (.inl rfl)) (af (ck (cT (K:=K) rfl YJ Zg Zh (Yf K) (aa 2) (ab (cM (ER (K:=K) T) hr (aa 0) (ab (aa 3) ad)) ad)))
   (ag (aL (dE (K:=K) rfl (aX (K:=K) rfl (aa 0))) (ag C5) aN))))
   (ag (am (aa 2)))))),?_⟩
  refine⟨sz rfl,λq H1 p=>?_⟩;refine⟨x,_,dx,_,_,rfl,p.sm _ _ hx,T.bI,T.js,rfl,?_⟩;exact k q H1 p
def fR{H:Hp}{x dx C:Addr}(hx:H x=none)(a:H dx=none):ah H (upd (upd H dx (.own x)) x (.ins C dx [])):=λb c q=>by rw[ay (aI q hx),ay (aI q a)];exact q
def J2(t:Adr):Sp:=λvs H Q _=>∃(x dx o b mt:Addr) (pl g c:Int) (e:Bool),vs=[.ref x]/\H x=some (d9 t dx o b mt pl g c e)/\H b=some (.lst [])/\∀p H',H p=none->Kp x H H'->H' x=some (d9 t dx o b mt pl g c true)->H' p=some (.lst [])->Q (.ref p) H'
def ET (T:Txt w K mg t):cc P w K mg base t.bY "end" 3 t.tG t.xv ["self"] (J2 t):=by
 refine⟨T.bI,T.Oi,T.VA,T.WR.okQ CM (λvs H Q E h=>by obtain⟨x,dx,o,b,mt,pl,g,c,e,rfl,_⟩:=h;rfl) λ_ _ _ _ H vs Q E hr h=>?_⟩;obtain⟨x,dx,o,b,mt,pl,g,c,e,rfl,hx,hb,k⟩:=h;have f:=hr.units;refine⟨_,(af (aL (dE (K:=K) rfl (aX (K:=K) rfl (aa 0))) (ag (am (aR ad))) aN)
  (af (aP (i:=1) CM.nd rfl (.inl rfl) (gw (dE (K:=K) rfl (aX (K:=K) rfl (aa 0))) (cM (QU (K:=K) T) hr (aa 0) (ab (bu (Yb K) T.n_len Yq (ab (aX (K:=K) rfl (aa 0)) ad)) (ab dC ad))) (aR ad)))
  (af (bQ (K:=K) rfl (aa 0) dW)
  (ag (am (aa 1)))))),?_⟩
 refine⟨x,_,dx,_,_,rfl,hx,T.bI,T.js,rfl,?_⟩;cases e with
 | true=>exact⟨sz rfl,λp d a=>k p d a.nw (Kp.of a.sm) (a.sm _ _ hx) a.at_⟩
 | false =>
  refine⟨x,_,dx,_,_,rfl,hx,T.bI,T.io,rfl,_,.inl (.of hb),?_⟩;refine⟨sz rfl,λp d a=>?_⟩;refine⟨x,_,dx,_,rfl,a.sm _ _ hx,T.bI,T.js,Yn (Yu 7) (by decide),?_⟩;exact k p _ a.nw ((Kp.of a.sm).trans Kp.upd) (by rw[aJ];rfl) (by rw[ay (aI hx a.nw).symm];exact a.at_)
def JW(t:Adr):Sp:=λvs H Q _=>∃(x dx o b mt:Addr) (pl g c:Int) (e:Bool),vs=[.ref x]/\H x=some (d9 t dx o b mt pl g c e)/\H mt=some (.lst [])/\∀p H',bc H p (.lst []) H'->Q (.ref p) H'
def vD (T:Txt w K mg t):cc P w K mg base t.bY "faults" 1 t.tF t.xu ["self"] (JW t):=by
 refine⟨T.bI,T.Oh,T.Vz,T.WQ.okQ Lb (λvs H Q E h=>by obtain⟨x,dx,o,b,mt,pl,g,c,e,rfl,_⟩:=h;rfl) λ_ _ _ _ H vs Q E hr h=>?_⟩;obtain⟨x,dx,o,b,mt,pl,g,c,e,rfl,hx,hm,k⟩:=h;refine⟨_,(ag (am (eV (Ye K) T.n_list Y4 (ab (aX (K:=K) rfl (aa 0)) ad)))),?_⟩;refine⟨x,_,dx,_,_,rfl,hx,T.bI,T.DN,rfl,?_⟩;exact⟨_,.inl (.of hm),k⟩
def Cd{m:TE}{l:TA}{σ:St}{o:Addr}{g n:Int}{H:Hp}{D:Kt}{Q:VK}(tn:TN t H o D)(pg:dQ D g)(hI:bW D n)(p:∀R:VK,R (.ref o) H->m σ H R)(s:∀R:List V->Hp->Prop,R [.int n,.int g] H->l σ H R)
 (k:∀c q a,ah H a->a q=some (.lst ((aZ D g n).1.map V.int))->a c=some (.tup [.ref q,.int (aZ D g n).2])->Q (.ref c) a) :
 fh t.dO "spell" pU [] E0 m l σ H Q\/fh t.bR "spell" (nj t) [] E0 m l σ H Q\/fh t.bV "spell" (pV t) [] E0 m l σ H Q\/fh t.cb "spell" (pW t) [] E0 m l σ H Q:=by
 obtain⟨r,g',eO,B,_,C⟩:=iI tn.ok pg hI;rw[B]at k;cases D with
 | br=>exact hI.elim
 | ld =>
  obtain⟨h,v⟩:=id tn;obtain rfl:g=0:=pg;cases eO;exact .inl (p _ ⟨o,h,_,rfl,v,rfl,s _ ⟨o,n,rfl,hI,λc q a _ i j d=>k c q a i j d⟩⟩)
 | pr b =>
  obtain⟨h,v⟩:=id tn;obtain rfl:g=0:=pg;cases eO;exact .inr (.inl (p _ ⟨o,h,_,rfl,v,rfl,s _ ⟨o,b,n,rfl,tn,hI,λc q a _ i j d=>k c q a i j d⟩⟩))
 | sh f us ms=>exact .inr (.inr (.inl (p _ ⟨o,f.dx,_,rfl,Tg.o tn,rfl,s _ ⟨o,f,us,ms,.int n,g,r,g',rfl,pg,tn,eO,λc q a i _ j d=>k c q a i j d⟩⟩)))
 | tb f es =>
  obtain⟨z,u,y,x⟩:=mP hI;have eO:((es.find? λe=>decide (e.1=n)).map λe=>(e.2,g))=some (r,g'):=eO;rw[x]at eO;cases eO;exact .inr (.inr (.inr (p _ ⟨o,f.dx,_,rfl,tn.1.o,rfl,s _ ⟨o,f,es,z,_,by rw[y];rfl,tn.1,tn.2,u,λc q a i _ j d=>k c q a i j d⟩⟩)))
def Se(t:Adr)(H:Hp)(x o:Addr):Prop:=∃dx,H x=some (.ins t.fm dx [("tongue",.ref o)])
def JT(t:Adr):Sp:=λvs H Q _=>∃(x dx o:Addr),vs=[.ref x,.ref o]/\H x=some (.ins t.fm dx [])/\∀H',Kp x H H'->H' x=some (.ins t.fm dx [("tongue",.ref o)])->Q .non H'
def PQ (T:Txt w K mg t):gg P w K mg base "SeenSpeller" t.fm 1 t.A1 t.xm ["self", "tongue"] [] (JT t):=by
 refine⟨T.Rn,T.OF,⟨[],T.Vt,.nil⟩,T.WJ.okQ K6 (λvs H Q E h=>by obtain⟨x,dx,o,rfl,_⟩:=h;rfl) λ_ _ _ _ H vs Q E hr h=>?_⟩;obtain⟨x,dx,o,rfl,hx,k⟩:=h;refine⟨_,(ag (bQ (K:=K) rfl (aa 0) (aa 1))),?_⟩;refine⟨x,_,dx,_,rfl,hx,T.y8,T.DM,Yn Zr (by decide),?_⟩;exact k _ Kp.upd (by rw[aJ];rfl)
def Ck(t:Adr):Sp:=λvs H Q _=>∃(x o:Addr) (D:Kt) (n g:Int),vs=[.ref x,.int n,.int g]/\Se t H x o/\TN t H o D/\dQ D g/\Sg n/\bW D n/\∀pf q H4,ah H H4->H4 q=some (.lst ((aZ D g n).1.map V.int))->H4 pf=some (.tup [.ref q,.int (aZ D g n).2])->Q (.ref pf) H4
def QQ (T:Txt w K mg t):cc P w K mg base t.fm "spell" 5 t.A0 t.xl ["self", "sign", "page"] (Ck t):=by
 refine⟨T.y8,T.Ob,T.Vs,T.WI.okQ K5 (λvs H Q E h=>by obtain⟨x,o,D,n,g,rfl,_⟩:=h;rfl) λ_ _ _ _ H vs Q E hr h=>?_⟩;obtain⟨x,o,D,n,g,rfl,⟨dx,hx⟩,tn,pg,sg,hI,k⟩:=h;have a:=hr.units;refine⟨_,(af (aL (dD (aD (EF (K:=K) T) hr (ab (aa 1) ad))) (ag (am (cm (ab (aR (ab (az cA (aa 1) (bE T.FU)) ad)) (ab (aa 2) ad))))) aN)
  (ag (am (dq (cL (EY (K:=K) T) hr (aX (K:=K) rfl (aa 0)) (ab (aa 1) (ab (aa 2) ad))) (dq (cL (EW (K:=K) T) hr (aX (K:=K) rfl (aa 0)) (ab (aa 1) (ab (aa 2) ad))) (dq (cL (EN (K:=K) T) hr (aX (K:=K) rfl (aa 0)) (ab (aa 1) (ab (aa 2) ad))) (cL (EL (K:=K) T) hr (aX (K:=K) rfl (aa 0)) (ab (aa 1) (ab (aa 2) ad))))))))),?_⟩
 refine⟨_,rfl,.int n,?_⟩;refine ao (λz=>?_) (λ_=>?_)
 ·have z:(decide (61184<=n) && decide (n<=61439))=true:=z;rw[YT]at z;exact aab ⟨aac z.1,aac z.2⟩ sg.2.2.2
 exact Cd tn pg hI (λR h=>⟨x,_,dx,_,_,rfl,hx,T.y8,T.DM,rfl,h⟩) (λR h=>h) k
def jF(t:Adr)(H:Hp)(x:Addr)(D:Kt):Prop:=TN t H x D\/∃o,Se t H x o/\TN t H o D
def Se.mono{H a:Hp}{x o:Addr}(h:Se t H x o)(s:ah H a):Se t a x o:=by obtain⟨dx,h⟩:=h;exact⟨dx,s _ _ h⟩
def jF.mono{H c:Hp}{x:Addr}{D:Kt}(h:jF t H x D)(s:ah H c):jF t c x D:=h.elim (λh=>.inl (h.mono s)) λ⟨o,a,b⟩=>.inr ⟨o,a.mono s,b.mono s⟩
def jF.ok{H:Hp}{x:Addr}{D:Kt}(h:jF t H x D):i8 D:=h.elim (λh=>h.ok) λ⟨_,_,b⟩=>b.ok
def IY{a:TE}{b:TA}{σ:St}{o:Addr}{g n:Int}{H:Hp}{D:Kt}{Q:VK}(tn:jF t H o D)(pg:dQ D g)(sg:Sg n)(hI:bW D n)(d:∀R:VK,R (.ref o) H->a σ H R)(c:∀R:List V->Hp->Prop,R [.int n,.int g] H->b σ H R)
 (k:∀pf q H4,ah H H4->H4 q=some (.lst ((aZ D g n).1.map V.int))->H4 pf=some (.tup [.ref q,.int (aZ D g n).2])->Q (.ref pf) H4) :
 fh t.fm "spell" (Ck t) [] E0 a b σ H Q\/fh t.dO "spell" pU [] E0 a b σ H Q\/fh t.bR "spell" (nj t) [] E0 a b σ H Q\/fh t.bV "spell" (pV t) [] E0 a b σ H Q\/fh t.cb "spell" (pW t) [] E0 a b σ H Q:=by
 rcases tn with tn|⟨oo,⟨dx,ho⟩,tn⟩
 ·exact .inr (Cd tn pg hI d c k)
 ·exact .inl (d _ ⟨o,dx,_,rfl,ho,rfl,c _ ⟨o,oo,D,n,g,rfl,⟨dx,ho⟩,tn,pg,sg,hI,k⟩⟩)
def Jd(K:PySem.W.Frag)(t:Adr):Sp:=λvs H Q _=>∃(o a:Addr) (D:Kt) (ns:f6) (g:Int),vs=[.ref o,.ref a,.int g]/\jF t H o D/\dQ D g/\aG K H a (ns.map V.int)/\ns.length<=1000/\(∀n∈ns,Sg n/\bW D n) /\
 ∀p q H',H q=none->ah H H'->H' q=some (.lst ((ap D g ns).1.map V.int))->H' p=some (.tup [.ref q,.int (ap D g ns).2])->Q (.ref p) H'
def Ey (T:Txt w K mg t):bz P w K mg base "write_from" 6 t.zZ t.wl ["tongue", "text", "page"] (Jd K t):=by
 refine⟨T.RJ,T.GM.kp,T.Uw,T.GM.okQ jU (λvs H Q E h=>by obtain⟨o,a,D,ns,g,rfl,_⟩:=h;rfl) λ_ _ _ _ H vs Q E hr h=>?_⟩;obtain⟨o,a,D,ns,c,rfl,tn,L,S,hl,hin,k⟩:=h;have hu:=hr.units;refine⟨_,(af (aP (i:=3) jU.nd rfl (.inl rfl) (aR ad))
  (af (cq PassesOwn.never rfl (gP (K:=K) rfl rfl T.n_enumerate (ab (aa 1) ad)) (fF (K:=K) rfl rfl (cC (bi (i:=4) jU.nd rfl (.inl rfl)) (cC (bi (i:=5) jU.nd rfl (.inl rfl)) fE))) (af (uO (λpn=>(ag (aP (i:=6) jU.nd rfl (.inl rfl) (dq (cM (QQ (K:=K) T) hr (aa 0) (ab (aa 5) (ab (aa 2) ad))) (dq (cL (EY (K:=K) T) hr (aa 0) (ab (aa 5) (ab (aa 2) ad))) (dq (cL (EW (K:=K) T) hr (aa 0) (ab (aa 5) (ab (aa 2) ad))) (dq (cL (EN (K:=K) T) hr (aa 0) (ab (aa 5) (ab (aa 2) ad))) (cL (EL (K:=K) T) hr (aa 0) (ab (aa 5) (ab (aa 2) ad)))))))))))
  (af (ck (cT (K:=K) rfl YJ Zg Zh (Yf K) (aa 3) (ab (aE (Yc K) (aa 6) aj (λ_ _=>rfl)) ad)))
  (ag (aP (i:=2) jU.nd rfl (.inl rfl) (aE (Yc K) (aa 6) aj (λ_ _=>rfl)))))))
  (ag (am (cm (ab (aa 3) (ab (aa 2) ad))))))),?_⟩
 refine⟨sz rfl,λv H1 f=>?_⟩;refine⟨a,_,rfl,f.sm.seq S,hG (K:=K) (a:=a) (xs:=ns.map V.int) (λi σ B=>ah H B/\B v=some (.lst ((ap D c (ns.take i)).1.map V.int))/\∃C M J,σ=[some (.ref o),some (.ref a),some (.int (ap D c (ns.take i)).2),some (.ref v),C,M,J]) ⟨f.sm,f.at_,_,_,_,rfl⟩ (λi σ B _ z=>z.1.seq S) ?_ ?_⟩
 ·rintro i x p σ Y W hx ⟨y,u,C,M,J,rfl⟩ b;obtain⟨n,F,rfl⟩:=dz hx;have hi:i<ns.length:=(Yr.mp F).1;refine⟨p,_,rfl,b.tup,rfl,_,_,rfl,_,_,rfl,rfl,?_⟩;have O:=y.trans b.sm;obtain⟨s,li⟩:=gk tn.ok L i ns λj m _ e=>(hin m (YD e)).2;obtain⟨sg,hI⟩:=hin n (YD F);have e:∀r g',aZ D (ap D c (ns.take i)).2 n=(r,g')->ap D c (ns.take (i+1))=((ap D c (ns.take i)).1++r,g'):=λr g' l=>by rw[de F,jd,l]
  generalize hg:(ap D c (ns.take i)).2=g at *;refine IY (tn.mono O) s sg hI (λR h=>h) (λR h=>h) (λpf q H4 U I d=>?_);obtain⟨r,g',_,l,_,sl⟩:=iI tn.ok s hI;rw[l]at I d;dsimp only at I d;have N:=U _ _ (b.sm _ _ u);refine⟨.inl ⟨rfl,_,.of N⟩,?_⟩;refine⟨_,.ref q,.inr (.of d),ba (j:=0) rfl,?_⟩;refine⟨_,_,N,I,bM (by rw[Yl,Yl];lia),?_⟩;have G:pf≠v:=λz=>by rw[z,N]at d;cases d
  refine⟨_,.int _,.inr (.of (by rw[ay G];exact d)),ba (j:=1) rfl,?_⟩;refine⟨(O.trans U).put f.nw,?_,_,_,_,by rw[e r g' l];rfl⟩;rw[aJ,e r g' l,Yw]
 ·rintro σ Y ⟨y,u,C,M,J,rfl⟩;rw[Yl]at u;rw[Yy]at u;rw[Yl,Yy];exact⟨sz rfl,λp3 W b=>k p3 v W f.nw (y.trans b.sm) (b.sm _ _ u) b.at_⟩
def Jc(K:PySem.W.Frag)(t:Adr):Sp:=λvs H Q _=>∃(o a:Addr) (D:Kt) (ns:f6),vs=[.ref o,.ref a]/\TN t H o D/\aG K H a (ns.map V.int)/\ns.length<=1000/\(∀n∈ns,Sg n/\bW D n)/\∀q H',H q=none->ah H H'->H' q=some (.lst ((ap D 0 ns).1.map V.int))->Q (.ref q) H'
def vz (T:Txt w K mg t):bz P w K mg base "write" 7 t.Aa t.wm ["tongue", "text"] (Jc K t):=by
 refine⟨T.RK,T.GN.kp,T.Ux,T.GN.okQ Ku (λvs H Q E h=>by obtain⟨o,a,D,ns,rfl,_⟩:=h;rfl) λ_ _ _ _ H vs Q E hr h=>?_⟩;obtain⟨o,a,D,ns,rfl,tn,d,hl,hin,k⟩:=h;have i:=hr.units;refine⟨_,(ag (am (aE (Yc K) (aD (Ey (K:=K) T) hr (ab (aa 0) (ab (aa 1) (ab aj ad)))) aj (λ_ _=>rfl)))),?_⟩;refine⟨o,a,D,ns,0,rfl,.inl tn,ik D,d,hl,hin,λp q c e g f b=>?_⟩;exact⟨_,_,.inr (.of b),ba (j:=0) rfl,k q c e g f⟩
abbrev pv(t:Adr)(dx ss:Addr)(g:Int):HO:=.ins t.fk dx [("tongue",.ref ss),("at_page",.int g)]
def JQ(t:Adr):Sp:=λvs H Q _=>∃(x dx o:Addr),vs=[.ref x,.ref o]/\H x=some (.ins t.fk dx [])/\∀H',Kp x H H'->H' x=some (pv t dx o 0)->Q .non H'
def PZ (T:Txt w K mg t):Gv P w K mg base 1 t.AM t.wZ ["self", "tongue"] [] (JQ t):=by
 refine⟨T.Hr.kp,⟨_,T.U8,.nil⟩,T.Hr.okQ KO (λvs H Q E h=>by obtain⟨x,dx,o,rfl,_⟩:=h;rfl) λ_ _ _ _ H vs Q E hr h=>?_⟩;obtain⟨x,dx,o,rfl,hx,k⟩:=h;refine⟨_,(af (bQ (K:=K) rfl (aa 0) (aa 1))
  (ag (bQ (K:=K) rfl (aa 0) aj))),?_⟩
 refine⟨x,_,dx,_,rfl,hx,T.mU,T.DL,Yn Zr (by decide),?_⟩;refine⟨x,_,dx,_,rfl,aJ,T.mU,T.ve,Yn (Yu 1) (by decide),?_⟩;exact k _ (Kp.upd.trans Kp.upd) (by rw[aJ];rfl)
def JS(t:Adr):Sp:=λvs H Q _=>∃(x dx o:Addr),vs=[.ref x,.ref o]/\H x=some (.ins t.fk dx [])/\∀s H',Kp x H H'->H s=none->H' x=some (pv t dx s 0)->Se t H' s o->Q .non H'
def PP (T:Txt w K mg t):gg P w K mg base "SeenWriter" t.fk 3 t.AZ t.xk ["self", "tongue"] [] (JS t):=⟨T.Rm,T.OE,⟨[],T.Vr,.nil⟩,by
 refine T.WH.okQ K4 (λvs H Q E h=>by obtain⟨x,dx,o,rfl,_⟩:=h;rfl) λ_ _ _ _ H vs Q E hr h=>?_;obtain⟨x,dx,o,rfl,hx,k⟩:=h;refine⟨_,(ag (ck (LX (K:=K) rfl T.Ua T.Ri (PZ T) hr (ab (aa 0) (ab (fW (PQ (K:=K) T) hr (ab (aa 1) ad)) ad))))),?_⟩;refine λs ds hs d i=>?_;have sm:=fR (C:=t.fm) hs d;refine⟨s,ds,o,rfl,aJ,λg k1 c=>⟨rfl,?_⟩⟩;have s1:ah H g:=λa u e=>k1 a u (aI e hs) (sm a u e);have b:s≠x:=(aI hx hs).symm;refine⟨x,dx,s,rfl,s1 _ _ hx,λj k2 f=>?_⟩;exact k s j ((Kp.of s1).trans k2) hs f ⟨ds,k2 _ _ b c⟩⟩
def JZ(K:PySem.W.Frag)(t:Adr):Sp:=λvs H Q _=>∃(x dx ss o a:Addr) (D:Kt) (ns:f6) (g:Int),vs=[.ref x,.ref a]/\H x=some (pv t dx ss g)/\Se t H ss o/\TN t H o D/\dQ D g/\aG K H a (ns.map V.int)/\ns.length<=1000/\(∀n∈ns,Sg n/\bW D n) /\
 ∀q H',H q=none->Kp x H H'->H' x=some (pv t dx ss (ap D g ns).2)->H' q=some (.lst ((ap D g ns).1.map V.int))->Q (.ref q) H'
def QP (T:Txt w K mg t):cc P w K mg base t.fk "feed" 7 t.AN t.w5 ["self", "text"] (JZ K t):=by
 refine⟨T.mU,T.mt_SeenWriter_feed,T.U9,T.Wl.okQ CF (λvs H Q E h=>by obtain⟨x,dx,ss,o,a,D,ns,g,rfl,_⟩:=h;rfl) λ_ _ _ _ H vs Q E hr h=>?_⟩;obtain⟨x,dx,ss,o,a,D,ns,g,rfl,hx,l,tn,pg,f,hl,hin,k⟩:=h;have r:=hr.units;refine⟨_,(af (aP (i:=2) CF.nd rfl (.inl rfl) (aD (Ey (K:=K) T) hr (ab (aX (K:=K) rfl (aa 0)) (ab (aa 1) (ab (aX (K:=K) rfl (aa 0)) ad)))))
  (af (bQ (K:=K) rfl (aa 0) (aE (Yc K) (aa 2) aj (λ_ _=>rfl)))
  (ag (am (aE (Yc K) (aa 2) aj (λ_ _=>rfl)))))),?_⟩
 refine⟨x,_,dx,_,_,rfl,hx,T.mU,T.DL,rfl,?_⟩;refine⟨x,_,dx,_,_,rfl,hx,T.mU,T.ve,rfl,?_⟩;refine⟨ss,a,D,ns,g,rfl,.inr ⟨o,l,tn⟩,pg,f,hl,hin,λp q n m s1 d b=>?_⟩;refine⟨_,_,.inr (.of b),ba (j:=1) rfl,?_⟩;refine⟨x,_,dx,_,rfl,s1 _ _ hx,T.mU,T.ve,Yn (Yu 2) (by decide),?_⟩;have e:p≠x:=bJ b (s1 _ _ hx) (by intro z;cases z);have c:q≠x:=bJ d (s1 _ _ hx) (by intro z;cases z);refine⟨_,_,.inr (.of (by rw[ay e];exact b)),ba (j:=0) rfl,?_⟩;exact k q _ m ((Kp.of s1).trans Kp.upd) (by rw[aJ];rfl) (by rw[ay c];exact d)
structure Ta where
 x:Addr
 dx:Addr
 st:Addr
 r:Addr
 dr:Addr
 o:Addr
 mt:Addr
 w:Addr
 dw:Addr
 ss:Addr
 og:Addr
 lk:Addr
abbrev tR(t:Adr)(a:Ta)(k:Nat):HO:=.ins t.cg a.dx [("stead",.ref a.st),("reader",.ref a.r),("writer",.ref a.w),("many",.int (k:Int)),("lacking",.ref a.lk)]
structure Tw (t:Adr) (Hb H:Hp) (a:Ta) (G:Kt) (g:Int) (k:Nat):Prop where
 tg:TN t Hb a.og G
 sb:ah Hb H
 fx:Hb a.x=none
 fw:Hb a.w=none
 fl:Hb a.lk=none
 hs:Se t Hb a.ss a.og
 hst:Hb a.st=some (.lst [])
 hx:H a.x=some (tR t a k)
 hw:H a.w=some (pv t a.dw a.ss g)
 hl:H a.lk=some (.lst [])
 pg:dQ G g
def Tw.grow{b H c:Hp}{a:Ta}{G:Kt}{g:Int}{k:Nat}(h:Tw t b H a G g k)(s:ah H c):Tw t b c a G g k:=⟨h.tg,h.sb.trans s,h.fx,h.fw,h.fl,h.hs,h.hst,s _ _ h.hx,s _ _ h.hw,s _ _ h.hl,h.pg⟩
def iO{H:Hp}{c x C d dx b:Addr}{fs a:List (Str × V)}(h:H c=some (.ins C dx fs))(k:H x=some (.ins d b a))(n:fs.length≠a.length):c≠x:=λz=>by
 rw[z,k]at h;have:=YL h
 injection this with _ _ e
 exact n (by rw[e])
def Tw.nxw{b H:Hp}{a:Ta}{G:Kt}{g:Int}{k:Nat}(h:Tw t b H a G g k):a.x≠a.w:=iO h.hx h.hw (by show (5:Nat)≠2;decide)
def wo(H:Hp)(X:List Addr):Hp:=λa=>if a∈X then none else H a
def dA{H:Hp}{X:List Addr}{a:Addr}(h:a∈X):wo H X a=none:=aaa h
def eM{H:Hp}{X:List Addr}{a:Addr}{u:HO}(h:a∉X)(e:H a=some u):wo H X a=some u:=(on h).trans e
def je{H:Hp}{X:List Addr}:ah (wo H X) H:=λa u e=>by
 unfold wo at e
 split at e
 ·cases e
 ·exact e
def ah.wo{b H:Hp}{X:List Addr}(s:ah b H)(h:∀a∈X,b a=none):ah b (wo H X):=λa u e=>eM (λz=>by rw[h a z]at e;cases e) (s a u e)
def eP{H:Hp}{x y z a:Addr}{u:HO}(d:a≠x)(b:a≠y)(c:a≠z)(e:H a=some u):wo H [x,y,z] a=some u:=eM (by simp only [Yz,Y0,or_false,not_or];exact⟨d,b,c⟩) e
def t4{b H:Hp}{x y z:Addr}(s:ah b H)(e:b x=none)(d:b y=none)(f:b z=none):ah b (wo H [x,y,z]):=ah.wo s λa c=>by
 simp only [Yz,Y0,or_false]at c;rcases c with rfl|rfl|rfl<;>assumption
def Tw.to{b H:Hp}{a:Ta}{G:Kt}{g:Int}{k:Nat}(h:Tw t b H a G g k):ah b (wo H [a.x,a.w,a.lk]):=t4 h.sb h.fx h.fw h.fl
def Tw.side{b H:Hp}{a:Ta}{G:Kt}{g:Int}{k:Nat}(h:Tw t b H a G g k):Tw t (wo H [a.x,a.w,a.lk]) H a G g k:=⟨h.tg.mono h.to,je,dA (by simp),dA (by simp),dA (by simp),h.hs.mono h.to,h.to _ _ h.hst,h.hx,h.hw,h.hl,h.pg⟩
def Tw.back{c d H:Hp}{a:Ta}{G G0:Kt}{g i:Int}{k k0:Nat}{f:Hp}(h:Tw t d H a G g k)(b:Tw t c f a G0 i k0)(e:G=G0)(s:ah c d):Tw t c H a G g k:=⟨e ▸ b.tg,s.trans h.sb,b.fx,b.fw,b.fl,b.hs,b.hst,h.hx,h.hw,h.hl,h.pg⟩
def Jp(t:Adr):Sp:=λvs H Q _=>∃(b:Hp) (a:Ta) (G:Kt) (g n:Int) (k:Nat),vs=[.ref a.x,.int n]/\Tw t b H a G g k/\Sg n/\bW G n /\
 ∀q H',H q=none->Tw t b H' a G (aZ G g n).2 k->H' q=some (.lst ((aZ G g n).1.map V.int))->Q (.ref q) H'
def Qx (T:Txt w K mg t):cc P w K mg base t.cg "turned_one" 8 t.AO t.w6 ["self", "thing"] (Jp t):=by
 refine⟨T.dM,T.NV,T.Va,T.Wm.okQ KP (λvs H Q E h=>by obtain⟨s,a,G,g,n,k,rfl,_⟩:=h;rfl) λ_ _ _ _ H vs Q E hr h=>?_⟩;obtain⟨s,a,G,g,n,k,rfl,tw,sg,hI,v⟩:=h;have D:=hr.units;refine⟨_,(ag (uO (λpn=>(ag (am (cM (QP (K:=K) T) hr (aX (K:=K) rfl (aa 0)) (ab (aR (ab (aa 1) ad)) ad))))))),?_⟩;refine⟨a.x,_,a.dx,_,_,rfl,tw.hx,T.dM,T.DH,rfl,a.w,a.dw,_,rfl,tw.hw,rfl,?_⟩;refine⟨sz rfl,λp C d=>?_⟩;have c:=tw.grow d.sm;have f:ap G g [n]=aZ G g n:=by simp[ap]
 refine⟨a.w,a.dw,a.ss,a.og,p,G,[n],g,rfl,c.hw,c.hs.mono c.sb,c.tg.mono c.sb,c.pg,d.lst,by show 1<=1000;decide,(λm hm=>by rw[YH.mp hm];exact⟨sg,hI⟩),λq o y kp hw l=>?_⟩;rw[f]at hw l;have i:a.lk≠a.w:=bJ c.hl c.hw (by intro z;cases z);refine v q o (d.sm.free y) ⟨c.tg,λb u e=>kp b u (aI e c.fw) (c.sb b u e),c.fx,c.fw,c.fl,c.hs,c.hst,kp _ _ c.nxw c.hx,hw,kp _ _ i c.hl,?_⟩ l;obtain⟨r,g',_,B,j,_⟩:=iI tw.tg.ok tw.pg hI;rw[B];exact j
def Jo(K:PySem.W.Frag)(t:Adr):Sp:=λvs H Q _=>∃(b:Hp) (a:Ta) (G:Kt) (g:Int) (ns:f6) (k:Nat) (c:Addr),vs=[.ref a.x,.ref c]/\Tw t b H a G g k/\aG K b c (ns.map V.int)/\ns.length<=1000/\(∀n∈ns,Sg n/\bW G n) /\
 ∀q H',H q=none->Tw t b H' a G (ap G g ns).2 (k+ns.length)->H' q=some (.lst ((ap G g ns).1.map V.int))->Q (.ref q) H'
def EK (T:Txt w K mg t):cc P w K mg base t.cg "turned" 9 t.AQ t.w9 ["self", "things"] (Jo K t):=by
 refine⟨T.dM,T.NW,T.Vb,T.Wn.okQ uG (λvs H Q E h=>by obtain⟨Hb,a,G,g,ns,k,O,rfl,_⟩:=h;rfl) λ_ _ _ _ H vs Q E hr h=>?_⟩;obtain⟨Hb,a,G,g,ns,k,O,rfl,tw,L,ln,hin,kq⟩:=h;have hu:=hr.units;refine⟨_,(af (aP (i:=2) uG.nd rfl (.inl rfl) (aR ad))
  (af (cq PassesOwn.never rfl (c8 (K:=K) rfl (aa 1)) (bi (i:=3) uG.nd rfl (.inl rfl)) (af (ck (cT (K:=K) rfl YJ Zg Zh (Yf K) (aa 2) (ab (cM (Qx (K:=K) T) hr (aa 0) (ab (aa 3) ad)) ad)))
  (ag (uR (K:=K) rfl (aa 0) aj))))
  (ag (am (aa 2))))),?_⟩
 refine⟨sz rfl,λf H1 I=>?_⟩;have a2:Hb f=none:=tw.sb.free I.nw;have t1:=tw.grow I.sm;have D:f≠a.lk:=(aI tw.hl I.nw).symm;refine⟨O,rfl,⟨_,t1.sb.seq L⟩,iy (K:=K) (a:=O) (xs:=ns.map V.int) (λi σ W=>∃(R:Option V),Tw t Hb W a G (ap G g (ns.take i)).2 (k+i)/\W f=some (.lst ((ap G g (ns.take i)).1.map V.int))/\σ=[some (.ref a.x),some (.ref O),some (.ref f),R])
  ⟨_,t1,I.at_,rfl⟩ (λi σ W _ z=>by obtain⟨R,t',_⟩:=z;exact t'.sb.seq L) ?_ ?_⟩
 ·rintro i v σ Y hv ⟨R,o,c,rfl⟩;obtain⟨n,hn,rfl⟩:=dz hv;have hi:i<ns.length:=(Yr.mp hn).1;obtain⟨sn,hI⟩:=hin n (YD hn);refine⟨.inl ⟨rfl,_,.of c⟩,?_⟩;have s:f≠a.x:=bJ c o.hx (by intro z;cases z);have J:f≠a.w:=bJ c o.hw (by intro z;cases z);refine⟨a.x,a.dx,_,rfl,o.hx,rfl,wo Y [a.x,a.w,a.lk],a,G,_,n,k+i,rfl,o.side,sn,hI,λq H3 nq p hq=>?_⟩;have a1:=p.sb _ _ (eP s J D c);have y:ap G g (ns.take (i+1))=((ap G g (ns.take i)).1++(aZ G (ap G g (ns.take i)).2 n).1,(aZ G (ap G g (ns.take i)).2 n).2):=by rw[de hn,jd]
  obtain⟨a4,l1⟩:=gk tw.tg.ok tw.pg i ns λj m _ e=>(hin m (YD e)).2;obtain⟨r,g',_,ef,_,l2⟩:=iI tw.tg.ok a4 hI;have l2:(aZ G (ap G g (ns.take i)).2 n).1.length<=6:=by rw[ef];exact l2
  refine⟨_,_,a1,hq,bM (by rw[Yl,Yl];lia),?_⟩;obtain⟨C,S⟩:∃C,C=upd H3 f (.lst ((ap G g (ns.take i)).1.map V.int++(aZ G (ap G g (ns.take i)).2 n).1.map V.int)):=⟨_,rfl⟩;rw[<- S];have d:∀b u,b≠f->H3 b=some u->C b=some u:=λb u nb e=>by rw[S,ay nb];exact e
  have a0:C f=some (.lst ((ap G g (ns.take (i+1))).1.map V.int)):=by rw[S,aJ,y,Yw]
  clear S;have B:=d _ _ s.symm p.hx;refine⟨a.x,_,a.dx,_,_,rfl,B,T.dM,T.DJ,rfl,_,_,rfl,rfl,a.dx,_,B,Yn (Yu 5) (by decide),?_⟩;obtain⟨F,N⟩:∃F,F=upd C a.x (tR t a (k+(i+1))):=⟨_,rfl⟩;have M:upd C a.x (.ins t.cg a.dx (bZ "many" (.int (((k+i:Nat):Int)+1)) [("stead",.ref a.st),("reader",.ref a.r),("writer",.ref a.w),("many",.int ((k+i:Nat):Int)),("lacking",.ref a.lk)]))=F:=by rw[N];rfl
  rw[M];have l:∀b u,b≠a.x->C b=some u->F b=some u:=λb u nb e=>by rw[N,ay nb];exact e
  have U:F a.x=some (tR t a (k+(i+1))):=by rw[N,aJ]
  clear N M;exact⟨_,⟨tw.tg,λb u e=>l b u (aI e tw.fx) (d b u (aI e a2) (p.sb b u (o.to b u e))),tw.fx,tw.fw,tw.fl,tw.hs,tw.hst,U,l _ _ p.nxw.symm (d _ _ J.symm (by rw[y];exact p.hw)),l _ _ (bJ (d _ _ D.symm p.hl) B (by intro z;cases z)) (d _ _ D.symm p.hl),by rw[y];exact p.pg⟩,l _ _ s a0,rfl⟩
 ·rintro σ Y ⟨R,o,c,rfl⟩;rw[Yl,Yy]at o c;exact kq f Y I.nw o c
structure Tu (t:Adr) (Hb H:Hp) (a:Ta) (b:Addr) (D G:Kt) (ts:f6) (N k m:Nat) (e:Bool):Prop where
 tw:Tw t Hb H a G (ap G 0 (ts.take k)).2 k
 tn:TN t Hb a.o D
 fr:Hb a.r=none
 fb:Hb b=none
 hm:Hb a.mt=some (.lst [])
 nb:b≠a.lk
 hr:H a.r=some (d9 t a.dr a.o b a.mt 0 (ap D 0 (ts.take k)).2 (N:Int) e)
 hb:H b=some (.lst (((rk D ts k).take m).map V.int))
 st:da D ts N k m
 hin:∀n∈ts,bW D n
 yn:∀n∈ts,Sg n/\bW G n
 ln:ts.length<=1000
def bn(a:Ta)(b:Addr):List Addr:=[a.x,a.r,b,a.w,a.lk]
def Br{H:Hp}{a:Ta}{b c:Addr}{u:HO}(g:c≠a.x)(d:c≠a.r)(h:c≠b)(f:c≠a.w)(i:c≠a.lk)(e:H c=some u):wo H (bn a b) c=some u:=eM (by unfold bn;simp only [Yz,Y0,or_false,not_or];exact⟨g,d,h,f,i⟩) e
section
variable {Hb H:Hp}{a:Ta}{b:Addr}{D G:Kt}{ts:f6}{N k m:Nat}{e:Bool}
def Tu.xr(h:Tu t Hb H a b D G ts N k m e):a.x≠a.r:=iO h.tw.hx h.hr (by show (5:Nat)≠7;decide)
def Tu.wr(h:Tu t Hb H a b D G ts N k m e):a.w≠a.r:=iO h.tw.hw h.hr (by show (2:Nat)≠7;decide)
def Tu.xb(h:Tu t Hb H a b D G ts N k m e):a.x≠b:=bJ h.tw.hx h.hb (by intro z;cases z)
def Tu.wb(h:Tu t Hb H a b D G ts N k m e):a.w≠b:=bJ h.tw.hw h.hb (by intro z;cases z)
def Tu.rb(h:Tu t Hb H a b D G ts N k m e):a.r≠b:=bJ h.hr h.hb (by intro z;cases z)
def Tu.lr(h:Tu t Hb H a b D G ts N k m e):a.lk≠a.r:=bJ h.tw.hl h.hr (by intro z;cases z)
def Tu.to(h:Tu t Hb H a b D G ts N k m e):ah Hb (wo H (bn a b)):=λc u q=>Br (aI q h.tw.fx) (aI q h.fr) (aI q h.fb) (aI q h.tw.fw) (aI q h.tw.fl) (h.tw.sb c u q)
def Tu.up{c:Hp}(h:Tu t Hb H a b D G ts N k m e)(s:ah Hb c)(d:ah c H)(fx:c a.x=none)(fr:c a.r=none)(fb:c b=none)(fw:c a.w=none)(fl:c a.lk=none):Tu t c H a b D G ts N k m e :=
 ⟨⟨h.tw.tg.mono s,d,fx,fw,fl,h.tw.hs.mono s,s _ _ h.tw.hst,h.tw.hx,h.tw.hw,h.tw.hl,h.tw.pg⟩,h.tn.mono s,fr,fb,s _ _ h.hm,h.nb,h.hr,h.hb,h.st,h.hin,h.yn,h.ln⟩
def Tu.side(h:Tu t Hb H a b D G ts N k m e):Tu t (wo H (bn a b)) H a b D G ts N k m e:=h.up h.to je (dA (by simp[bn])) (dA (by simp[bn])) (dA (by simp[bn])) (dA (by simp[bn])) (dA (by simp[bn]))
def Tu.back{f n:Hp}{l:Addr}{D0 G0:Kt}{d:f6}{j k0 i:Nat}{g:Bool}(h:Tu t f H a b D G ts N k m e)(c:Tu t Hb n a l D G d j k0 i g)(s:ah Hb f):Tu t Hb H a b D G ts N k m e :=
 ⟨h.tw.back c.tw rfl s,c.tn,c.fr,s.free h.fb,c.hm,h.nb,h.hr,h.hb,h.st,h.hin,h.yn,h.ln⟩
def Tu.other{d:Hp}{L:List Addr}(h:Tu t Hb H a b D G ts N k m e)(s:ah (wo H L) d)(n:∀c∈bn a b,c∉L)(f:∀c∈L,Hb c=none)(i:∀c∈L,∀u,H c≠some (.tup u)):Tu t Hb d a b D G ts N k m e:=by
 have go:∀c u,c∈bn a b->H c=some u->d c=some u:=λc u g q=>s c u (eM (n c g) q)
 exact⟨⟨h.tw.tg,λc u q=>s c u (eM (λz=>by rw[f c z]at q;cases q) (h.tw.sb c u q)),h.tw.fx,h.tw.fw,h.tw.fl,h.tw.hs,h.tw.hst,go _ _ (by simp[bn]) h.tw.hx,go _ _ (by simp[bn]) h.tw.hw,go _ _ (by simp[bn]) h.tw.hl,h.tw.pg⟩,h.tn,h.fr,h.fb,h.hm,h.nb,go _ _ (by simp[bn]) h.hr,go _ _ (by simp[bn]) h.hb,h.st,h.hin,h.yn,h.ln⟩
def Tu.grow{c:Hp}(h:Tu t Hb H a b D G ts N k m e)(s:ah H c):Tu t Hb c a b D G ts N k m e:=⟨h.tw.grow s,h.tn,h.fr,h.fb,h.hm,h.nb,s _ _ h.hr,s _ _ h.hb,h.st,h.hin,h.yn,h.ln⟩
def Tu.not_tup(h:Tu t Hb H a b D G ts N k m e):∀c∈bn a b,∀u,H c≠some (.tup u):=by
 intro c d u q;simp only [bn,Yz,Y0,or_false]at d;rcases d with rfl|rfl|rfl|rfl|rfl
 ·rw[h.tw.hx]at q;cases q
 ·rw[h.hr]at q;cases q
 ·rw[h.hb]at q;cases q
 ·rw[h.tw.hw]at q;cases q
 ·rw[h.tw.hl]at q;cases q
def Tu.none5(h:Tu t Hb H a b D G ts N k m e):∀c∈bn a b,Hb c=none:=by
 intro c d;simp only [bn,Yz,Y0,or_false]at d;rcases d with rfl|rfl|rfl|rfl|rfl
 ·exact h.tw.fx
 ·exact h.fr
 ·exact h.fb
 ·exact h.tw.fw
 ·exact h.tw.fl
end
def iN(G:Kt)(ts:f6)(k k':Nat):f6:=(ap G (ap G 0 (ts.take k)).2 ((ts.take k').drop k)).1
def II(ts:f6){k k':Nat}(h:k<=k'):ts.take k'=ts.take k++(ts.take k').drop k:=by
 have:(ts.take k').take k=ts.take k:=by rw[a0c,Zz h]
 rw[<- this,YV]
def qm(G:Kt)(ts:f6){k k':Nat}(h:k<=k'):ap G 0 (ts.take k')=((ap G 0 (ts.take k)).1++iN G ts k k',(ap G (ap G 0 (ts.take k)).2 ((ts.take k').drop k)).2):=by
 have e:ap G 0 (ts.take k')=ap G 0 (ts.take k++(ts.take k').drop k):=congrArg (λx=>ap G 0 x) (II ts h);rw[e,tZ]
 rfl
def Ji(K:PySem.W.Frag)(t:Adr):Sp:=λvs H Q _=>∃(d:Hp) (a:Ta) (b c:Addr) (D G:Kt) (ts f:f6) (N k m:Nat) (e:Bool),vs=[.ref a.x,.ref c]/\Tu t d H a b D G ts N k m e/\aG K d c (f.map V.int) /\
 (e=false->(∀i,i<f.length->f[i]? = (ap D 0 ts).1[N+i]?)/\∀q b' k' m' H',d q=none->k<=k'->Tu t d H' a b' D G ts (N+f.length) k' m' false->H' q=some (.lst ((iN G ts k k').map V.int))->q∉bn a b'->Q (.ref q) H') /\
 (e=true->∀q H',d q=none->Tu t d H' a b D G ts N k m true->H' q=some (.lst [])->q∉bn a b->Q (.ref q) H')
def uZ{c:Hp}{a:Ta}{b q:Addr}{k u2 i j l:HO}(n:c q=none)(f:c a.x=some k)(d:c a.r=some u2)(h:c b=some i)(e:c a.w=some j)(g:c a.lk=some l):q∉bn a b:=λz=>by
 simp only [bn,Yz,Y0,or_false]at z;rcases z with rfl|rfl|rfl|rfl|rfl
 ·rw[n]at f;cases f
 ·rw[n]at d;cases d
 ·rw[n]at h;cases h
 ·rw[n]at e;cases e
 ·rw[n]at g;cases g
def Qz (T:Txt w K mg t):cc P w K mg base t.cg "feed" 12 t.AT t.xc ["self", "row"] (Ji K t):=by
 refine⟨T.dM,T.NY,T.Vd,T.Wq.okQ KS (λvs H Q E h=>by obtain⟨Hb,a,b,c,D,G,ts,ws,N,k,m,e,rfl,_⟩:=h;rfl) λ_ _ _ _ H vs Q E hr h=>?_⟩;obtain⟨Hb,a,b,c,D,G,ts,ws,N,k,m,e,rfl,d,hc,k1,k2⟩:=h;have hu:=hr.units;have kl:=d.st.1;have ln:=d.ln;refine⟨_,(ag (am (cM (EK (K:=K) T) hr (aa 0) (ab (cM (ES (K:=K) T) hr (aX (K:=K) rfl (aa 0)) (ab (aa 1) ad)) ad)))),?_⟩;refine⟨a.x,a.dx,_,rfl,d.tw.hx,rfl,?_⟩;refine⟨a.x,_,a.dx,_,_,rfl,d.tw.hx,T.dM,T.qu,rfl,a.r,a.dr,_,rfl,d.hr,rfl,?_⟩;cases e with
 | true =>
  refine .inr ⟨a.r,a.dr,a.o,b,a.mt,c,0,_,_,rfl,d.hr,λq I y=>?_⟩;have f:=d.grow y.sm;refine⟨wo I [a.x,a.w,a.lk],a,G,_,[],k,q,rfl,f.tw.side,.of (eP (bJ y.at_ f.tw.hx (by intro z;cases z)) (bJ y.at_ f.tw.hw (by intro z;cases z)) (aI d.tw.hl y.nw).symm y.at_),by decide,(λn S=>nomatch S),λq2 O g s u=>?_⟩;exact k2 rfl q2 O (f.tw.sb.free g) ⟨s.back f.tw rfl f.tw.to,d.tn,d.fr,d.fb,d.hm,d.nb,s.sb _ _ (eP f.xr.symm f.wr.symm f.lr.symm f.hr),s.sb _ _ (eP f.xb.symm f.wb.symm f.nb f.hb),d.st,d.hin,d.yn,d.ln⟩ u (uZ g f.tw.hx f.hr f.hb f.tw.hw f.tw.hl)
 | false =>
  obtain⟨R,kq⟩:=k1 rfl;have p:ah Hb (wo H [a.r,b,b]):=t4 d.tw.sb d.fr d.fb d.fb;refine .inl ⟨wo H [a.r,b,b],a.r,a.dr,a.o,b,a.mt,c,D,ts,ws,0,N,k,m,rfl,d.tn.mono p,je,dA (by simp),dA (by simp),d.hin,d.ln,p.seq hc,R,⟨d.hr,d.hb⟩,d.st,λq b' k' m' I s1 V B aj a3 hq hk v=>?_⟩;have F:=s1 _ _ (eP d.xr d.xb d.xb d.tw.hx);have J:=s1 _ _ (eP d.wr d.wb d.wb d.tw.hw);have l1:=s1 _ _ (eP d.lr d.nb.symm d.nb.symm d.tw.hl);have j:Tw t Hb I a G (ap G 0 (ts.take k)).2 k:=⟨d.tw.tg,p.trans s1,d.tw.fx,d.tw.fw,d.tw.fl,d.tw.hs,d.tw.hst,F,J,l1,d.tw.pg⟩;have nl:((ts.take k').drop k).length=k'-k:=by rw[YY,Yp];have:=v.1;lia
  have a1:q≠a.x:=aI d.tw.hx V |>.symm;have U:q≠a.w:=aI d.tw.hw V |>.symm;have a4:q≠a.lk:=aI d.tw.hl V |>.symm;have af:=v.1;refine⟨wo I [a.x,a.w,a.lk],a,G,_,(ts.take k').drop k,k,q,rfl,j.side,.of (eP a1 U a4 hq),by lia,(λn S=>d.yn n (Zf (YX S))),λq2 O g s u=>?_⟩;have M:k+((ts.take k').drop k).length=k':=by lia
  have L:(ap G (ap G 0 (ts.take k)).2 ((ts.take k').drop k)).2=(ap G 0 (ts.take k')).2:=by rw[qm G ts hk]
  rw[M,L]at s;obtain⟨i,l⟩:=a3;have a7:=iO F i (by show (5:Nat)≠7;decide);have W:=iO J i (by show (2:Nat)≠7;decide);have a0:a.lk≠a.r:=bJ l1 i (by intro z;cases z);have Y:a.x≠b':=bJ F l (by intro z;cases z);have a2:a.w≠b':=bJ J l (by intro z;cases z);have C:b'≠a.lk:=λz=>by
   have:=eP (H:=H) d.lr d.nb.symm d.nb.symm d.tw.hl;rw[<- z,B]at this;cases this
  exact kq q2 b' k' m' O (j.sb.free g) hk ⟨s.back j rfl j.to,d.tn,d.fr,p.free B,d.hm,C,s.sb _ _ (eP a7.symm W.symm a0.symm i),s.sb _ _ (eP Y.symm a2.symm C l),v,d.hin,d.yn,d.ln⟩ u (uZ g F i l J l1)
def Jj(t:Adr):Sp:=λvs H Q _=>∃(c:Hp) (a:Ta) (b:Addr) (D G:Kt) (ts:f6) (N k:Nat) (e:Bool),vs=[.ref a.x]/\Tu t c H a b D G ts N k 0 e /\
 ∀q H',c q=none->Tu t c H' a b D G ts N k 0 true->H' q=some (.lst [])->q∉bn a b->Q (.ref q) H'
def QC (T:Txt w K mg t):cc P w K mg base t.cg "end" 12 t.AV t.xg ["self"] (Jj t):=by
 refine⟨T.dM,T.N1,T.Vf,T.Wt.okQ KW (λvs H Q E h=>by obtain⟨s,a,b,D,G,ts,N,k,e,rfl,_⟩:=h;rfl) λ_ _ _ _ H vs Q E hr h=>?_⟩;obtain⟨s,a,b,D,G,ts,N,k,e,rfl,d,C⟩:=h;have J:=hr.units;have I:=d.st.1;have ln:=d.ln;refine⟨_,(ag (am (cM (EK (K:=K) T) hr (aa 0) (ab (dX (ET (K:=K) T) hr (aX (K:=K) rfl (aa 0))) ad)))),?_⟩;refine⟨a.x,a.dx,_,rfl,d.tw.hx,rfl,?_⟩;refine⟨a.x,_,a.dx,_,_,rfl,d.tw.hx,T.dM,T.qu,rfl,a.r,a.dr,_,rfl,d.hr,rfl,?_⟩;refine⟨a.r,a.dr,a.o,b,a.mt,0,_,_,e,rfl,d.hr,d.hb,λq p F kp i l=>?_⟩;have f:Tu t s p a b D G ts N k 0 true:=⟨⟨d.tw.tg,λc u e=>kp c u (aI e d.fr) (d.tw.sb c u e),d.tw.fx,d.tw.fw,d.tw.fl,d.tw.hs,d.tw.hst,kp _ _ d.xr d.tw.hx,kp _ _ d.wr d.tw.hw,kp _ _ d.lr d.tw.hl,d.tw.pg⟩,d.tn,d.fr,d.fb,d.hm,d.nb,i,kp _ _ d.rb.symm d.hb,d.st,d.hin,d.yn,d.ln⟩;refine⟨wo p [a.x,a.w,a.lk],a,G,_,[],k,q,rfl,f.tw.side,.of (eP (bJ l f.tw.hx (by intro z;cases z)) (bJ l f.tw.hw (by intro z;cases z)) (aI d.tw.hl F).symm l),by decide,(λn v=>nomatch v),λy B g j m=>?_⟩;exact C y B (f.tw.sb.free g) ⟨j.back f.tw rfl f.tw.to,d.tn,d.fr,d.fb,d.hm,d.nb,j.sb _ _ (eP f.xr.symm f.wr.symm f.lr.symm f.hr),j.sb _ _ (eP f.xb.symm f.wb.symm f.nb f.hb),d.st,d.hin,d.yn,d.ln⟩ m (uZ g f.tw.hx f.hr f.hb f.tw.hw f.tw.hl)
def Cj(t:Adr):Sp:=λvs H Q _=>∃(c:Hp) (a:Ta) (b:Addr) (D G:Kt) (ts:f6) (N k m:Nat) (e:Bool),vs=[.ref a.x]/\Tu t c H a b D G ts N k m e/\∀q H',bc H q (.lst []) H'->Q (.ref q) H'
def QB (T:Txt w K mg t):cc P w K mg base t.cg "faults" 2 t.AU t.xf ["self"] (Cj t):=by
 refine⟨T.dM,T.NZ,T.Ve,T.Ws.okQ KU (λvs H Q E h=>by obtain⟨d,a,b,D,G,ts,N,k,m,e,rfl,_⟩:=h;rfl) λ_ _ _ _ H vs Q E hr h=>?_⟩;obtain⟨d,a,b,D,G,ts,N,k,m,e,rfl,c,f⟩:=h;refine⟨_,(ag (am (dX (vD (K:=K) T) hr (aX (K:=K) rfl (aa 0))))),?_⟩;refine⟨a.x,_,a.dx,_,_,rfl,c.tw.hx,T.dM,T.qu,rfl,a.r,a.dr,_,rfl,c.hr,rfl,?_⟩;exact⟨a.r,a.dr,a.o,b,a.mt,0,_,_,e,rfl,c.hr,c.tw.sb _ _ c.hm,f⟩
def Qy (T:Txt w K mg t):cc P w K mg base t.cg "lacks" 1 t.AR t.xa ["self"] (Cj t):=by
 refine⟨T.dM,T.NX,T.Vc,T.Wo.okQ KQ (λvs H Q E h=>by obtain⟨d,a,b,D,G,ts,N,k,m,e,rfl,_⟩:=h;rfl) λ_ _ _ _ H vs Q E hr h=>?_⟩;obtain⟨d,a,b,D,G,ts,N,k,m,e,rfl,c,f⟩:=h;refine⟨_,(ag (am (eV (Ye K) T.n_list Y4 (ab (aX (K:=K) rfl (aa 0)) ad)))),?_⟩;refine⟨a.x,_,a.dx,_,_,rfl,c.tw.hx,T.dM,T.DK,rfl,?_⟩;exact⟨_,.inl (.of c.tw.hl),f⟩
def PV (T:Txt w K mg t):gg P w K mg base "GoingReader" t.fe 1 t.Bd t.ri ["self", "tongue", "way", "place"] [.int 0] uq:=⟨T.Rt,T.OK,⟨_,T.Uf,.cons ⟨_,rfl⟩ .nil⟩,T.Xa.okQ Lo (λvs H Q E h=>h.elim) λa A outer s H vs Q E hr h=>h.elim⟩
def JR(t:Adr):Sp:=λvs H Q _=>∃(d:Hp) (x dx o og:Addr) (D G:Kt),vs=[.ref x,.ref o,.ref og,.non,.non]/\H x=some (.ins t.cg dx [])/\TN t d o D/\TN t d og G/\ah d H/\d x=none /\
 ∀(a:Ta) (b:Addr) (e:Hp),a.x=x->Kp x H e->(∀c∈bn a b,c=x\/H c=none)->(∀c∈[a.st,a.mt,a.ss],H c=none)->a.o=o->a.og=og->(∀ts:f6,(∀n∈ts,bW D n)->(∀n∈ts,Sg n/\bW G n)->ts.length<=1000->Tu t (wo e (bn a b)) e a b D G ts 0 0 0 false)->Q .non e
def PL (T:Txt w K mg t):gg P w K mg base "Turner" t.cg 8 t.AS t.rc ["self", "source", "goal", "way", "instead"] [.non,.non] (JR t):=⟨T.Rj,T.OB,⟨_,T.Uc,.cons rfl (.cons rfl .nil)⟩,by
 refine T.Wp.okQ KR (λvs H Q E h=>by obtain⟨Hb,x,dx,o,og,D,G,rfl,_⟩:=h;rfl) λ_ _ _ _ H vs Q E hr h=>?_;obtain⟨Hb,x,dx,o,og,D,G,rfl,hx,tn,tg,sb,fx,kq⟩:=h;have hu:=hr.units;refine⟨_,(af (bQ (K:=K) rfl (aa 0) (gw (aQ hE (aa 4) ce (aS _)) (aR ad) (aR (ab (aa 4) ad))))
  (af (ck (aD (vz (K:=K) T) hr (ab (aa 2) (ab (aX (K:=K) rfl (aa 0)) ad))))
  (af (bQ (K:=K) rfl (aa 0) (gw (aQ hE (aa 3) ce (aS _)) (fW (Eu (K:=K) T) hr (ab (aa 1) ad)) (fW (PV (K:=K) T) hr (ab (aa 1) (ab (aa 3) ad)))))
  (af (bQ (K:=K) rfl (aa 0) (fW (PP (K:=K) T) hr (ab (aa 2) ad)))
  (af (bQ (K:=K) rfl (aa 0) aj)
  (ag (bQ (K:=K) rfl (aa 0) (aR ad)))))))),?_⟩
 refine⟨sz rfl,λst H1 g1=>?_⟩;have s1:=sb.trans g1.sm;have l:st≠x:=(aI hx g1.nw).symm;refine⟨x,_,dx,_,rfl,g1.sm _ _ hx,T.dM,T.DI,Yn Zr (by decide),?_⟩;refine⟨x,_,dx,_,_,rfl,aJ,T.dM,T.DI,rfl,?_⟩;have s2:ah Hb (upd H1 x (.ins t.cg dx [("stead",.ref st)])):=s1.put fx;refine⟨og,st,G,[],rfl,tg.mono s2,.of (by rw[ay l];exact g1.at_),by decide,(λn hn=>nomatch hn),λq s nq s3 hq=>?_⟩;have b7:=s2.trans s3;have U:=s3 x _ aJ;have v:s st=some (.lst []):=s3 st _ (by rw[ay l];exact g1.at_);have au:Kp x H s:=(Kp.of g1.sm).trans (Kp.upd.trans (Kp.of s3));refine λr dr hr aT b6=>?_;have I:=fR (C:=t.bY) hr aT;refine⟨r,dr,o,0,rfl,aJ,λb mt H4 nb nm aL k4 aW ax ap=>⟨rfl,?_⟩⟩;have p:ah s H4:=λc u e=>k4 c u (aI e hr) (I c u e);have a6:r≠x:=(aI U hr).symm;have ae:b≠x:=(aI U (I.free nb)).symm;have a5:mt≠x:=(aI U (I.free nm)).symm;refine⟨x,_,dx,_,rfl,p _ _ U,T.dM,T.qu,Yn (Yu 1) (by decide),?_⟩;obtain⟨V,e5⟩:∃V,V=upd H4 x (.ins t.cg dx [("stead",.ref st),("reader",.ref r)]):=⟨_,rfl⟩;have av:upd H4 x (.ins t.cg dx (bZ "reader" (.ref r) (bZ "stead" (.ref st) [])))=V:=by rw[e5];rfl
 rw[av];have a7:∀c u,c≠x->H4 c=some u->V c=some u:=λc u n e=>by rw[e5,ay n];exact e
 have a3:V x=some (.ins t.cg dx [("stead",.ref st),("reader",.ref r)]):=by rw[e5,aJ]
 clear e5 av;refine λJ dw hw aH b4=>?_;have al:=fR (C:=t.fk) hw aH;refine⟨J,dw,og,rfl,aJ,λss H6 k6 aZ b0 N=>⟨rfl,?_⟩⟩;have R:ah V H6:=λc u e=>k6 c u (aI e hw) (al c u e);have O:J≠x:=(aI a3 hw).symm;refine⟨x,_,dx,_,rfl,R _ _ a3,T.dM,T.DH,Yn (Yu 2) (by decide),?_⟩;refine⟨x,_,dx,_,rfl,aJ,T.dM,T.DJ,Yn (Yu 3) (by decide),?_⟩;refine⟨sz rfl,λlk H9 g9=>?_⟩;have aN:=g9.sm x _ aJ;have m:lk≠x:=(aI aJ g9.nw).symm;refine⟨x,_,dx,_,rfl,aN,T.dM,T.DK,Yn (Yu 4) (by decide),?_⟩;obtain⟨a,ea⟩:∃a:Ta,a=⟨x,dx,st,r,dr,o,mt,J,dw,ss,og,lk⟩:=⟨_,rfl⟩;have aO:∀c u,c≠x->H6 c=some u->H9 c=some u:=λc u n e=>g9.sm c u (by rw[ay n,ay n];exact e);generalize hH:upd H9 x _=H10;have ar:∀c u,c≠x->H9 c=some u->H10 c=some u:=λc u n e=>by rw[<- hH,ay n];exact e
 have ak:H10 x=some (tR t a 0):=by rw[<- hH,aJ,ea];rfl
 clear hH;have a9:∀c u,c≠x->H6 c=some u->H10 c=some u:=λc u n e=>ar c u n (aO c u n e);have B:∀c u,c≠x->H4 c=some u->H10 c=some u:=λc u n e=>a9 c u n (R c u (a7 c u n e));have i:=B _ _ a6 aW;have Y:=B _ _ ae ax;have y:=B _ _ a5 ap;have f:=B _ _ l (p _ _ v);have k:=a9 _ _ O b0;have W:=ar _ _ m g9.at_;obtain⟨ds,N⟩:=N;have M:ss≠x:=iO N (R _ _ a3) (by show (1:Nat)≠2;decide);have d:=a9 _ _ M N;have aw:s r=none:=hr;have a1:s b=none:=I.free nb;have aV:V J=none:=hw;have an:∀c,c≠x->V c=none->s c=none:=λc n e=>by
  cases z:s c with
  | none=>rfl
  | some u=>rw[a7 c u n (p c u z)]at e;cases e
 have ao:H6 lk=none:=by
  cases z:H6 lk with
  | none=>rfl
  | some u=>have q:=g9.nw;rw[ay m,ay m,z]at q;cases q
 have S:∀u,H4 lk≠some u:=λu z=>by rw[R _ _ (a7 _ _ m z)]at ao;cases ao
 have bl:b≠lk:=λz=>S _ (z ▸ ax);have ml:mt≠lk:=λz=>S _ (z ▸ ap);have aK:st≠lk:=λz=>S _ (z ▸ p _ _ v);have aY:st≠b:=aI v a1;have g:∀c,c≠x->s c=none->H c=none:=λc n e=>by
  cases z:H c with
  | none=>rfl
  | some u=>rw[au c u n z]at e;cases e
 have aC:s lk=none:=by
  cases z:s lk with
  | none=>rfl
  | some u=>exact aab (p _ _ z) (S u)
 have az:s J=none:=an _ O aV;have L:∀c,c≠x->s c=none->Hb c=none:=λc n e=>sb.free (g c n e);have fv:bn a b=[x,r,b,J,lk]:=by rw[ea];rfl
 have aq:Kp x H H10:=λc u n e=>B c u n (p c u (au c u n e));have sW:ah Hb (wo H10 (bn a b)):=λc u e=>by
  have aA:c≠x:=aI e fx;refine eM (λz=>?_) (aq c u aA (sb c u e));rw[fv]at z;simp only [Yz,Y0,or_false]at z;rcases z with z|z|z|z|z
  ·exact aA z
  ·rw[z,L _ a6 aw]at e;cases e
  ·rw[z,L _ ae a1]at e;cases e
  ·rw[z,L _ O az]at e;cases e
  ·rw[z,L _ m aC]at e;cases e
 have aM:H ss=none:=g _ M (an _ M (al.free aZ));have aU:H mt=none:=g _ a5 (I.free nm);refine kq a b H10 (by rw[ea]) aq (λc hc=>?_) (λc hc=>?_) (by rw[ea]) (by rw[ea]) λts hin yn ln=>?_
 ·rw[fv]at hc;simp only [Yz,Y0,or_false]at hc;rcases hc with rfl|rfl|rfl|rfl|rfl
  ·exact .inl rfl
  ·exact .inr (g _ a6 aw)
  ·exact .inr (g _ ae a1)
  ·exact .inr (g _ O az)
  ·exact .inr (g _ m aC)
 ·rw[ea]at hc;simp only [Yz,Y0,or_false]at hc;rcases hc with rfl|rfl|rfl
  ·exact g1.nw
  ·exact aU
  ·exact aM
 subst ea;have a4:∀c u,c≠x->c≠r->c≠b->c≠J->c≠lk->H10 c=some u->wo H10 (bn ⟨x,dx,st,r,dr,o,mt,J,dw,ss,og,lk⟩ b) c=some u:=λc u n1 n2 n3 n4 n5 e=>Br n1 n2 n3 n4 n5 e;have F:∀c,c∈bn ⟨x,dx,st,r,dr,o,mt,J,dw,ss,og,lk⟩ b->wo H10 (bn ⟨x,dx,st,r,dr,o,mt,J,dw,ss,og,lk⟩ b) c=none:=λc h=>dA h;refine⟨⟨tg.mono sW,je,F _ (by simp[bn]),F _ (by simp[bn]),F _ (by simp[bn]),⟨ds,a4 _ _ M (iO d i (by show (1:Nat)≠7;decide)) (bJ d Y (by intro z;cases z)) (iO d k (by show (1:Nat)≠2;decide)) (bJ d W (by intro z;cases z)) d⟩,a4 _ _ l (bJ f i (by intro z;cases z)) aY (bJ f k (by intro z;cases z)) aK f,ak,k,W,ik G⟩,tn.mono sW,F _ (by simp[bn]),F _ (by simp[bn]),a4 _ _ a5 (bJ y i (by intro z;cases z)) aL.symm (bJ y k (by intro z;cases z)) ml y,bl,i,Y,da.zero λj hj=>uM tn.ok hin hj,hin,yn,ln⟩⟩
def da.full{D:Kt}{ts:f6}{N k m:Nat}(h:da D ts N k m)(e:N=(ap D 0 ts).1.length):k=ts.length/\m=0:=by
 refine h.uniq ⟨Ym _,?_,by lia,(λ_=>rfl),(λz=>aab z (Y5 _))⟩;rw[e,Yy,Yy];simp
def Jy(K:PySem.W.Frag)(t:Adr):Sp:=λvs H Q _=>∃(o a:Addr) (D:Kt) (ts:f6),vs=[.ref o,.ref a]/\TN t H o D/\(∀n∈ts,bW D n)/\ts.length<=1000/\aG K H a ((ap D 0 ts).1.map V.int)/\∀q H',ah H H'->H q=none->H' q=some (.lst (ts.map V.int))->Q (.ref q) H'
def Ez (T:Txt w K mg t):bz P w K mg base "read" 11 t.Ag t.wv ["tongue", "row"] (Jy K t):=by
 refine⟨T.RU,T.GT.kp,T.UD,T.GT.okQ pY (λvs H Q E h=>by obtain⟨o,a,D,ts,rfl,_⟩:=h;rfl) λ_ _ _ _ H vs Q E hr h=>?_⟩;obtain⟨o,a,D,ts,rfl,tn,hin,hl,R,k⟩:=h;have hu:=hr.units;refine⟨_,(af (aP (i:=2) pY.nd rfl (.inl rfl) (fW (Eu (K:=K) T) hr (ab (aa 0) ad)))
  (af (aP (i:=3) pY.nd rfl (.inl rfl) (cM (ES (K:=K) T) hr (aa 2) (ab (aa 1) ad)))
  (af (ck (dX (ET (K:=K) T) hr (aa 2)))
  (af (aL (dE (K:=K) rfl (dX (vD (K:=K) T) hr (aa 2))) (af (aP (i:=4) pY.nd rfl (.inl rfl) (aE (Yc K) (dX (vD (K:=K) T) hr (aa 2)) aj (λ_ _=>rfl)))
  (ag eU)) aN)
  (ag (am (aa 3))))))),?_⟩
 refine λx dx hx s Y=>?_;have sm:=fR (C:=t.bY) hx s;refine⟨x,dx,o,0,rfl,aJ,λb mt G nb nm p k1 c r l=>⟨rfl,?_⟩⟩;have s1:ah H G:=λa u e=>k1 a u (aI e hx) (sm a u e);have g:H b=none:=sm.free nb;have d:ah H (wo G [x,b,b]):=t4 s1 hx g g;have m:mt≠x:=bJ l c (by intro z;cases z);refine⟨x,dx,_,rfl,c,rfl,?_⟩;refine .inl ⟨wo G [x,b,b],x,dx,o,b,mt,a,D,ts,(ap D 0 ts).1,0,0,0,0,rfl,tn.mono d,je,dA (by simp),dA (by simp),hin,hl,d.seq R,(λi hi=>by rw[Nat.zero_add]),⟨c,r⟩,da.zero λj hj=>uM tn.ok hin hj,λq b' k' m' H2 M U N V F I hk v=>?_⟩;obtain⟨W,em⟩:=v.full (Nat.zero_add _);subst W em;obtain⟨f,J⟩:=F;have y:=M _ _ (eP m p.symm p.symm l);rw[Yy,ZX]at I;have L:q≠x:=bJ I f (by intro z;cases z);refine⟨x,dx,_,rfl,f,rfl,x,dx,o,b',mt,0,_,_,false,rfl,f,J,λp3 H3 n3 k3 n O=>?_⟩;refine⟨x,dx,_,rfl,n,rfl,x,dx,o,b',mt,0,_,_,true,rfl,n,k3 _ _ m y,λp4 S B=>?_⟩;refine⟨_,.inl B.lst,?_⟩;exact k q S (λa u e=>B.sm _ _ (k3 _ _ (aI e hx) (M _ _ (d _ _ e)))) (s1.free U) (B.sm _ _ (k3 _ _ L I))
def QZ (T:Txt w K mg t):dR P w K mg base t.bR "spell" 4 t.o7 t.mR ["self", "sign", "page"] [.int 0] (nj t):=⟨T.gd,T.DR,⟨_,T.Ue,.cons ⟨_,rfl⟩ .nil⟩,DD T⟩
def JH(t:Adr):Sp:=λvs H Q _=>∃(o:Addr) (h:Bool),vs=[.ref o]/\Po t H o h/\∀p H',bc H p (.lst ((bN h 65279).map V.int)) H'->Q (.ref p) H'
def EC (T:Txt w K mg t):bz P w K mg base "mark_row" 5 t.Am t.wA ["tongue"] (JH t):=by
 refine⟨T.R3,T.GY.kp,T.UI,T.GY.okQ Kx (λvs H Q E h=>by obtain⟨o,h,rfl,_⟩:=h;rfl) λ_ _ _ _ H vs Q E hr h=>?_⟩;obtain⟨o,h,rfl,po,k⟩:=h;refine⟨_,(ag (am (aE (Yc K) (cL (QZ (K:=K) T) hr (aa 0) (ab (bE T.TW) ad)) aj (λ_ _=>rfl)))),?_⟩;obtain⟨dx,b⟩:=id po;refine⟨o,dx,_,rfl,b,rfl,?_⟩;refine⟨o,h,65279,rfl,po,by unfold Sg;decide,λp q e c s1 d a=>?_⟩;exact⟨_,.ref q,.inr (.of a),ba (j:=0) rfl,k _ _ ⟨c,s1,d⟩⟩
def Dk{H:Hp}{o dx:Addr}{u v a:HO}(d:H o=none)(c:H dx=none):ah H (upd (upd (upd H dx u) o v) o a):=λb e q=>by
 rw[ay (aI q d),ay (aI q d),ay (aI q c)];exact q
def JK(K:PySem.W.Frag):Sp:=λvs H Q _=>∃(a:Addr) (h:Bool) (ns:f6),vs=[.ref a,.str (cr h)]/\aG K H a (ns.map V.int)/\ns.length<=300/\(∀n∈ns,Sg n)/\∀p H',bc H p (.lst ((bN h 65279++(ap (.pr h) 0 ns).1).map V.int)) H'->Q (.ref p) H'
def Qj (T:Txt w K mg t):Gw P w K mg base "marked" 8 t.Ak t.qY ["text", "order"] [] (JK K):=⟨T.R1,T.GX.kp,⟨_,T.UH,.nil⟩,by
 refine T.GX.okQ CC (λvs H Q E h=>by obtain⟨a,h,ns,rfl,_⟩:=h;rfl) λ_ _ _ _ H vs Q E hr h=>?_;obtain⟨a,h,ns,rfl,p,hl,hs,k⟩:=h;have y:=hr.units;refine⟨_,(af (aP (i:=2) CC.nd rfl (.inl rfl) (fW (qJ (K:=K) T) hr (ab (aa 1) ad)))
  (ag (am (az (Ya K) (aD (EC (K:=K) T) hr (ab (aa 2) ad)) (aD (vz (K:=K) T) hr (ab (aa 2) (ab (aa 0) ad))))))),?_⟩
 refine λo dx s d r=>⟨o,dx,h,rfl,aJ,rfl,?_⟩;obtain⟨c,f⟩:∃c,c=upd (upd (upd H dx (.own o)) o (.ins t.bR dx [])) o (.ins t.bR dx [("order",.str (cr h))]):=⟨_,rfl⟩;have s1:ah H c:=by rw[f];exact Dk s d
 have j:Po t c o h:=⟨dx,by rw[f];exact aJ⟩;rw[<- f];refine⟨o,h,rfl,j,λF v b=>?_⟩;refine⟨o,a,.pr h,ns,rfl,j.mono b.sm,b.sm.seq (s1.seq p),by lia,(λn m=>⟨hs n m,hs n m⟩),λu B C g q=>?_⟩;have tl:=(gk (D:=.pr h) trivial rfl ns.length ns λi n _ e=>hs n (YD e)).2;rw[Yy]at tl;have pl:=qj h 65279;refine⟨_,_,g.seq b.lst,.of q,bM (by rw[Yl,Yl];lia),λx z l=>?_⟩;rw[<- Yw]at l;exact k _ _ (l.after (s1.trans (b.sm.trans g)))⟩
def apart(r:f6):Option Bool × f6:=if r.take 2=[254,255] then (some true,r.drop 2) else if r.take 2=[255,254] then (some false,r.drop 2) else (none,r)
def aV(o:Option Bool):V:=o.elim .non λh=>.str (cr h)
def vi:bN true 65279=[254,255]:=by decide
def vh:bN false 65279=[255,254]:=by decide
def Jg(K:PySem.W.Frag):Sp:=λvs H Q _=>∃(a:Addr) (r:f6),vs=[.ref a]/\aG K H a (r.map V.int)/\r.length<=1000/\∀p q H',H q=none->ah H H'->H' q=some (.lst ((apart r).2.map V.int))->H' p=some (.tup [aV (apart r).1,.ref q])->Q (.ref p) H'
def Qf (T:Txt w K mg t):bz P w K mg base "unmarked" 6 t.Ab t.wn ["row"] (Jg K):=by
 refine⟨T.RL,T.GO.kp,T.Uy,T.GO.okQ uy (λvs H Q E h=>by obtain⟨a,r,rfl,_⟩:=h;rfl) λ_ _ _ _ H vs Q E hr h=>?_⟩;obtain⟨a,r,rfl,I,hl,k⟩:=h;have Y:=hr.units;refine⟨_,(af (cq PassesOwn.never rfl (C7 (K:=K) rfl (fG (v:=.ref t.tK) rfl T.TQ rfl)) (bi (i:=1) uy.nd rfl (.inl rfl)) (af (aP (i:=2) uy.nd rfl (.inl rfl) (aD (EC (K:=K) T) hr (ab (fW (qJ (K:=K) T) hr (ab (aa 1) ad)) ad)))
  (ag (aL (dD (aD (qK (K:=K) T) hr (ab (aa 2) (ab (aa 0) ad)))) (ag (am (cm (ab (aa 1) (ab (cD (Yd K) (aa 0) (bU (bu (Yb K) T.n_len Yq (ab (aa 2) ad))) dU) ad))))) aN))))
  (ag (am (cm (ab ce (ab (eV (Ye K) T.n_list Y4 (ab (aa 0) ad)) ad)))))),?_⟩
 refine⟨_,rfl,⟨_,T.Di _⟩,Fk (K:=K) (a:=t.tK) (xs:=([cr true,cr false]:List Str).map V.str) (λi σ G=>ah H G/\(0<i->r.take 2≠[254,255])/\(1<i->r.take 2≠[255,254])/\∃u p,σ=[some (.ref a),u,p]) ⟨ah.refl _,λz=>aab z (by decide),λz=>aab z (by decide),_,_,rfl⟩ (λi σ G _ z=>T.Di _) ?_ ?_⟩
 ·rintro i x σ s hx ⟨d,j,J,u,p,rfl⟩;obtain⟨h,ex,ih⟩:∃h:Bool,x=.str (cr h)/\(i=if h then 0 else 1):=by
   match i,hx with
   | 0,hx=>cases hx;exact⟨true,rfl,rfl⟩
   | 1,hx=>cases hx;exact⟨false,rfl,rfl⟩
  subst ex;refine λo dx U q R=>⟨o,dx,h,rfl,aJ,rfl,?_⟩;obtain⟨m,D⟩:∃m,m=upd (upd (upd s dx (.own o)) o (.ins t.bR dx [])) o (.ins t.bR dx [("order",.str (cr h))]):=⟨_,rfl⟩;have L:ah s m:=by rw[D];exact Dk U q
  have N:Po t m o h:=⟨dx,by rw[D];exact aJ⟩;rw[<- D];refine⟨o,h,rfl,N,λS H4 y=>?_⟩;have l:=d.trans (L.trans y.sm);have f:=l.seq I;have eL:(bN h 65279).length=2:=by cases h<;>decide
  refine⟨S,a,bN h 65279,r,rfl,y.lst,f,λW g=>?_⟩;refine ao (λe=>?_) (λe=>?_)
  ·have e:=aac e;rw[eL]at e;have B:apart r=(some h,r.drop 2):=by
    unfold apart;cases h with
    | true=>rw[vi]at e;rw[aaa e]
    | false =>
     rw[vh]at e;rw[on (j (by rw[ih];decide)),aaa e]
   rw[B]at k;refine⟨_,.inl (g.seq y.lst),?_⟩;refine⟨_,rfl,_,g.seq f,λn O b=>?_⟩;have M:cn (r.map V.int) (some (((bN h 65279).map V.int).length:Int)) none=(r.drop 2).map V.int:=by rw[dL,Yl,eL];exact congrArg _ (i3 r 2)
   rw[M]at b;exact⟨sz rfl,λF C c=>k F n C (b.after (l.trans g)).nw ((l.trans g).trans (b.sm.trans c.sm)) (c.sm _ _ b.at_) c.at_⟩
  ·have e:¬r.take (bN h 65279).length=bN h 65279:=λz=>e (aad z);rw[eL]at e;refine⟨l.trans g,λz=>?_,λz=>?_,_,_,rfl⟩
   ·cases h with
    | true=>rw[vi]at e;exact e
    | false=>exact j (by rw[ih];decide)
   ·cases h with
    | true=>rw[ih]at z;exact aab z (by decide)
    | false=>rw[vh]at e;exact e
 ·rintro σ s ⟨d,j,J,u,p,rfl⟩;have B:apart r=(none,r):=by unfold apart;rw[on (j (by decide)),on (J (by decide))]
  rw[B]at k;refine⟨_,.inl (d.seq I),λn O b=>?_⟩;exact⟨sz rfl,λF C c=>k F n C (b.after d).nw (d.trans (b.sm.trans c.sm)) (c.sm _ _ b.at_) c.at_⟩
end
end My
namespace My.Lw
open PySem L2
section
variable {P:Program}{w:World}{K:PySem.W.Frag}{mg:Str->Option Value}{base:Heap}{t:Adr}
def JU(K:PySem.W.Frag):Sp:=λvs H Q _=>∃(a:Addr) (g:f6),vs=[.ref a]/\aG K H a (g.map V.int)/\L2.Byts g/\0<g.length/\g.length<=3/\∀p H',bc H p (.lst ((bG g).map V.int)) H'->Q (.ref p) H'
def Qr (T:Txt w K mg t):bz P w K mg base "group_letters" 3 t.AB t.wO ["row"] (JU K):=by
 refine⟨T.Sl,T.Hf.kp,T.UX,T.Hf.okQ CD (λvs H Q E h=>by obtain⟨a,g,rfl,_⟩:=h;rfl) λ_ _ _ _ H vs Q E hr h=>?_⟩;obtain⟨a,g,rfl,n,hb,l1,u,k⟩:=h;refine⟨_,(af (aP (i:=1) CD.nd rfl (.inl rfl) (aD (n6 (K:=K) T) hr (ab (az (Ya K) (aa 0) (az qM (aR (ab aj ad)) (az cA (bE T.o4) (bu (Yb K) T.n_len Yq (ab (aa 0) ad))))) (ab (bE T.sS) ad))))
  (ag (am (iL rfl (cZ.of (fns:=(ae jl).names) (N:=["row", "number"]) (Nc:=["part"]) (nv:=1) (caps:=[]) rfl rfl (by decide +kernel)) (c8 (K:=K) rfl (cD (Yd K) (aD (oa (K:=K) T) hr (ab (aa 1) (ab (bE T.FQ) (ab (bE T.o0) ad)))) dU (bU (az (Ya K) (bu (Yb K) T.n_len Yq (ab (aa 0) ad)) aj)))) (λ_ _ _ _=>(bi (i:=0) (show List.Nodup (["part"]:List Str) by decide +kernel) rfl (Or.inl rfl) (Or.inr rfl))) (λ_ _ _ _=>fD) (λ_ _ _ _=>(aE (Yc K) (fG (v:=.ref t.mY) rfl T.zC rfl) (aa 0) (λ_ _=>rfl))))))),?_⟩
 refine⟨sz rfl,λp1 H1 l=>?_⟩;refine⟨_,.inl (l.sm.seq n),?_⟩;have hL:((g.map V.int).length:Int)=(g.length:Int):=by rw[Yl]
 have hL3:(3-((g.map V.int).length:Int)).toNat=3-g.length:=by rw[hL];lia
 refine⟨[V.int 0],l.at_,by rw[hL];lia,by rw[hL];lia,bM (by rw[hL3];simp;lia),λW Y m=>?_⟩;have M:(List.replicate (3-((g.map V.int).length:Int)).toNat [V.int 0]).flatten=(List.replicate (3-g.length) (0:Int)).map V.int:=by
  rw[hL3];generalize 3-g.length=z
  induction z with
  | zero=>rfl
  | succ z ih=>rw[Za,Zu,ih,Za,YO];rfl
 rw[M]at m;have r:=l.sm.trans m.sm;refine⟨_,_,r.seq n,m.lst,bM (by simp;lia),λS H3 o=>?_⟩;rw[<- Yw]at o;have F:=r.trans o.sm;have c:∀p∈g++List.replicate (3-g.length) (0:Int),0<=p/\p<2 ^ 8:=λp D=>by
  rcases Yx.mp D with z|z
  ·exact hb p z
  ·rw[a0j z];exact⟨by decide,by decide⟩
 have e:(g++List.replicate (3-g.length) (0:Int)).length=3:=by simp;lia
 refine⟨S,_,8,rfl,o.lst,c,by decide,by rw[e];decide,?_⟩;have q:=gu c;rw[e]at q;refine⟨_,6,4,rfl,q.1,q.2,by decide,by decide,λp4 H4 s=>?_⟩;have B:=F.trans s.sm;refine⟨_,.inl (B.seq n),?_⟩;refine⟨_,rfl,_,s.lst,λG U f=>?_⟩;have L:cn ((bF 6 4 (aY 8 (g++List.replicate (3-g.length) 0))).map V.int) none (some (((g.map V.int).length:Int)+1))=(bo g).map V.int:=by
  rw[dL,hL,<- Fw l1 u];exact congrArg _ (oS _ (g.length+1))
 rw[L]at f;have O:=B.trans f.sm;have hn:(bo g).length<=4:=by rw[<- Fw l1 u,Yp,ij];lia
 refine⟨G,rfl,⟨_,f.lst⟩,oW ((bG g).map V.int) (by simp[bG]) f.lst (bM (by simp;lia)) (λi x y R N hx C s6 hN=>?_) λp6 R J=>k _ _ (J.after O)⟩;obtain⟨d,hd,rfl⟩:=dz hx;have b:=iY (YD hd);have I:y=V.int (bv d):=by
  rw[bG,Yt,Yt,hd]at C;exact (YL C).symm
 subst I;refine⟨_,.int (bv d),.inr (T.uU _),?_,hN _ (ah.refl _)⟩;have z:=ba (xs:=iB.map V.int) (j:=d.toNat) (v:=V.int (bv d)) (by rw[Yt,Gq b.1 b.2];rfl);rw[ZZ b.1]at z;exact z
def JL(K:PySem.W.Frag):Sp:=λvs H Q _=>∃(a:Addr) (r:f6),vs=[.ref a]/\aG K H a (r.map V.int)/\L2.Byts r/\r.length<=5000/\∀p H',bc H p (.lst ((bG r).map V.int)) H'->Q (.ref p) H'
def vA (T:Txt w K mg t):bz P w K mg base "lettered" 4 t.Ao t.wC ["row"] (JL K):=by
 refine⟨T.R5,T.G1.kp,T.UK,T.G1.okQ uB (λvs H Q E h=>by obtain⟨a,r,rfl,_⟩:=h;rfl) λ_ _ _ _ H vs Q E hr h=>?_⟩;obtain⟨a,r,rfl,q,hb,hl,k⟩:=h;refine⟨_,(af (aP (i:=1) uB.nd rfl (.inl rfl) (aR ad))
  (af (cq PassesOwn.never rfl (uP rfl T.n_range (ab aj (ab (bu (Yb K) T.n_len Yq (ab (aa 0) ad)) (ab (bE T.o4) ad)))) (bi (i:=2) uB.nd rfl (.inl rfl)) (ag (ck (cT (K:=K) rfl YJ Zg Zh (Yf K) (aa 1) (ab (aD (Qr (K:=K) T) hr (ab (cD (Yd K) (aa 0) (bU (aa 2)) (bU (az (Ya K) (aa 2) (bE T.o4)))) ad)) ad)))))
  (ag (am (aa 1))))),?_⟩
 refine⟨sz rfl,λs J b=>?_⟩;refine⟨_,.inl (b.sm.seq q),?_⟩;refine⟨r.length,3,by rw[Yl];rfl,by lia,by decide,by decide,?_⟩;refine Fl (lo:=0) (c:=((3:Nat):Int)) (n:=(r.length+(3-1))/3) (λi σ l=>ah H l/\l s=some (.lst ((bG (r.take (3*i))).map V.int))/\∃v,σ=[some (.ref a),some (.ref s),v])
  ⟨b.sm,(by rw[Nat.mul_zero,List.take_zero];exact b.at_),_,rfl⟩ ?_ ?_
 ·rintro i σ x M ⟨f,d,v,rfl⟩;refine⟨.inl ⟨rfl,_,.of d⟩,?_⟩;refine⟨_,rfl,_,rfl,_,f.seq q,λF L g=>?_⟩;have B:cn (r.map V.int) (some (0+(i:Int)*((3:Nat):Int))) (some (0+(i:Int)*((3:Nat):Int)+3))=((r.drop (3*i)).take 3).map V.int:=by
   rw[dL,show (0+(i:Int)*((3:Nat):Int))=((3*i:Nat):Int) by lia];exact congrArg _ (oU r (3*i) 3)
  rw[B]at g;have z:3*i<r.length:=by lia
  have e:L2.Byts ((r.drop (3*i)).take 3):=λp u=>hb p (YX (Zf u));refine⟨F,_,rfl,g.lst,e,by rw[Yp,YY];lia,by rw[Yp];lia,λG I m=>?_⟩;have o:=g.sm.trans m.sm;have C:(bG (r.take (3*i))).length<=10000:=by rw[hJ];unfold bf;rw[Yp];lia
  have y:(bG ((r.drop (3*i)).take 3)).length<=10:=by rw[hJ];unfold bf;rw[Yp];lia
  refine⟨_,_,o _ _ d,m.at_,bM (by rw[Yl,Yl];lia),?_⟩;refine⟨(f.trans o).put b.nw,?_,_,rfl⟩;rw[aJ,<- Yw];have D:r.take (3*(i+1))=r.take (3*i)++(r.drop (3*i)).take 3:=by rw[ZA,a1r]
  rw[D,oR (j:=i) (by rw[Yp];lia) e]
 ·rintro σ x ⟨f,d,v,rfl⟩;rw[YW (by lia)]at d;exact k _ _ ⟨b.nw,f,d⟩
end
end My.Lw
namespace My.Lw
open PySem L2
section
variable {P:Program}{w:World}{K:PySem.W.Frag}{mg:Str->Option Value}{base:Heap}{t:Adr}
def Ka(K:PySem.W.Frag):Sp:=λvs H Q _=>∃(a:Addr) (r:f6) (z:Nat),vs=[.ref a,.int (z:Int)]/\aG K H a (r.map V.int)/\0<z/\∀p H',bc H p (.lst ((r.drop (r.length-r.length%z)).map V.int)) H'->Q (.ref p) H'
def EJ (T:Txt w K mg t):bz P w K mg base "behind_groups" 1 t.AK t.wX ["things", "size"] (Ka K):=by
 refine⟨T.Sx,T.Ho.kp,T.U6,T.Ho.okQ KM (λvs H Q E h=>by obtain⟨a,r,z,rfl,_⟩:=h;rfl) λ_ _ _ _ H vs Q E hr h=>?_⟩;obtain⟨a,r,z,rfl,b,hz,k⟩:=h;refine⟨_,(ag (am (cD (Yd K) (aa 0) (bU (az cA (bu (Yb K) T.n_len Yq (ab (aa 0) ad)) (az gy (bu (Yb K) T.n_len Yq (ab (aa 0) ad)) (aa 1)))) dU))),?_⟩;refine⟨_,.inl b,_,.inl b,?_⟩;refine⟨by show (0:Int)<(z:Int);lia,?_⟩;refine⟨_,rfl,_,b,λp d c=>?_⟩;have e:cn (r.map V.int) (some (((r.map V.int).length:Int)-((r.map V.int).length:Int)%(z:Int))) none=(r.drop (r.length-r.length%z)).map V.int:=by
  have:=Nat.mod_le r.length z;rw[dL,Yl,show ((r.length:Int)-(r.length:Int)%(z:Int))=((r.length-r.length%z:Nat):Int) by rw[Int.natCast_sub this,a0r]];exact congrArg _ (i3 r _)
 rw[e]at c;exact k _ _ c
abbrev Wr(t:Adr)(dx pr:Addr)(e:Bool):HO:=.ins t.dN dx [("rest",.ref pr),("ended",.bl e)]
def spInit(t:Adr):Sp:=λvs H Q _=>∃a dx,vs=[.ref a]/\H a=some (.ins t.dN dx [])/\∀pr H',H pr=none->pr≠a->(∀c u,c≠a->H c=some u->H' c=some u)->H' a=some (Wr t dx pr false)->H' pr=some (.lst [])->Q .non H'
def ok_init (T:Txt w K mg t):bH P w K mg base bO 1 t.tL t.rg ["self"] (spInit t):=by
 refine T.W0.okQ Lh (λvs H Q E h=>by obtain⟨a,dx,rfl,_⟩:=h;rfl) λ_ _ _ _ H vs Q E hr h=>?_;obtain⟨a,dx,rfl,f,k⟩:=h;refine⟨_,(af (bQ (K:=K) rfl (aa 0) (aR ad))
  (ag (bQ (K:=K) rfl (aa 0) dW))),?_⟩
 refine⟨sz rfl,λp i d=>?_⟩;have b:p≠a:=λz=>by have n:=d.nw;rw[z,f]at n;cases n
 refine⟨a,_,dx,_,rfl,d.sm _ _ f,T.eZ,T.jt,Yn Zr (by decide),?_⟩;refine⟨a,_,dx,_,rfl,aJ,T.eZ,T.mI,Yn (Yu 1) (by decide),?_⟩;refine k p _ d.nw b (λc u g e=>?_) ?_ ?_
 ·rw[ay g,ay g];exact d.sm _ _ e
 ·rw[aJ];rfl
 ·rw[ay b,ay b];exact d.at_
def ut(K:PySem.W.Frag)(t:Adr):Sp:=λvs H Q _=>∃(a dx pr b:Addr),vs=[.ref a,.ref b] /\
 ((H a=some (Wr t dx pr true)/\∀p H',bc H p (.lst []) H'->Q (.ref p) H') \/
  ∃r p:f6,H a=some (Wr t dx pr false)/\aG K H pr ((aW r).map V.int)/\aG K H b (p.map V.int)/\L2.Byts r/\L2.Byts p/\r.length<=3000/\p.length<=3000 /\
   ∀pq po H',H pq=none->H po=none->pq≠po->pq≠a->po≠a->(∀c u,c≠a->H c=some u->H' c=some u)->H' a=some (Wr t dx pq false)->H' pq=some (.lst ((aW (r++p)).map V.int)) ->
    H' po=some (.lst (((df (aW r++p)).drop (aW r).length).map V.int))->Q (.ref po) H')
def Q5 (T:Txt w K mg t):cc P w K mg base t.dN "feed" 5 t.A8 t.xA ["self", "row"] (ut K t):=by
 refine⟨T.eZ,T.Oq,T.VL,T.W1.okQ qc (λvs H Q E h=>by obtain⟨a,dx,pr,b,rfl,_⟩:=h;rfl) λ_ _ _ _ H vs Q E hr h=>?_⟩;obtain⟨a,dx,pr,b,rfl,h⟩:=h;refine⟨_,(af (aL (dE (K:=K) rfl (aX (K:=K) rfl (aa 0))) (ag (am (aR ad))) aN)
  (af (aP (i:=2) qc.nd rfl (.inl rfl) (bu (Yb K) T.n_len Yq (ab (aX (K:=K) rfl (aa 0)) ad)))
  (af (aP (i:=1) qc.nd rfl (.inl rfl) (az (Ya K) (aX (K:=K) rfl (aa 0)) (aa 1)))
  (af (bQ (K:=K) rfl (aa 0) (aD (EJ (K:=K) T) hr (ab (aa 1) (ab (bE T.o4) ad))))
  (af (aP (i:=3) qc.nd rfl (.inl rfl) (aD (vA (K:=K) T) hr (ab (aa 1) ad)))
  (ag (am (gw (dE (K:=K) rfl (aX (K:=K) rfl (aa 0))) (cD (Yd K) (aa 3) (bU (aa 2)) (bU (az cA (bu (Yb K) T.n_len Yq (ab (aa 3) ad)) aj))) (cD (Yd K) (aa 3) (bU (aa 2)) dU))))))))),?_⟩
 rcases h with ⟨h1,k⟩|⟨r,p,h1,h2,h3,br,bp,lr,lp,k⟩
 ·refine⟨a,_,dx,_,_,rfl,h1,T.eZ,T.mI,rfl,?_⟩;refine ao (λ_=>?_) (λe=>aab rfl e);exact⟨sz rfl,λp Y g=>k _ _ g⟩
 refine⟨a,_,dx,_,_,rfl,h1,T.eZ,T.mI,rfl,?_⟩;refine ao (λe=>aab (show false=true from e) (by decide)) (λ_=>?_);refine⟨a,_,dx,_,_,rfl,h1,T.eZ,T.jt,rfl,?_⟩;refine⟨_,.inl h2,?_⟩;refine⟨a,_,dx,_,_,rfl,h1,T.eZ,T.jt,rfl,?_⟩;have a8:(aW r).length<=2:=by obtain⟨_,_,_,_,e⟩:=jf r;lia
 refine⟨_,_,h2,h3,bM (by simp;lia),λJ Y g=>?_⟩;rw[<- Yw]at g;have bt:L2.Byts (aW r):=λx hx=>br x (YX hx);have R:L2.Byts (aW r++p):=λx hx=>by
  rcases Yx.mp hx with z|z
  ·exact bt x z
  ·exact bp x z
 have a2:(aW r++p).length<=3002:=by rw[Yo];lia
 refine⟨J,_,3,rfl,g.lst,by decide,λB I o=>?_⟩
 replace o:bc Y B (.lst ((aW (aW r++p)).map V.int)) I:=o
 have N:I a=some (Wr t dx pr false):=o.sm _ _ (g.sm _ _ h1);refine⟨a,_,dx,_,rfl,N,T.eZ,T.jt,Yn (Yu 2) (by decide),?_⟩;have D:B≠a:=λz=>by have n:=o.nw;rw[z,g.sm _ _ h1]at n;cases n
 have S:J≠a:=λz=>by have n:=g.nw;rw[z,h1]at n;cases n
 have e3:aW (aW r++p)=aW (r++p):=by
  obtain⟨x,j,e,hx,_⟩:=jf r
  conv=>rhs;rw[e,YU,IO hx]
 obtain⟨C,hH3⟩:∃C,C=upd I a (HO.ins t.dN dx (bZ "rest" (.ref B) [("rest",.ref pr),("ended",.bl false)])):=⟨_,rfl⟩;have L:C a=some (Wr t dx B false):=by rw[hH3,aJ];rfl
 have k3:∀c u,c≠a->I c=some u->C c=some u:=λc u v e=>by rw[hH3,ay v];exact e
 rw[<- hH3];have f1:C J=some (.lst ((aW r++p).map V.int)):=k3 _ _ S (o.sm _ _ g.at_);have U:C B=some (.lst ((aW (r++p)).map V.int)):=by rw[<- e3];exact k3 _ _ D o.at_
 refine⟨J,_,rfl,.of f1,R,by lia,λq4 W f=>?_⟩;refine⟨a,_,dx,_,_,rfl,f.sm _ _ L,T.eZ,T.jt,rfl,?_⟩;refine⟨_,.inl (.of (f.sm _ _ U)),?_⟩;obtain⟨q,M⟩:∃q,q=aW r++p:=⟨_,rfl⟩;have lq:(aW (r++p)).length=q.length%3:=by rw[<- e3,M];obtain⟨_,_,_,_,e⟩:=jf (aW r++p);exact e
 have kq:(aW r).length<=q.length:=by rw[M,Yo];lia
 have fin:∀l s,bc W l (.lst (((df q).drop (aW r).length).map V.int)) s->Q (.ref l) s:=λl s d=>by
  rw[M]at d;have F:W B=some (.lst ((aW (r++p)).map V.int)):=f.sm _ _ U;refine k B l s (g.sm.free o.nw) ?_ ?_ D ?_ ?_ (d.sm _ _ (f.sm _ _ L)) (d.sm _ _ F) d.at_
  ·cases e:H l with
   | none=>rfl
   | some u =>
    exfalso
    have n:=d.nw;by_cases v:l=a
    ·rw[v,f.sm _ _ L]at n;cases n
    ·rw[f.sm _ _ (k3 _ _ v (o.sm _ _ (g.sm _ _ e)))]at n;cases n
  ·intro z;have n:=d.nw;rw[<- z,F]at n;cases n
  ·intro z;have n:=d.nw;rw[z,f.sm _ _ L]at n;cases n
  ·intro c u v e;exact d.sm _ _ (f.sm _ _ (k3 _ _ v (o.sm _ _ (g.sm _ _ e))))
 rw[<- M]at f;have hD:(bG q).length=(8*q.length+5)/6:=by rw[hJ];rfl
 refine ao (λe=>?_) (λe=>?_)
 ·have G:q.length%3≠0:=λz=>by
   have e':(!((aW (r++p)).map V.int).isEmpty)=true:=e;rw[a0n.mp (lq.trans z)]at e';cases e'
  have a5:1<=q.length:=by
   rcases Nat.eq_zero_or_pos q.length with z|z
   ·rw[z]at G;exact aab rfl G
   ·exact z
  have a4:(aW r).length+1<=(8*q.length+5)/6:=by
   have:q.length+1<=(8*q.length+5)/6:=by lia
   lia
  have a7:(8*q.length+5)/6=8*q.length/6+1:=by
   have hm:q.length%3=1\/q.length%3=2:=by lia
   obtain⟨m,ae⟩:∃m,q.length/3=m:=⟨_,rfl⟩;rcases hm with z|z<;>lia
  refine⟨_,rfl,_,.inl f.lst,?_⟩;refine⟨_,rfl,_,f.lst,λl s d=>fin l s ?_⟩;have O:cn ((bG q).map V.int) (some (((aW r).map V.int).length:Int)) (some ((((bG q).map V.int).length:Int)-1))=((df q).drop (aW r).length).map V.int:=by
   rw[dL,Yl,Yl,hD];have z:=oU (bG q) (aW r).length ((8*q.length+5)/6-1-(aW r).length);rw[show ((((8*q.length+5)/6:Nat):Int)-1)=(((aW r).length:Int)+(((8*q.length+5)/6-1-(aW r).length:Nat):Int)) by lia,z,df,List.drop_take]
   congr 2
   lia
  rw[O]at d;exact d
 ·have hz:q.length%3=0:=by
   have e':¬(!((aW (r++p)).map V.int).isEmpty)=true:=e;rw[<- lq];cases v:aW (r++p) with
   | nil=>rfl
   | cons x y=>rw[v]at e';exact aab rfl e'
  refine⟨_,rfl,_,f.lst,λl s d=>fin l s ?_⟩;have O:cn ((bG q).map V.int) (some (((aW r).map V.int).length:Int)) none=((df q).drop (aW r).length).map V.int:=by
   rw[dL,Yl,IT (j:=q.length/3) (by lia)];exact congrArg _ (i3 (bG q) _)
  rw[O]at d;exact d
def uu(K:PySem.W.Frag)(t:Adr):Sp:=λvs H Q _=>∃(a dx pr:Addr),vs=[.ref a] /\
 ((H a=some (Wr t dx pr true)/\∀p H',bc H p (.lst []) H'->Q (.ref p) H') \/
  ∃r:f6,H a=some (Wr t dx pr false)/\aG K H pr ((aW r).map V.int)/\pr≠a/\L2.Byts r /\
   ∀po H',H po=none->po≠a->(∀c u,c≠a->H c=some u->H' c=some u)->H' a=some (Wr t dx pr true)->H' po=some (.lst (((bG (aW r)).drop (aW r).length).map V.int))->Q (.ref po) H')
def Q6 (T:Txt w K mg t):cc P w K mg base t.dN "end" 5 t.A9 t.xB ["self"] (uu K t):=by
 refine⟨T.eZ,T.Os,T.VM,T.W2.okQ Li (λvs H Q E h=>by obtain⟨a,dx,pr,rfl,_⟩:=h;rfl) λ_ _ _ _ H vs Q E hr h=>?_⟩;obtain⟨a,dx,pr,rfl,h⟩:=h;refine⟨_,(af (aL (dE (K:=K) rfl (aX (K:=K) rfl (aa 0))) (ag (am (aR ad))) aN)
  (af (bQ (K:=K) rfl (aa 0) dW)
  (ag (am (cD (Yd K) (aD (vA (K:=K) T) hr (ab (aX (K:=K) rfl (aa 0)) ad)) (bU (bu (Yb K) T.n_len Yq (ab (aX (K:=K) rfl (aa 0)) ad))) dU))))),?_⟩
 rcases h with ⟨h1,k⟩|⟨r,h1,h2,hpa,br,k⟩
 ·refine⟨a,_,dx,_,_,rfl,h1,T.eZ,T.mI,rfl,?_⟩;refine ao (λ_=>?_) (λe=>aab rfl e);exact⟨sz rfl,λp B m=>k _ _ m⟩
 refine⟨a,_,dx,_,_,rfl,h1,T.eZ,T.mI,rfl,?_⟩;refine ao (λe=>aab (show false=true from e) (by decide)) (λ_=>?_);refine⟨a,_,dx,_,rfl,h1,T.eZ,T.mI,Yn (Yu 2) (by decide),?_⟩;obtain⟨g,hH3⟩:∃g,g=upd H a (HO.ins t.dN dx (bZ "ended" (.bl true) [("rest",.ref pr),("ended",.bl false)])):=⟨_,rfl⟩;have i:g a=some (Wr t dx pr true):=by rw[hH3,aJ];rfl
 have k3:∀c u,c≠a->H c=some u->g c=some u:=λc u f e=>by rw[hH3,ay f];exact e
 rw[<- hH3];have l:aG K g pr ((aW r).map V.int):=by
  rcases h2 with h2|h2
  ·rcases h2 with h2|⟨o,h2⟩
   ·exact .inl (.inl (k3 _ _ hpa h2))
   ·exact .inl (.inr ⟨o,k3 _ _ hpa h2⟩)
  ·exact .inr h2
 have v:(aW r).length<=2:=by obtain⟨_,_,_,_,e⟩:=jf r;lia
 have s:L2.Byts (aW r):=λx hx=>br x (YX hx);refine⟨a,_,dx,_,_,rfl,i,T.eZ,T.jt,rfl,?_⟩;refine⟨pr,_,rfl,l,s,by lia,λC D b=>?_⟩;refine⟨a,_,dx,_,_,rfl,b.sm _ _ i,T.eZ,T.jt,rfl,?_⟩;refine⟨_,.inl (b.sm.seq l),?_⟩;refine⟨_,rfl,_,b.lst,λj q d=>?_⟩;have y:cn ((bG (aW r)).map V.int) (some (((aW r).map V.int).length:Int)) none=((bG (aW r)).drop (aW r).length).map V.int:=by
  rw[dL,Yl];exact congrArg _ (i3 _ _)
 rw[y]at d;refine k j q ?_ ?_ (λc u f e=>d.sm _ _ (b.sm _ _ (k3 _ _ f e))) (d.sm _ _ (b.sm _ _ i)) d.at_
 ·cases e:H j with
  | none=>rfl
  | some u =>
   exfalso
   have n:=d.nw;by_cases f:j=a
   ·rw[f,b.sm _ _ i]at n;cases n
   ·rw[b.sm _ _ (k3 _ _ f e)]at n;cases n
 ·intro z;have n:=d.nw;rw[z,b.sm _ _ i]at n;cases n
end
end My.Lw
namespace My.Lr
open PySem L2 Lw
def Pe:∀x y:Fin 64,bv (x.val:Int)=bv (y.val:Int)->x=y:=by decide +kernel
def Pd{x y:Int}(hx:0<=x/\x<64)(a:0<=y/\y<64)(h:bv x=bv y):x=y:=by
 have:=Pe ⟨x.toNat,by lia⟩ ⟨y.toNat,by lia⟩ (by rw[show ((x.toNat:Nat):Int)=x by lia,show ((y.toNat:Nat):Int)=y by lia];exact h);have:=Fin.mk.inj this;lia
theorem DY:∀ {xs ys:f6},(∀p∈xs,0<=p/\p<64)->(∀p∈ys,0<=p/\p<64)->xs.map bv=ys.map bv->xs=ys
 | [],[],_,_,_=>rfl
 | [],_::_,_,_,h=>nomatch h
 | _::_,[],_,_,h=>nomatch h
 | x::xs,y::ys,hx,hy,h=>by
  have h:=List.cons.inj h;rw[Pd (hx x (.head _)) (hy y (.head _)) h.1,DY (λp q=>hx p (.tail _ q)) (λp q=>hy p (.tail _ q)) h.2]
abbrev cj(ds:f6):Prop:=∀p∈ds,0<=p/\p<64
def gB(g:f6):f6:=(bF 8 3 (aY 6 (g++List.replicate (4-g.length) 0))).take (g.length-1)
def Fg(g:f6):(gB g).length<=3:=by unfold gB;rw[Yp,ij];lia
def SE{g:f6}{x:Int}(h:x∈gB g):0<=x/\x<256:=nM (Zf h)
def eQ(i:Nat)(ds:f6):f6:=(List.range i).flatMap λi=>gB ((ds.drop (4*i)).take 4)
def jK(i:Nat)(ds:f6):eQ (i+1) ds=eQ i ds++gB ((ds.drop (4*i)).take 4):=by
 unfold eQ;rw[Zc,a1p];simp
theorem uf(ds:f6):∀i,(eQ i ds).length<=3*i
 | 0=>Ym _
 | i+1=>by
  rw[jK,Yo];have:=uf ds i;have:=Fg ((ds.drop (4*i)).take 4);lia
def IF(ds:f6)(i:Nat):L2.Byts (eQ i ds):=λx hx=>by
 obtain⟨j,_,h⟩:=a1o.mp hx;exact SE h
def bh(ds:f6):f6:=eQ ((ds.length+3)/4) ds
def mS(r:f6):(bo r).length=bf r:=by simp[bo]
def SF{g:f6}(b:0<g.length)(a:g.length<=3)(hb:L2.Byts g):gB (bo g)=g:=by
 have pl:(bo g).length-1=g.length:=by rw[mS,SW b a];lia
 have:=T7 b a hb;unfold gB;rw[pl];exact this
def rn{r:f6}{i:Nat}(hb:L2.Byts r)(b:3*i<r.length):((bo r).drop (4*i)).take 4=bo ((r.drop (3*i)).take 3):=by
 refine DY (λp a=>iY (YX (Zf a))) (λp a=>iY a) ?_;have:=ST hb b;rw[Zx,Zy];exact this
theorem BG{r:f6}(hb:L2.Byts r):∀i,3*i<r.length+3->eQ i (bo r)=r.take (3*i)
 | 0,_=>by simp[eQ]
 | i+1,h=>by
  rw[jK,BG hb i (by lia),rn hb (by lia),SF (by rw[Yp,YY];lia) (by rw[Yp];lia) (λp a=>hb p (YX (Zf a))),ZA,a1r]
def m8{r:f6}(hb:L2.Byts r):bh (bo r)=r:=by
 unfold bh;rw[BG hb _ (by rw[mS];unfold bf;lia),YW (by rw[mS];unfold bf;lia)]
def ID(ds:f6):L2.Byts (bh ds):=IF _ _
def IE(ds:f6):(bh ds).length<=3*((ds.length+3)/4):=uf _ _
def Ms{b m k:Nat}{A B:Int}(hA:0<=A/\A<2 ^ (b*m))(hB:0<=B/\B<2 ^ (b*k)):bF b (m+k) (A*2 ^ (b*k)+B)=bF b m A++bF b k B:=by
 refine (BJ (b:=b) (by rw[ij,Yo,ij,ij]) (λp a=>nM a) (λp a=>?_)).mp ?_
 ·rcases Yx.mp a with z|z
  ·exact nM z
  ·exact nM z
 ·rw[gv,mF b m A hA.1 hA.2,mF b k B hB.1 hB.2,ij];have a:=cB (b*k);refine mF b _ _ ?_ ?_
  ·have:=a0e hA.1 (YN a);lia
  ·rw[Nat.mul_add,YG];have:=a0f (show A+1<=2 ^ (b*m) by lia) (YN a);rw[Zp,a0g]at this;lia
def nL(b m k:Nat)(N:Int):(bF b (m+k) N).take m=bF b m (N/2 ^ (b*k)):=by
 unfold bF;rw[<- Zx,List.take_range,Zz (by lia)];refine Z1 λi a=>?_;have a:=YE.mp a;rw[ZC (YN (cB _)),<- YG,<- Nat.mul_add,show m+k-1-i=k+(m-1-i) by lia]
def byt(ds:f6):f6:=bF 8 (6*ds.length/8) (aY 6 ds/2 ^ (6*ds.length%8))
def T3(ds:f6):(byt ds).length=6*ds.length/8:=ij _ _ _
def FX{ds:f6}(hd:cj ds):0<=aY 6 ds/2 ^ (6*ds.length%8)/\aY 6 ds/2 ^ (6*ds.length%8)<2 ^ (8*(6*ds.length/8)):=by
 have a:=gu (b:=6) (ps:=ds) hd;have c:=cB (6*ds.length%8);refine⟨a0i a.1 (YN c),a2i c ?_⟩;rw[<- YG,show 8*(6*ds.length/8)+6*ds.length%8=6*ds.length by lia];exact a.2
def Fy{x y:f6}(hx:cj x)(b:cj y):cj (x++y):=λp a=>by
 rcases Yx.mp a with z|z
 ·exact hx p z
 ·exact b p z
def T4{x y:f6}{j:Nat}(hx:cj x)(c:cj y)(hl:x.length=4*j):byt (x++y)=byt x++byt y:=by
 have d:=FX hx;have a:=FX c;unfold byt;rw[Yo,hl]at *;rw[show 6*(4*j)/8=3*j by lia,show 6*(4*j)%8=0 by lia]at *;rw[show 6*(4*j+y.length)/8=3*j+6*y.length/8 by lia,show 6*(4*j+y.length)%8=6*y.length%8 by lia,<- Ms d a]
 congr 1
 rw[gv];have b:=cB (6*y.length%8);have e:(2:Int) ^ (6*y.length)=2 ^ (8*(6*y.length/8))*2 ^ (6*y.length%8):=by rw[<- YG];congr 1;lia
 rw[e,<- Zl,ZM,Z0 _ _ (ZB b),ZM];simp
def T2{x y:f6}(d:cj y):(byt (x++y)).take (6*x.length/8)=byt x:=by
 unfold byt;rw[Yo];obtain⟨k,c⟩:∃k,6*(x.length+y.length)/8=6*x.length/8+k:=⟨6*(x.length+y.length)/8-6*x.length/8,by lia⟩;rw[c,nL]
 congr 1
 rw[ZC (YN (cB _)),<- YG,show 6*(x.length+y.length)%8+8*k=6*y.length+6*x.length%8 by lia,YG,<- ZC (YN (cB _)),gv];have a:=gu (b:=6) (ps:=y) d;rw[ZM,Z0 _ _ (ZB (cB _)),a1h a.1 a.2,Zq]
theorem BH{x y:f6}{j:Nat}(hl:x.length=4*j):∀k,eQ (j+k) (x++y)=eQ j x++eQ k y
 | 0=>by
  have e:eQ 0 y=[]:=rfl;rw[e,Y8,Nat.add_zero];unfold eQ;rw[List.flatMap_def,List.flatMap_def]
  congr 1
  refine Z1 λi a=>?_;have a:=YE.mp a;rw[a1i (by lia),a2k (by rw[YY];lia)]
 | k+1=>by
  rw[<- Nat.add_assoc,jK,BH hl k,jK,YU];have e:(x++y).drop (4*(j+k))=y.drop (4*k):=by rw[a0k,ZN (by lia),Zv,hl,show 4*(j+k)-4*j=4*k by lia]
  rw[e]
def ue{x y:f6}{j:Nat}(hl:x.length=4*j):bh (x++y)=bh x++bh y:=by
 unfold bh;rw[Yo,show (x.length+y.length+3)/4=j+(y.length+3)/4 by lia,BH hl,show (x.length+3)/4=j by lia]
def BE{g:f6}(c:0<g.length)(b:g.length<=4):bh g=byt g:=by
 have e:bh g=gB g:=by
  unfold bh;rw[show (g.length+3)/4=1 by lia,jK];have a:eQ 0 g=[]:=rfl;rw[a,Zv,Nat.mul_zero,ZX,YW b]
 rw[e];unfold gB byt;rw[ug];obtain⟨N,hN⟩:∃N,N=aY 6 g:=⟨_,rfl⟩;rw[<- hN];have hm:g.length=1\/g.length=2\/g.length=3\/g.length=4:=by lia
 rcases hm with z|z|z|z<;>rw[z]
 ·have:=nL 8 0 3 (N*2 ^ (6*(4-1)));simp[bF]
 ·have:=nL 8 1 2 (N*2 ^ (6*(4-2)));refine this.trans ?_;show bF 8 1 (N*2 ^ 12/2 ^ 16)=bF 8 1 (N/2 ^ 4)
  congr 1
  lia
 ·have:=nL 8 2 1 (N*2 ^ (6*(4-3)));refine this.trans ?_;show bF 8 2 (N*2 ^ 6/2 ^ 8)=bF 8 2 (N/2 ^ 2)
  congr 1
  lia
 ·have:=nL 8 3 0 (N*2 ^ (6*(4-4)));refine this.trans ?_;show bF 8 3 (N*2 ^ 0/2 ^ 0)=bF 8 3 (N/2 ^ 0)
  congr 1
  lia
theorem BF:∀(n:Nat) (ds:f6),ds.length<=n->cj ds->bh ds=byt ds
 | 0,ds,h,_=>by
  rw[a0n.mp (by lia:ds.length=0)]
  rfl
 | n+1,ds,h,hd=>by
  by_cases h0:ds.length=0
  ·rw[a0n.mp h0];rfl
  by_cases h4:ds.length<=4
  ·exact BE (by lia) h4
  ·have e:ds=ds.take 4++ds.drop 4:=(YV 4 ds).symm;have b:(ds.take 4).length=4*1:=by rw[Yp];lia
   have d1:cj (ds.take 4):=λp a=>hd p (Zf a);have d2:cj (ds.drop 4):=λp a=>hd p (YX a);rw[e,ue b,T4 d1 d2 b,BE (by lia) (by lia),BF n (ds.drop 4) (by rw[YY];lia) d2]
def uc{ds:f6}(hd:cj ds):bh ds=byt ds:=BF _ ds (Ym _) hd
def be(r:f6):f6:=r.drop (r.length-r.length%4)
def pO(r:f6):∃a j,r=a++be r/\a.length=4*j/\(be r).length=r.length%4:=by
 refine⟨r.take (r.length-r.length%4),r.length/4,(YV _ r).symm,?_,?_⟩
 ·rw[Yp];lia
 ·unfold be;rw[YY];lia
def BM{a r:f6}{j:Nat}(b:a.length=4*j):be (a++r)=be r:=by
 unfold be;rw[Yo,b,a0k,ZN (by lia),Zv,b]
 congr 1
 lia
def pQ{r:f6}(hd:cj r):cj (be r):=λp a=>hd p (YX a)
def ud{x y:f6}(hx:cj x)(c:cj y):bh (x++y)=bh x++(bh (be x++y)).drop (bh (be x)).length:=by
 obtain⟨a,j,e,d,_⟩:=pO x;have b:=pQ hx;have f:bh (x++y)=bh a++bh (be x++y):=by conv=>lhs;rw[e,YU,ue d]
 have g:bh x=bh a++bh (be x):=by conv=>lhs;rw[e,ue d]
 have h:bh (be x++y)=bh (be x)++(bh (be x++y)).drop (bh (be x)).length:=by
  have z:=T2 (x:=be x) c;rw[<- uc (Fy b c),<- uc b]at z;have l:(bh (be x)).length=6*(be x).length/8:=by rw[uc b,T3]
  conv=>lhs;rw[<- YV (bh (be x)).length (bh (be x++y))]
  rw[l,z]
 rw[f,g,YU,<- h]
def IL{x y:f6}:be (be x++y)=be (x++y):=by
 obtain⟨a,j,e,b,_⟩:=pO x
 conv=>rhs;rw[e,YU,BM b]
end My.Lr
namespace My.Lr
open PySem L2 Lw
section
variable {P:Program}{w:World}{K:PySem.W.Frag}{mg:Str->Option Value}{base:Heap}{t:Adr}
def JV(K:PySem.W.Frag):Sp:=λvs H Q _=>∃(a:Addr) (g:f6),vs=[.ref a]/\aG K H a ((g.map bv).map V.int)/\cj g/\0<g.length/\g.length<=4/\∀p H',bc H p (.lst ((gB g).map V.int)) H'->Q (.ref p) H'
def Qs (T:Txt w K mg t):bz P w K mg base "group_bytes" 3 t.AC t.wP ["letters"] (JV K):=by
 refine⟨T.Sm,T.Hg.kp,T.UY,T.Hg.okQ uD (λvs H Q E h=>by obtain⟨a,g,rfl,_⟩:=h;rfl) λ_ _ _ _ H vs Q E hr h=>?_⟩;obtain⟨a,g,rfl,n,hb,l1,l3,k⟩:=h;refine⟨_,(af (mE (i:=1) uD.nd rfl (.inl rfl) rfl (cZ.of (fns:=(ae jm).names) (N:=["letters", "numbers", "number"]) (Nc:=["letter"]) (nv:=1) (caps:=[]) rfl rfl (by decide +kernel)) (c8 (K:=K) rfl (aa 0)) (λ_ _ _ _=>(bi (i:=0) (show List.Nodup (["letter"]:List Str) by decide +kernel) rfl (Or.inl rfl) (Or.inr rfl))) (λ_ _ _ _=>fD) (λ_ _ _ _=>(cT (K:=K) rfl PySem.F.plainAttrs_tuple a2j PySem.F.type_tuple_index (OM (K:=K) rfl) (fG (v:=.ref t.mY) rfl T.zC rfl) (ab (aa 0) ad))))
  (af (aP (i:=2) uD.nd rfl (.inl rfl) (aD (n6 (K:=K) T) hr (ab (az (Ya K) (aa 1) (az qM (aR (ab aj ad)) (az cA (bE T.o0) (bu (Yb K) T.n_len Yq (ab (aa 1) ad))))) (ab (bE T.FQ) ad))))
  (ag (am (cD (Yd K) (aD (oa (K:=K) T) hr (ab (aa 2) (ab (bE T.sS) (ab (bE T.o4) ad)))) dU (bU (az cA (bu (Yb K) T.n_len Yq (ab (aa 0) ad)) aj))))))),?_⟩
 refine⟨a,rfl,⟨_,n⟩,oW (g.map V.int) (by simp) n (bM (by simp;lia)) (λi x y M N hx R q hN=>?_) λW Y m=>?_⟩
 ·obtain⟨d,hd,rfl⟩:=dz R;have b:=hb d (YD hd);rw[Yt,Yt,hd]at hx;cases hx;obtain⟨o,G,D,u⟩:=T.Pk;refine⟨.inr (.inl ⟨rfl,o,G,D,u⟩),?_⟩;refine⟨iB,d.toNat,o,G,D,u,T.uU _,Gq b.1 b.2,λi O=>Wi b.1 b.2 O,?_⟩;rw[ZZ b.1];exact hN _ (ah.refl _)
 have hL:((g.map V.int).length:Int)=(g.length:Int):=by rw[Yl]
 refine⟨sz rfl,λp3 H3 r=>?_⟩;refine⟨_,.inl (r.sm.seq m.lst),?_⟩;have hL3:(4-((g.map V.int).length:Int)).toNat=4-g.length:=by rw[hL];lia
 refine⟨[V.int 0],r.at_,by rw[hL];lia,by rw[hL];lia,bM (by rw[hL3];simp;lia),λp4 H4 l=>?_⟩;have S:(List.replicate (4-((g.map V.int).length:Int)).toNat [V.int 0]).flatten=(List.replicate (4-g.length) (0:Int)).map V.int:=by
  rw[hL3];generalize 4-g.length=z
  induction z with
  | zero=>rfl
  | succ z ih=>rw[Za,Zu,ih,Za,YO];rfl
 rw[S]at l;have e:=r.sm.trans l.sm;refine⟨_,_,e.seq m.lst,l.lst,bM (by simp;lia),λJ U j=>?_⟩;rw[<- Yw]at j;have f:∀p∈g++List.replicate (4-g.length) (0:Int),0<=p/\p<2 ^ 6:=λp I=>by
  rcases Yx.mp I with z|z
  ·exact hb p z
  ·rw[a0j z];decide
 have c:(g++List.replicate (4-g.length) (0:Int)).length=4:=by simp;lia
 refine⟨J,_,6,rfl,j.lst,f,by decide,by rw[c];decide,?_⟩;have s:=gu f;rw[c]at s;refine⟨_,8,3,rfl,s.1,s.2,by decide,by decide,λp6 M C=>?_⟩;have q:=(m.sm.trans e).trans (j.sm.trans C.sm);refine⟨_,.inl (q.seq n),?_⟩;refine⟨_,rfl,_,C.lst,λp7 H7 B=>?_⟩;have L:cn ((bF 8 3 (aY 6 (g++List.replicate (4-g.length) 0))).map V.int) none (some ((((g.map bv).map V.int).length:Int)-1))=(gB g).map V.int:=by
  rw[dL,Yl,Yl,show ((g.length:Int)-1)=((g.length-1:Nat):Int) by lia];exact congrArg _ (oS _ _)
 rw[L]at B;exact k _ _ (B.after q)
def J9(K:PySem.W.Frag):Sp:=λvs H Q _=>∃(a:Addr) (ds:f6),vs=[.ref a]/\aG K H a ((ds.map bv).map V.int)/\cj ds/\ds.length<=5000/\∀p H',bc H p (.lst ((bh ds).map V.int)) H'->Q (.ref p) H'
def vC (T:Txt w K mg t):bz P w K mg base "bytes_in" 4 t.AI t.wV ["letters"] (J9 K):=by
 refine⟨T.Sv,T.Hm.kp,T.U4,T.Hm.okQ uF (λvs H Q E h=>by obtain⟨a,r,rfl,_⟩:=h;rfl) λ_ _ _ _ H vs Q E hr h=>?_⟩;obtain⟨a,ds,rfl,m,hb,hl,k⟩:=h;refine⟨_,(af (aP (i:=1) uF.nd rfl (.inl rfl) (aR ad))
  (af (cq PassesOwn.never rfl (uP rfl T.n_range (ab aj (ab (bu (Yb K) T.n_len Yq (ab (aa 0) ad)) (ab (bE T.o0) ad)))) (bi (i:=2) uF.nd rfl (.inl rfl)) (ag (ck (cT (K:=K) rfl YJ Zg Zh (Yf K) (aa 1) (ab (aD (Qs (K:=K) T) hr (ab (cD (Yd K) (aa 0) (bU (aa 2)) (bU (az (Ya K) (aa 2) (bE T.o0)))) ad)) ad)))))
  (ag (am (aa 1))))),?_⟩
 refine⟨sz rfl,λo C b=>?_⟩;refine⟨_,.inl (b.sm.seq m),?_⟩;refine⟨ds.length,4,by rw[Yl,Yl];rfl,by lia,by decide,by decide,?_⟩;refine Fl (lo:=0) (c:=((4:Nat):Int)) (n:=(ds.length+(4-1))/4) (λi σ g=>ah H g/\g o=some (.lst ((eQ i ds).map V.int))/\∃v,σ=[some (.ref a),some (.ref o),v])
  ⟨b.sm,b.at_,_,rfl⟩ ?_ ?_
 ·rintro i σ s F ⟨d,e,v,rfl⟩;refine⟨.inl ⟨rfl,_,.of e⟩,?_⟩;refine⟨_,rfl,_,rfl,_,d.seq m,λx D f=>?_⟩;have u:cn ((ds.map bv).map V.int) (some (0+(i:Int)*((4:Nat):Int))) (some (0+(i:Int)*((4:Nat):Int)+4))=(((ds.drop (4*i)).take 4).map bv).map V.int:=by
   rw[dL,show (0+(i:Int)*((4:Nat):Int))=((4*i:Nat):Int) by lia,Zx,Zy];exact congrArg _ (oU _ (4*i) 4)
  rw[u]at f;refine⟨x,_,rfl,f.lst,λp q=>hb p (YX (Zf q)),by rw[Yp,YY];lia,by rw[Yp];lia,λy z j=>?_⟩;have l:=f.sm.trans j.sm;have l1:=uf ds i;have B:=Fg ((ds.drop (4*i)).take 4);refine⟨_,_,l _ _ e,j.at_,bM (by rw[Yl,Yl];lia),?_⟩;refine⟨(d.trans l).put b.nw,?_,_,rfl⟩;rw[aJ,<- Yw,jK]
 ·rintro σ s ⟨d,e,v,rfl⟩;exact k _ _ ⟨b.nw,d,e⟩
def JP(K:PySem.W.Frag):Sp:=λvs H Q _=>∃(a:Addr) (ds:f6),vs=[.ref a]/\aG K H a ((ds.map bv).map V.int)/\cj ds/\∀H',ah H H'->Q (.int (ds.length:Int)) H'
def ED (T:Txt w K mg t):bz P w K mg base "letters_ahead" 1 t.An t.wB ["row"] (JP K):=by
 refine⟨T.R4,T.GZ.kp,T.UJ,T.GZ.okQ uA (λvs H Q E h=>by obtain⟨a,ds,rfl,_⟩:=h;rfl) λ_ _ _ _ H vs Q E hr h=>?_⟩;obtain⟨a,ds,rfl,g,hd,k⟩:=h;refine⟨_,(af (cq PassesOwn.never rfl (gP (K:=K) rfl rfl T.n_enumerate (ab (aa 0) ad)) (fF (K:=K) rfl rfl (cC (bi (i:=1) uA.nd rfl (.inl rfl)) (cC (bi (i:=2) uA.nd rfl (.inl rfl)) fE))) (ag (aL (aQ (E6 (K:=K) rfl) (aa 2) (fG (v:=.ref t.mY) rfl T.zC rfl) (by with_unfolding_all rfl)) (ag (am (aa 1))) aN)))
  (ag (am (bu (Yb K) T.n_len Yq (ab (aa 0) ad))))),?_⟩
 refine⟨a,_,rfl,g,hG (K:=K) (a:=a) (xs:=(ds.map bv).map V.int) (λi σ l=>ah H l/\∃j c,σ=[some (.ref a),j,c]) ⟨ah.refl _,_,_,rfl⟩ (λi σ l _ z=>z.1.seq g) ?_ ?_⟩
 ·rintro i x p σ o r hx ⟨b,j,c,rfl⟩ m;obtain⟨q,n,rfl⟩:=dz hx;rw[Yt]at n;obtain⟨d,f,rfl⟩:=Zk.mp n;have hm:=hd d (YD f);refine⟨p,_,rfl,m.tup,rfl,_,_,rfl,_,_,rfl,rfl,?_⟩;refine⟨_,.inr (T.uU _),rfl,rfl,?_⟩;refine ao (λe=>?_) (λe=>?_)
  ·have e:(!dZ (.int (bv d)) (iB.map V.int))=true:=e;rw[Wh hm.1 hm.2]at e;exact aab e (by decide)
  ·exact⟨b.trans m.sm,_,_,rfl⟩
 ·rintro σ o ⟨b,j,c,rfl⟩;refine⟨_,.inl (b.seq g),?_⟩;have:=k _ b;rw[Yl,Yl];exact this
def jg(K:PySem.W.Frag):Sp:=λvs H Q _=>∃(a:Addr) (ds:f6),vs=[.ref a]/\aG K H a ((ds.map bv).map V.int)/\cj ds/\ds.length<=5000/\bG (bh ds)=ds.map bv/\∀p H',bc H p (.lst ((bh ds).map V.int)) H'->Q (.ref p) H'
def Qg (T:Txt w K mg t):bz P w K mg base "unlettered" 5 t.Ac t.wp ["row"] (jg K):=by
 refine⟨T.RM,T.GP.kp,T.Uz,T.GP.okQ uz (λvs H Q E h=>by obtain⟨a,ds,rfl,_⟩:=h;rfl) λ_ _ _ _ H vs Q E hr h=>?_⟩;obtain⟨a,ds,rfl,c,hd,hl,j,k⟩:=h;have g:=hr.units;refine⟨_,(af (aP (i:=1) uz.nd rfl (.inl rfl) (aD (ED (K:=K) T) hr (ab (aa 0) ad)))
  (af (aL (aQ dH (aa 1) (bu (Yb K) T.n_len Yq (ab (aa 0) ad)) (aS _)) (ag eU) aN)
  (af (aP (i:=2) uz.nd rfl (.inl rfl) (aD (vC (K:=K) T) hr (ab (aa 0) ad)))
  (af (aL (aQ (gZ (K:=K) rfl g) (aD (vA (K:=K) T) hr (ab (aa 2) ad)) (aa 0) (aS _)) (ag eU) aN)
  (ag (am (aa 2))))))),?_⟩
 refine⟨a,ds,rfl,c,hd,λn b=>?_⟩;refine⟨_,.inl (b.seq c),?_⟩;refine ao (λz=>?_) (λz=>?_)
 ·have z:(ds.length:Int)<(((ds.map bv).map V.int).length:Int):=aac z;rw[Yl,Yl]at z;lia
 ·refine⟨a,ds,rfl,b.seq c,hd,hl,λl m e=>?_⟩;have lt:=IE ds;refine⟨l,bh ds,rfl,e.lst,ID ds,by lia,λp o d=>?_⟩;have f:=b.trans (e.sm.trans d.sm);refine⟨_,_,aO.lst d.lst (cu.ints _),aO.lst (f.seq c) (cu.ints _),YQ _,YQ _,?_⟩;refine ao (λz=>?_) (λz=>?_)
  ·have z:(!PyData.eqv (.list ((bG (bh ds)).map PyData.int)) (.list ((ds.map bv).map PyData.int)))=true:=z;rw[rm]at z;exact aab j (by simpa using z)
  ·exact k _ _ ((e.then d.sm).after b)
end
end My.Lr
namespace My.Lr
open PySem L2 Lw
section
variable {P:Program}{w:World}{K:PySem.W.Frag}{mg:Str->Option Value}{base:Heap}{t:Adr}
def IM(f:Int->Int)(r:f6):be (r.map f)=(be r).map f:=by
 unfold be;rw[Yl,Zy]
def Kp(a:Addr)(H b:Hp):Prop:=∀c u,c≠a->H c=some u->b c=some u
def Kp.trans{a:Addr}{H d b:Hp}(h:Kp a H d)(h':Kp a d b):Kp a H b:=λc u n e=>h' c u n (h c u n e)
def Kp.of{a:Addr}{H b:Hp}(h:ah H b):Kp a H b:=λc u _ e=>h c u e
def Kp.upd{a:Addr}{H:Hp}{o:HO}:Kp a H (upd H a o):=λc u n e=>by rw[ay n];exact e
def Kp.free{a x:Addr}{H b:Hp}{u:HO}(h:Kp a H b)(e:b x=none)(c:b a=some u):H x=none:=by
 cases z:H x with
 | none=>rfl
 | some v =>
  by_cases n:x=a
  ·rw[n,c]at e;cases e
  ·rw[h x v n z]at e;cases e
abbrev Rd(t:Adr)(dx pr:Addr)(m:Int)(wr:V)(e:Bool):HO:=.ins t.cW dx [("rest",.ref pr),("many",.int m),("wrong",wr),("ended",.bl e)]
def spInit(t:Adr):Sp:=λvs H Q _=>∃a dx,vs=[.ref a]/\H a=some (.ins t.cW dx [])/\∀pr H',H pr=none->Kp a H H'->H' a=some (Rd t dx pr 0 .non false)->H' pr=some (.lst [])->Q .non H'
def ok_init (T:Txt w K mg t):bH P w K mg base bO 1 t.tM t.rh ["self"] (spInit t):=by
 refine T.W3.okQ Lj (λvs H Q E h=>by obtain⟨a,dx,rfl,_⟩:=h;rfl) λ_ _ _ _ H vs Q E hr h=>?_;obtain⟨a,dx,rfl,d,k⟩:=h;refine⟨_,(af (bQ (K:=K) rfl (aa 0) (aR ad))
  (af (bQ (K:=K) rfl (aa 0) aj)
  (af (bQ (K:=K) rfl (aa 0) ce)
  (ag (bQ (K:=K) rfl (aa 0) dW))))),?_⟩
 refine⟨sz rfl,λp e c=>?_⟩;have b:p≠a:=(aI d c.nw).symm;refine⟨a,_,dx,_,rfl,c.sm _ _ d,T.eI,T.nR,Yn Zr (by decide),?_⟩;refine⟨a,_,dx,_,rfl,aJ,T.eI,T.DQ,Yn (Yu 1) (by decide),?_⟩;refine⟨a,_,dx,_,rfl,aJ,T.eI,T.DP,Yn (Yu 2) (by decide),?_⟩;refine⟨a,_,dx,_,rfl,aJ,T.eI,T.qz,Yn (Yu 3) (by decide),?_⟩;refine k p _ c.nw ((Kp.of c.sm).trans (Kp.upd.trans (Kp.upd.trans (Kp.upd.trans Kp.upd)))) ?_ ?_
 ·rw[aJ];rfl
 ·rw[ay b,ay b,ay b,ay b];exact c.at_
def Kc(t:Adr):Sp:=λvs H Q _=>∃a dx pr m wr e,vs=[.ref a]/\H a=some (Rd t dx pr m wr e)/\Q wr H
def Q8 (T:Txt w K mg t):cc P w K mg base t.cW "bad" 1 t.Bc t.xE ["self"] (Kc t):=by
 refine⟨T.eI,T.Ow,T.VQ,T.W6.okQ Ll (λvs H Q E h=>by obtain⟨a,dx,pr,m,wr,e,rfl,_⟩:=h;rfl) λ_ _ _ _ H vs Q E hr h=>?_⟩;obtain⟨a,dx,pr,m,wr,e,rfl,b,k⟩:=h;refine⟨_,(ag (am (aX (K:=K) rfl (aa 0)))),?_⟩;exact⟨a,_,dx,_,_,rfl,b,T.eI,T.DP,rfl,k⟩
def ut(t:Adr):Sp:=λvs H Q _=>∃(a dx pr b:Addr) (m:Int) (x y:f6),vs=[.ref a,.ref b]/\H a=some (Rd t dx pr m .non false)/\H pr=some (.lst (((be x).map bv).map V.int))/\H b=some (.lst ((y.map bv).map V.int))/\cj x/\cj y/\y.length<=3000 /\
 ∀pq po H',H pq=none->H po=none->pq≠po->Kp a H H'->H' a=some (Rd t dx pq (m+(y.length:Int)) .non false)->H' pq=some (.lst (((be (x++y)).map bv).map V.int)) ->
  H' po=some (.lst (((bh (be x++y)).drop (bh (be x)).length).map V.int))->Q (.ref po) H'
def EX (T:Txt w K mg t):cc P w K mg base t.cW "feed" 5 t.Ba t.xC ["self", "row"] (ut t):=by
 refine⟨T.eI,T.Ot,T.VO,T.W4.okQ qd (λvs H Q E h=>by obtain⟨a,dx,pr,b,m,x,y,rfl,_⟩:=h;rfl) λ_ _ _ _ H vs Q E hr h=>?_⟩;obtain⟨a,dx,pr,b,m,x,y,rfl,v,Y,F,B,o,lp,k⟩:=h;refine⟨_,(af (aL (dE (K:=K) rfl (aX (K:=K) rfl (aa 0))) (ag (am (aR ad))) aN)
  (af (aP (i:=2) qd.nd rfl (.inl rfl) (cD (Yd K) (aa 1) dU (bU (aD (ED (K:=K) T) hr (ab (aa 1) ad)))))
  (af (uR (K:=K) rfl (aa 0) (bu (Yb K) T.n_len Yq (ab (aa 2) ad)))
  (af (aL (aQ dH (bu (Yb K) T.n_len Yq (ab (aa 2) ad)) (bu (Yb K) T.n_len Yq (ab (aa 1) ad)) (aS _)) (ag eU) aN)
  (af (aP (i:=3) qd.nd rfl (.inl rfl) (bu (Yb K) T.n_len Yq (ab (aD (vC (K:=K) T) hr (ab (aX (K:=K) rfl (aa 0)) ad)) ad)))
  (af (aP (i:=2) qd.nd rfl (.inl rfl) (az (Ya K) (aX (K:=K) rfl (aa 0)) (aa 2)))
  (af (bQ (K:=K) rfl (aa 0) (aD (EJ (K:=K) T) hr (ab (aa 2) (ab (bE T.o0) ad))))
  (ag (am (cD (Yd K) (aD (vC (K:=K) T) hr (ab (aa 2) ad)) (bU (aa 3)) dU)))))))))),?_⟩
 refine⟨a,_,dx,_,_,rfl,v,T.eI,T.qz,rfl,?_⟩;refine ao (λe=>aab (show false=true from e) (by decide)) (λ_=>?_);have nl:∀ {z:Addr} {l:List V},H z=some (.lst l)->z≠a:=λ{z l} e q=>by rw[q,v]at e;cases e
 refine⟨b,y,rfl,.of F,o,λH1 s1=>?_⟩;refine⟨_,rfl,_,.of (s1 _ _ F),λR H2 r=>?_⟩;have e2:cn ((y.map bv).map V.int) none (some (y.length:Int))=(y.map bv).map V.int:=by
  rw[dL];refine congrArg _ ((oS _ _).trans ?_);rw[YW (by simp)]
 rw[e2]at r;have G:=s1.trans r.sm;have M:R≠a:=(aI (s1 _ _ v) r.nw).symm;have eY:(((y.map bv).map V.int).length:Int)=(y.length:Int):=by rw[Yl,Yl]
 refine⟨a,_,dx,_,_,rfl,G _ _ v,T.eI,T.DQ,rfl,?_⟩;refine⟨_,.inl r.lst,?_⟩;refine⟨_,_,rfl,rfl,?_⟩;refine⟨dx,_,G _ _ v,Yn (Yu 4) (by decide),?_⟩;obtain⟨u,C⟩:∃u,u=upd H2 a (HO.ins t.cW dx (bZ "many" (.int (m+(((y.map bv).map V.int).length:Int))) [("rest",.ref pr),("many",.int m),("wrong",.non),("ended",.bl false)])):=⟨_,rfl⟩;have O:u a=some (Rd t dx pr (m+(y.length:Int)) .non false):=by rw[C,aJ,eY];rfl
 have k4:Kp a H u:=by rw[C];exact (Kp.of G).trans Kp.upd
 have W:u R=some (.lst ((y.map bv).map V.int)):=by rw[C,ay M];exact r.at_
 rw[<- C];clear C;have b3:=k4 _ _ (nl F) F;refine⟨_,.inl (.of W),_,.inl (.of b3),?_⟩;refine ao (λe=>?_) (λe=>?_)
 ·have e:(((y.map bv).map V.int).length:Int)<(((y.map bv).map V.int).length:Int):=aac e;exact aab e (Int.lt_irrefl _)
 have N:=k4 _ _ (nl Y) Y;refine⟨a,_,dx,_,_,rfl,O,T.eI,T.nR,rfl,?_⟩;have l4:(be x).length<4:=by obtain⟨_,_,_,_,e⟩:=pO x;lia
 refine⟨pr,be x,rfl,.of N,pQ B,by lia,λq5 H5 j=>?_⟩;refine⟨_,.inl j.lst,?_⟩;have s:=j.sm _ _ O;refine⟨a,_,dx,_,_,rfl,s,T.eI,T.nR,rfl,?_⟩;refine⟨_,_,.of (j.sm _ _ N),.of (j.sm _ _ W),bM (by simp;lia),λL H6 c=>?_⟩;have e6:((be x).map bv).map V.int++(y.map bv).map V.int=((be x++y).map bv).map V.int:=by simp
 rw[e6]at c;refine⟨L,_,4,rfl,c.lst,by decide,λp H7 d=>?_⟩;have e7:((be x++y).map bv).drop (((be x++y).map bv).length-((be x++y).map bv).length%4)=(be (x++y)).map bv:=by
  rw[<- IL,<- IM];rfl
 rw[e7]at d;have a7:=d.sm _ _ (c.sm _ _ s);refine⟨a,_,dx,_,rfl,a7,T.eI,T.nR,Yn (Yu 4) (by decide),?_⟩;have I:L≠a:=(aI s c.nw).symm;have J:p≠a:=(aI (c.sm _ _ s) d.nw).symm;obtain⟨n,D⟩:∃n,n=upd H7 a (HO.ins t.cW dx (bZ "rest" (.ref p) [("rest",.ref pr),("many",.int (m+(y.length:Int))),("wrong",.non),("ended",.bl false)])):=⟨_,rfl⟩;have a8:n a=some (Rd t dx p (m+(y.length:Int)) .non false):=by rw[D,aJ];rfl
 have f:Kp a H7 n:=by rw[D];exact Kp.upd
 rw[<- D];clear D;have k8:Kp a H n:=k4.trans ((Kp.of (j.sm.trans (c.sm.trans d.sm))).trans f);refine⟨L,_,rfl,.of (f _ _ I (d.sm _ _ c.at_)),Fy (pQ B) o,by rw[Yo];lia,λq9 H9 g=>?_⟩;refine⟨_,rfl,_,g.lst,λqa U gA=>?_⟩;have eA:cn ((bh (be x++y)).map V.int) (some (((bh (be x)).map V.int).length:Int)) none=((bh (be x++y)).drop (bh (be x)).length).map V.int:=by
  rw[dL,Yl];exact congrArg _ (i3 _ _)
 rw[eA]at gA;have kA:Kp a H U:=k8.trans (Kp.of (g.sm.trans gA.sm));have aA:=gA.sm _ _ (g.sm _ _ a8);have S:n p=some (.lst (((be (x++y)).map bv).map V.int)):=f _ _ J d.at_;refine k p qa U ?_ ?_ (aI (g.sm _ _ S) gA.nw) kA aA (gA.sm _ _ (g.sm _ _ S)) gA.at_
 ·exact (k4.trans (Kp.of (j.sm.trans c.sm))).free d.nw (c.sm _ _ s)
 ·exact (k8.trans (Kp.of g.sm)).free gA.nw (g.sm _ _ a8)
def uu(t:Adr):Sp:=λvs H Q _=>∃(a dx pr:Addr) (m:Int) (x:f6),vs=[.ref a]/\H a=some (Rd t dx pr m .non false)/\H pr=some (.lst (((be x).map bv).map V.int))/\cj x/\bG (bh (be x))=(be x).map bv /\
 ∀po H',H po=none->Kp a H H'->H' a=some (Rd t dx pr m .non true)->H' po=some (.lst [])->Q (.ref po) H'
def Q7 (T:Txt w K mg t):cc P w K mg base t.cW "end" 6 t.Bb t.xD ["self"] (uu t):=by
 refine⟨T.eI,T.Ov,T.VP,T.W5.okQ Lk (λvs H Q E h=>by obtain⟨a,dx,pr,m,x,rfl,_⟩:=h;rfl) λ_ _ _ _ H vs Q E hr h=>?_⟩;obtain⟨a,dx,pr,m,x,rfl,f,i,g,y,k⟩:=h;refine⟨_,(af (aL (eS (dE (K:=K) rfl (aX (K:=K) rfl (aa 0)))) (af (bQ (K:=K) rfl (aa 0) dW)
  (ag (uO (λpn=>(ag (ck (aD (Qg (K:=K) T) hr (ab (aX (K:=K) rfl (aa 0)) ad)))))))) aN)
  (ag (am (aR ad)))),?_⟩
 have u:∀ {z:Addr} {l:List V},H z=some (.lst l)->z≠a:=λ{z l} e q=>by rw[q,f]at e;cases e
 have D:(be x).length<4:=by obtain⟨_,_,_,_,e⟩:=pO x;lia
 have s:=pQ g;refine⟨a,_,dx,_,_,rfl,f,T.eI,T.qz,rfl,?_⟩;refine ao (λ_=>?_) (λe=>aab (show (!false)=true from rfl) e);refine⟨a,_,dx,_,rfl,f,T.eI,T.qz,Yn (Yu 4) (by decide),?_⟩;obtain⟨c,d⟩:∃c,c=upd H a (HO.ins t.cW dx (bZ "ended" (.bl true) [("rest",.ref pr),("many",.int m),("wrong",.non),("ended",.bl false)])):=⟨_,rfl⟩;have n:c a=some (Rd t dx pr m .non true):=by rw[d,aJ];rfl
 have k1:Kp a H c:=by rw[d];exact Kp.upd
 rw[<- d];clear d;have v:=k1 _ _ (u i) i;refine⟨a,_,dx,_,_,rfl,n,T.eI,T.nR,rfl,?_⟩;refine⟨pr,be x,rfl,.of v,s,by lia,y,λB C o=>?_⟩;refine⟨sz rfl,λr p b=>?_⟩;have k2:=k1.trans (Kp.of o.sm);have j:=o.sm _ _ n;exact k r p (k2.free b.nw j) (k2.trans (Kp.of b.sm)) (b.sm _ _ j) b.at_
end
end My.Lr
namespace My
open PySem L2
section
variable {P:Program}{w:World}{K:PySem.W.Frag}{mg:Str->Option Value}{base:Heap}{t:Adr}
def JD(K:PySem.W.Frag):Sp:=λvs H Q _=>∃(a:Addr) (ns:f6) (k:Nat),vs=[.ref a,.int (k:Int)]/\aG K H a (ns.map V.int)/\∀H',ah H H'->Q (.int (ns.getD k 0)) H'
def iT (T:Txt w K mg t):bz P w K mg base "_law_pick" 1 t.zT t.wd ["_law_script", "_law_k"] (JD K):=by
 refine⟨T.RD,T.GG.kp,T.Uq,T.GG.okQ Kq (λvs H Q E h=>by obtain⟨a,ns,i,rfl,_⟩:=h;rfl) λ_ _ _ _ H vs Q E hr h=>?_⟩;obtain⟨a,ns,i,rfl,d,k⟩:=h;refine⟨_,(ag (am (bu (TB (K:=K) rfl rfl) T.n_sum PyProof.Rows.boot_sum (ab (cD (Yd K) (aa 0) (bU (aa 1)) (bU (az (Ya K) (aa 1) aj))) ad)))),?_⟩;refine⟨_,rfl,_,rfl,_,d,λj g b=>?_⟩;have e:cn (ns.map V.int) (some (i:Int)) (some ((i:Int)+1))=((ns.drop i).take 1).map V.int:=by rw[dL];exact congrArg _ (oU ns i 1)
 rw[e]at b;refine⟨_,b.lst,?_⟩;have f:((ns.drop i).take 1).sum=ns.getD i 0:=by
  have c:ns[i]? = (ns.drop i)[0]?:=by rw[List.getElem?_drop];rfl
  rw[YZ,c];cases ns.drop i with
  | nil=>rfl
  | cons x r=>simp
 rw[f];exact k _ b.sm
def qI(n:Int)(ns:f6):dZ (.int n) (ns.map V.int)=decide (n∈ns):=by
 induction ns with
 | nil=>rfl
 | cons m ns ih =>
  unfold dZ at *;rw[YO,ZI,ih];simp only [d6,Yz];by_cases e:m=n
  ·simp[e]
  ·have:¬n=m:=λz=>e z.symm;simp[e,this]
def qW(ns:f6):(ns.map V.int).all fI=true:=by
 rw[ZV];intro x hx;obtain⟨n,_,rfl⟩:=Y3.mp hx
 rfl
def jC:f6:=[0,127,128,2047,2048,55295,57344,61183,61440,65279,65535,65536,1114111,10,65,97]
def Kk:∀n∈jC,Sg n:=by unfold Sg;decide
def Ub:∀i<16,∀j<16,jC.getD i 0=jC.getD j 0->i=j:=by decide
def gp(s:Int):Int:=if 55295<s then s+2048 else s
def gq(s:Int):Int:=if 61183<s then s+256 else s
def dS(c:Int):Int:=if c%2=0 then jC.getD (c/2%16).toNat 0 else gq (gp (c/2%1111808))
def Kl(c:Int):Sg (dS c):=by
 unfold dS
 split
 ·have h:(c/2%16).toNat<jC.length:=by show _<16;omega
  rw[YZ,YM h];exact Kk _ (a0l h)
 ·unfold Sg gq gp
  (repeat' split)<;>omega
def Cu{n:Int}{i j:Nat}(b:i<16)(a:j<16)(h:dS (n+34*(i:Int))=dS (n+34*(j:Int))):i=j:=by
 unfold dS at h;by_cases e:n%2=0
 ·rw[aaa (by omega),aaa (by omega)]at h;have:=Ub _ (by omega) _ (by omega) h;omega
 ·rw[on (by omega),on (by omega)]at h;unfold gq gp at h
  (repeat' split at h)<;>omega
def Jt:Sp:=λvs H Q _=>∃c,vs=[.int c]/\∀H',ah H H'->Q (.int (dS c)) H'
def Ex (T:Txt w K mg t):bz P w K mg base "_law_sign" 1 t.zO t.vY ["_law_number"] Jt:=by
 refine⟨T.Ry,T.GB.kp,T.Uk,T.GB.okQ ny (λvs H Q E h=>by obtain⟨c,rfl,_⟩:=h;rfl) λ_ _ _ _ H vs Q E hr h=>?_⟩;obtain⟨c,rfl,k⟩:=h;have j:=hr.units;refine⟨_,(af (aP (i:=1) ny.nd rfl (.inl rfl) (aR (uQ rfl)))
  (af (aL (aQ (cf (K:=K) rfl j) (cU (aa 0)) aj (aS _)) (ag (am (aE (Yc K) (aa 1) (cU (dF (aa 0))) (λ_ _=>rfl)))) aN)
  (af (aP (i:=2) ny.nd rfl (.inl rfl) (cU (dF (aa 0))))
  (af (aL (aQ iU (aa 2) aj (aS _)) (ag (aP (i:=2) ny.nd rfl (.inl rfl) (az (Ya K) (aa 2) aj))) aN)
  (af (aL (aQ iU (aa 2) aj (aS _)) (ag (aP (i:=2) ny.nd rfl (.inl rfl) (az (Ya K) (aa 2) aj))) aN)
  (ag (am (aa 2)))))))),?_⟩
 refine⟨sz rfl,λm l f=>?_⟩;have a:=k _ f.sm;refine ao (λe=>?_) (λe=>?_)
 ·have h:(c/2%16).toNat<jC.length:=by show _<16;omega
  have d:cv (jC.map V.int) (c/2%16)=some (.int (dS c)):=by
   have g:c/2%16=(((c/2%16).toNat:Nat):Int):=by omega
   rw[g];refine ba ?_;unfold dS;rw[aaa (aac e),Yt,YZ,YM h]
   rfl
  exact⟨_,_,.inl f.lst,d,a⟩
 ·unfold dS gq gp at a;rw[on (λz=>e (aad z))]at a;refine ao (λd=>?_) (λd=>?_)
  ·rw[aaa (aac d)]at a;refine ao (λb=>?_) (λb=>?_)
   ·rw[aaa (aac b)]at a;exact a
   ·rw[on (λz=>b (aad z))]at a;exact a
  ·rw[on (λz=>d (aad z))]at a;refine ao (λb=>?_) (λb=>?_)
   ·rw[aaa (aac b)]at a;exact a
   ·rw[on (λz=>b (aad z))]at a;exact a
def Pg(ns:f6):Prop:=(∀n∈ns,Sg n)/\ns.Nodup/\ns.length<=8
def Pg.okp{ns:f6}(h:Pg ns):dj ns:=⟨h.1,h.2.1,YK h.2.2 (by decide)⟩
def Pg.sub{ns a:f6}(h:Pg ns)(s:a.Sublist ns):Pg a:=⟨λn b=>h.1 n (s.subset b),List.Pairwise.sublist s h.2.1,YK s.length_le h.2.2⟩
def Pg.perm{ns a:f6}(h:Pg ns)(s:a.Perm ns):Pg a:=⟨λn b=>h.1 n (s.subset b),s.nodup_iff.mpr h.2.1,by rw[s.length_eq];exact h.2.2⟩
def cO{a b:TS}{D:fN}{σ:St}{H:Hp}(h:∀T:TS,T=b->m9 a T D σ H):m9 a b D σ H:=h b rfl
def c7{i:Nat}{v:V}{σ:St}{H:Hp}{Q:St->Hp->Prop}(h:Q (σ.set i (some v)) H):eB i v σ H Q:=h
def JA(K:PySem.W.Frag):Sp:=λvs H Q _=>∃(a:Addr) (cs:f6),vs=[.ref a]/\aG K H a (cs.map V.int)/\∀(q:Addr) (ns:f6) H',ah H H'->H' q=some (.lst (ns.map V.int))->Pg ns->ns≠[]->Q (.ref q) H'
def P7 (T:Txt w K mg t):bz P w K mg base "_law_pool" 2 t.zQ t.v9 ["_law_script"] (JA K):=by
 refine⟨T.RA,T.GD.kp,T.Um,T.GD.okQ nz (λvs H Q E h=>by obtain⟨a,cs,rfl,_⟩:=h;rfl) λ_ _ _ _ H vs Q E hr h=>?_⟩;obtain⟨a,cs,rfl,L,k⟩:=h;have hu:=hr.units;refine⟨_,(af (aP (i:=1) nz.nd rfl (.inl rfl) (aR ad))
  (af (cq PassesOwn.never rfl (nI rfl T.n_range (ab (az (Ya K) aj (cU (aD (iT (K:=K) T) hr (ab (aa 0) (ab aj ad))))) ad)) (bi (i:=2) nz.nd rfl (.inl rfl)) (af (aP (i:=3) nz.nd rfl (.inl rfl) (aD (iT (K:=K) T) hr (ab (aa 0) (ab (az (Ya K) aj (aa 2)) ad))))
  (af (LO PassesOwn.never (aQ (E8 (K:=K) rfl) (aD (Ex (K:=K) T) hr (ab (aa 3) ad)) (aa 1) (by with_unfolding_all rfl)) (ag (aP (i:=3) nz.nd rfl (.inl rfl) (az (Ya K) (aa 3) aj))))
  (ag (ck (cT (K:=K) rfl YJ ZD ZE ju (aa 1) (ab (aD (Ex (K:=K) T) hr (ab (aa 3) ad)) ad)))))))
  (ag (am (aa 1))))),?_⟩
 refine⟨sz rfl,λp H1 r=>?_⟩;refine⟨a,cs,0,rfl,r.sm.seq L,λH2 J=>?_⟩;obtain⟨z,hz⟩:∃z:Nat,1+cs.getD 0 0%8=(z:Int):=⟨(1+cs.getD 0 0%8).toNat,by omega⟩;have z8:z<=8:=by omega
 have z1:1<=z:=by omega
 refine⟨z,by rw[hz],by omega,by omega,?_⟩;refine om (lo:=0) (n:=z) (λi σ f=>ah H f/\∃(ns:f6) (u B:Option V),f p=some (.lst (ns.map V.int))/\(∀n∈ns,Sg n)/\ns.Nodup/\ns.length=i/\σ=[some (.ref a),some (.ref p),u,B])
  ⟨r.sm.trans J,[],_,_,J _ _ r.at_,(λ_ h=>nomatch h),.nil,rfl,rfl⟩ ?_ ?_
 ·rintro i σ N hi ⟨s,ns,u,B,F,hs,nd,ln,rfl⟩;refine⟨a,cs,1+i,by rw[Zn,Zq];rfl,s.seq L,λS M=>?_⟩;obtain⟨b,o⟩:∃b,b=cs.getD (1+i) 0:=⟨_,rfl⟩;rw[<- o];clear o;refine c7 ?_;dsimp only;refine⟨λm l f=>∃j,m=9-j/\(∀x<j,dS (b+34*(x:Int))∈ns)/\ah S f/\l=[some (.ref a),some (.ref p),some (.int (i:Int)),some (.int (b+34*(j:Int)))],⟨9,0,rfl,(λx hx=>aab hx (Zm _)),ah.refl _,by simp⟩,?_⟩;rintro m l Y ⟨j,rfl,W,G,rfl⟩;refine⟨_,rfl,λU D=>?_⟩;have C:=D _ _ (G _ _ (M _ _ F));refine⟨_,.inl (.of C),rfl,qW ns,?_⟩;have I:=(s.trans M).trans (G.trans D);refine ao (λe=>?_) (λe=>?_)
  ·have e:dZ (.int (dS (b+34*(j:Int)))) (ns.map V.int)=true:=e;rw[qI]at e;have g:∀x<j+1,dS (b+34*(x:Int))∈ns:=λx hx=>by
    by_cases ex:x=j
    ·rw[ex];exact aac e
    ·exact W x (by omega)
   have hl:j+1<=ns.length:=by
    rw[<- ZO (n:=j+1),<- Yl (λx:Nat=>dS (b+34*(x:Int)))];have small:∀d,d<=j->d<16:=λd hd=>by
     refine Decidable.byContradiction λhc=>?_;have v:(List.range 16).length<=ns.length:=by
      rw[<- Yl (λx:Nat=>dS (b+34*(x:Int)))];refine a2r (a1s.mpr (a1t.imp_of_mem λhx c ne q=>ne (Cu (YE.mp hx) (YE.mp c) q))) λy c=>?_;obtain⟨x,hx,rfl⟩:=Y3.mp c;have:=YE.mp hx;exact g x (by omega)
     simp at v;omega
    refine a2r (a1s.mpr (a1t.imp_of_mem λhx c ne q=>ne (Cu (small _ (by have:=YE.mp hx;omega)) (small _ (by have:=YE.mp c;omega)) q))) λy c=>?_;obtain⟨x,hx,rfl⟩:=Y3.mp c;exact g x (YE.mp hx)
   refine⟨λl f=>f=U/\l=[some (.ref a),some (.ref p),some (.int (i:Int)),some (.int (b+34*((j+1:Nat):Int)))],?_,?_⟩
   ·rintro l f ⟨rfl,rfl⟩;exact⟨9-(j+1),by omega,j+1,rfl,g,G.trans D,rfl⟩
   ·refine⟨rfl,?_⟩;rw[Zn,Int.mul_add,<- Int.add_assoc]
    rfl
  ·have e:¬dZ (.int (dS (b+34*(j:Int)))) (ns.map V.int)=true:=e;rw[qI]at e;have R:dS (b+34*(j:Int))∉ns:=λz=>e (aad z);refine⟨.inl ⟨rfl,_,.of C⟩,?_⟩;refine⟨_,rfl,λH7 O=>?_⟩;refine⟨_,O _ _ C,fA (by rw[Yl];omega),?_⟩;refine⟨(I.trans O).put r.nw,ns++[dS (b+34*(j:Int))],_,_,?_,?_,?_,by rw[Yo];show _+1=_;omega,rfl⟩
   ·rw[aJ,Yw];rfl
   ·intro x hx;rcases Yx.mp hx with q|q
    ·exact hs x q
    ·rw[YH.mp q];exact Kl _
   ·refine List.nodup_append.mpr ⟨nd,by simp,λx hx y c e=>?_⟩;rw[YH.mp c]at e;rw[e]at hx;exact R hx
 ·rintro σ N ⟨s,ns,u,B,F,hs,nd,ln,rfl⟩;exact k p ns N s F ⟨hs,nd,by omega⟩ (λe=>by rw[e]at ln;simp at ln;omega)
def J3(K:PySem.W.Frag):Sp:=λvs H Q _=>∃(a:Addr) (cs:f6) (at_ m z:Nat),vs=[.ref a,.int (at_:Int),.int (m:Int),.int (z:Int)]/\aG K H a (cs.map V.int)/\0<m/\m<=1000/\z<=1000/\∀p (ds:f6) H',ah H H'->H' p=some (.lst (ds.map V.int))->ds.length<=z->(∀d∈ds,0<=d/\d<m)->Q (.ref p) H'
def Qd (T:Txt w K mg t):bz P w K mg base "_law_digits" 2 t.zX t.wj ["_law_script", "_law_at", "_law_many", "_law_most"] (J3 K):=by
 refine⟨T.RH,T.GK.kp,T.Uu,T.GK.okQ nB (λvs H Q E h=>by obtain⟨a,cs,at_,m,z,rfl,_⟩:=h;rfl) λ_ _ _ _ H vs Q E hr h=>?_⟩;obtain⟨a,cs,at_,m,z,rfl,v,m0,W,z1,k⟩:=h;have N:=hr.units;refine⟨_,(af (aP (i:=4) nB.nd rfl (.inl rfl) (az qO (aD (iT (K:=K) T) hr (ab (aa 0) (ab (aa 1) ad))) (az (Ya K) (aa 3) aj)))
  (af (aP (i:=5) nB.nd rfl (.inl rfl) (aR ad))
  (af (cq PassesOwn.never rfl (nI rfl T.n_range (ab (az gy (aD (iT (K:=K) T) hr (ab (aa 0) (ab (aa 1) ad))) (az (Ya K) (aa 3) aj)) ad)) (bi (i:=6) nB.nd rfl (.inl rfl)) (af (aL (dG (fV (aQ (cf (K:=K) rfl N) (aa 4) aj (aS _)) (fU (aQ (cf (K:=K) rfl N) (aa 4) (C9 BB aj) (aS _))))) (ag (ck (cT (K:=K) rfl YJ ZD ZE ju (aa 5) (ab (az gy (aD (iT (K:=K) T) hr (ab (aa 0) (ab (az (Ya K) (az (Ya K) (aa 1) aj) (aa 6)) ad))) (aa 2)) ad)))) (ag (ck (cT (K:=K) rfl YJ ZD ZE ju (aa 5) (ab (az gy (aa 4) (aa 2)) ad)))))
  (ag (aP (i:=4) nB.nd rfl (.inl rfl) (az qO (aa 4) (aa 2))))))
  (ag (am (aa 5)))))),?_⟩
 refine⟨a,cs,at_,rfl,v,λH1 s1=>?_⟩;refine⟨⟨by lia,by lia⟩,?_⟩;refine⟨sz rfl,λf Y B=>?_⟩;have I:=s1.trans B.sm;refine⟨a,cs,at_,rfl,I.seq v,λH3 J=>?_⟩;refine⟨by show (0:Int)<(z:Int)+1;lia,?_⟩;obtain⟨y,U⟩:∃y:Nat,cs.getD at_ 0%((z:Int)+1)=(y:Int):=⟨(cs.getD at_ 0%((z:Int)+1)).toNat,by have:=ZK (cs.getD at_ 0) (show ((z:Int)+1)≠0 by lia);lia⟩;have yz:y<=z:=by have:=ZL (cs.getD at_ 0) (show 0<((z:Int)+1) by lia);lia
 refine⟨y,by show [V.int (cs.getD at_ 0%((z:Int)+1))]=_;rw[U],by lia,by lia,?_⟩;have S:H f=none:=s1.free B.nw;refine om (lo:=0) (n:=y) (λi σ o=>ah H o/\∃(ds:f6) (p:Int) (F:Option V),o f=some (.lst (ds.map V.int))/\(∀d∈ds,0<=d/\d<m)/\ds.length=i/\σ=[some (.ref a),some (.int (at_:Int)),some (.int (m:Int)),some (.int (z:Int)),some (.int p),some (.ref f),F])
  ⟨I.trans J,[],_,_,J _ _ B.at_,(λ_ h=>nomatch h),rfl,rfl⟩ ?_ ?_
 ·rintro i σ s hi ⟨r,ds,p,F,j,hd,ln,rfl⟩;refine c7 ?_;dsimp only;have fin:∀(g:Hp) (x:Int),ah s g->0<=x/\x<m->ah H (upd g f (.lst (ds.map V.int++[.int x])))/\∃b:f6,upd g f (.lst (ds.map V.int++[.int x])) f=some (.lst (b.map V.int))/\(∀d∈b,0<=d/\d<m)/\b.length=i+1:=λg x l hx=>by
   refine⟨(r.trans l).put S,ds++[x],by rw[aJ,Yw];rfl,λd h=>?_,by rw[Yo];show _+1=_;lia⟩;rcases Yx.mp h with q|q
   ·exact hd d q
   ·rw[YH.mp q];exact hx
  have hm:∀c:Int,0<=c%(m:Int)/\c%(m:Int)<m:=λc=>⟨ZK c (by lia),ZL c (by lia)⟩;refine iJ (t:=iG _ _ _) (λL o=>ah H o/\∃b:f6,o f=some (.lst (b.map V.int))/\(∀d∈b,0<=d/\d<m)/\b.length=i+1/\L=[some (.ref a),some (.int (at_:Int)),some (.int (m:Int)),some (.int (z:Int)),some (.int p),some (.ref f),some (.int (0+(i:Int)))]) (λnx M=>?_) ?_
  ·refine ao (λe=>?_) (λe=>ao (λO=>?_) (λO=>?_))
   rotate_left 2
   ·refine⟨.inl ⟨rfl,_,.of j⟩,?_⟩;refine⟨by show (0:Int)<m;lia,?_⟩;refine⟨_,j,fA (by rw[Yl];lia),?_⟩;obtain⟨G,b,C,D,u⟩:=fin s _ (ah.refl _) (hm p);exact M _ _ ⟨G,b,C,D,u,rfl⟩
   all_goals
    try rw[aaa rfl]
    refine⟨.inl ⟨rfl,_,.of j⟩,?_⟩;refine⟨a,cs,at_+1+i,by rw[Zn,Zn,Zq];rfl,r.seq v,λg l=>?_⟩;refine⟨by show (0:Int)<m;lia,?_⟩;refine⟨_,l _ _ j,fA (by rw[Yl];lia),?_⟩;obtain⟨G,b,C,D,u⟩:=fin g _ l (hm (cs.getD (at_+1+i) 0));exact M _ _ ⟨G,b,C,D,u,rfl⟩
  ·rintro L g ⟨l,b,R,he,le,rfl⟩;refine⟨⟨by lia,by lia⟩,?_⟩;exact⟨l,b,_,_,R,he,le,rfl⟩
 ·rintro σ s ⟨r,ds,p,F,j,hd,ln,rfl⟩;exact k f ds s r j (by lia) hd
def JM:Sp:=λvs H Q _=>∃n,vs=[.int n]/\∀p H',bc H p (.lst ((row n).map V.int)) H'->Q (.ref p) H'
def Qc (T:Txt w K mg t):bz P w K mg base "_law_lead" 1 t.zW t.wg ["_law_sign_here"] JM:=by
 refine⟨T.RG,T.GJ.kp,T.Ut,T.GJ.okQ Ks (λvs H Q E h=>by obtain⟨n,rfl,_⟩:=h;rfl) λ_ _ _ _ H vs Q E hr h=>?_⟩;obtain⟨n,rfl,k⟩:=h;refine⟨_,(af (aL (aQ dH (aa 0) aj (aS _)) (ag (am (aR (ab (aa 0) ad)))) aN)
  (af (aL (aQ dH (aa 0) aj (aS _)) (ag (am (aR (ab (az (Ya K) aj (dF (aa 0))) (ab (az (Ya K) aj (cU (aa 0))) ad))))) aN)
  (af (aL (aQ dH (aa 0) aj (aS _)) (ag (am (aR (ab (az (Ya K) aj (dF (aa 0))) (ab (az (Ya K) aj (cU (dF (aa 0)))) (ab (az (Ya K) aj (cU (aa 0))) ad)))))) aN)
  (ag (am (aR (ab (az (Ya K) aj (dF (aa 0))) (ab (az (Ya K) aj (cU (dF (aa 0)))) (ab (az (Ya K) aj (cU (dF (aa 0)))) (ab (az (Ya K) aj (cU (aa 0))) ad)))))))))),?_⟩
 unfold row at k;refine ao (λe=>?_) (λe=>?_)
 ·rw[aaa (aac e)]at k;exact⟨sz rfl,λp b a=>k _ _ a⟩
 rw[on (λz=>e (aad z))]at k;refine ao (λe=>?_) (λe=>?_)
 ·rw[aaa (aac e)]at k;exact⟨sz rfl,λp b a=>k _ _ a⟩
 rw[on (λz=>e (aad z))]at k;refine ao (λe=>?_) (λe=>?_)
 ·rw[aaa (aac e)]at k;exact⟨sz rfl,λp b a=>k _ _ a⟩
 rw[on (λz=>e (aad z))]at k;exact⟨sz rfl,λp b a=>k _ _ a⟩
def bK{x:Str}(h:PyData.strOk x=true):SeqAt.shaped (.str x)=true:=by simp[SeqAt.shaped,PyData.canLay0,PyData.depth,h]
def il(b:Bool):PyData.strOk (cr b)=true:=by cases b<;>decide +kernel
def Dx (b:Bool):PyData.eqv (.str (cr b)) (.str "low") = !b:=by cases b<;>decide +kernel
def Je(K:PySem.W.Frag):Sp:=λvs H Q _=>∃n b,vs=[.int n,.str (cr b)]/\∀p H',ah H H'->H' p=some (.lst ((bN b n).map V.int))->Q (.ref p) H'
def P4 (T:Txt w K mg t):bz P w K mg base "_law_units" 1 t.zL t.vV ["_law_sign_here", "_law_order"] (Je K):=by
 refine⟨T.Rv,T.Gy.kp,T.Uh,T.Gy.okQ jS (λvs H Q E h=>by obtain⟨n,b,rfl,_⟩:=h;rfl) λ_ _ _ _ H vs Q E hr h=>?_⟩;obtain⟨n,b,rfl,k⟩:=h;have S:=hr.units;refine⟨_,(af (aP (i:=2) jS.nd rfl (.inl rfl) (aR (ab (aa 0) ad)))
  (af (aL (aQ iU (aa 0) aj (aS _)) (ag (aP (i:=2) jS.nd rfl (.inl rfl) (aR (ab (az (Ya K) aj (dF (az cA (aa 0) aj))) (ab (az (Ya K) aj (cU (az cA (aa 0) aj))) ad))))) aN)
  (af (aP (i:=3) jS.nd rfl (.inl rfl) (aR ad))
  (af (cq PassesOwn.never rfl (c8 (K:=K) rfl (aa 2)) (bi (i:=4) jS.nd rfl (.inl rfl)) (af (aP (i:=5) jS.nd rfl (.inl rfl) (aR (ab (dF (aa 4)) (ab (cU (aa 4)) ad))))
  (af (aL (aQ (cf (K:=K) rfl S) (aa 1) dC (aS _)) (ag (ck (Da (K:=K) rfl YJ PySem.F.slot_list_reverse PySem.F.type_list_reverse NQ (aa 5)))) aN)
  (ag (ck (cT (K:=K) rfl YJ Zg Zh (Yf K) (aa 3) (ab (aa 5) ad)))))))
  (ag (am (aa 3))))))),?_⟩
 refine⟨sz rfl,λM H1 s=>?_⟩;refine c7 ?_;dsimp only;refine iJ (t:=iG _ _ _) (λq c=>∃f,ah H c/\c f=some (.lst ((c6 n).map V.int))/\q=[some (.int n),some (.str (cr b)),some (.ref f),none,none,none]) (λnx d=>?_) ?_
 ·unfold c6 at d;refine ao (λe=>?_) (λe=>?_)
  ·have e:65535<n:=aac e;rw[on (by lia)]at d;exact⟨sz rfl,λN D I=>d _ _ ⟨N,s.sm.trans I.sm,I.at_,rfl⟩⟩
  ·have e:¬65535<n:=λz=>e (aad z);rw[aaa (by lia)]at d;exact d _ _ ⟨M,s.sm,s.at_,rfl⟩
 ·rintro q D ⟨f,C,g,rfl⟩;refine⟨sz rfl,λo H3 j=>?_⟩;have U:f≠o:=aI g j.nw;have nf:H o=none:=C.free j.nw;refine⟨f,rfl,⟨_,.of (j.sm _ _ g)⟩,iy (K:=K) (a:=f) (xs:=(c6 n).map V.int) (λi σ c=>ah D c/\∃u B,c o=some (.lst ((((c6 n).take i).flatMap (ub b)).map V.int))/\σ=[some (.int n),some (.str (cr b)),some (.ref f),some (.ref o),u,B])
   ⟨j.sm,_,_,j.at_,rfl⟩ (λi σ c _ z=>.of (z.1 _ _ g)) ?_ ?_⟩
  ·rintro i x σ G hx ⟨v,u,B,r,rfl⟩;obtain⟨m,hm,rfl⟩:=dz hx;refine⟨sz rfl,λpp Y p=>?_⟩;refine c7 ?_;dsimp only;have li:=(Yr.mp hm).1;have lu:(c6 n).length<=2:=by unfold c6;split<;>simp
   have fl:∀l:f6,(l.flatMap (ub b)).length=2*l.length:=λl=>by
    induction l with
    | nil=>rfl
    | cons x l ih=>rw[a0m,Yo,ih,Y7,show (ub b x).length=2 by cases b<;>rfl];lia
   have R:o≠pp:=aI r p.nw;refine iJ (t:=iG _ _ _) (λq c=>ah G c/\c pp=some (.lst ((ub b m).map V.int))/\q=[some (.int n),some (.str (cr b)),some (.ref f),some (.ref o),some (.int m),some (.ref pp)]) (λnx d=>?_) ?_
   ·refine⟨_,_,aO.str _,aO.str _,bK (il b),bK (by decide +kernel),?_⟩;have y:=p.at_;refine ao (λe=>?_) (λe=>?_)
    ·have e:PyData.eqv (.str (cr b)) (.str "low")=true:=e;rw[Dx]at e;refine⟨.inl ⟨rfl,_,.of y⟩,?_⟩;refine⟨pp,_,rfl,rfl,y,?_⟩;refine d _ _ ⟨p.sm.put p.nw,?_,rfl⟩;rw[aJ];cases b with
     | true=>cases e
     | false=>rfl
    ·have e:¬PyData.eqv (.str (cr b)) (.str "low")=true:=e;rw[Dx]at e;refine d _ _ ⟨p.sm,?_,rfl⟩;rw[y];cases b with
     | true=>rfl
     | false=>exact aab rfl e
   ·rintro q H6 ⟨L,W,rfl⟩;have J:=L _ _ r;refine⟨.inl ⟨rfl,_,.of J⟩,?_⟩;have O:(ub b m).length=2:=by cases b<;>rfl
    refine⟨_,_,J,W,bM (by rw[Yl,Yl,fl,Yp];lia),?_⟩;refine⟨(v.trans L).put j.nw,_,_,?_,rfl⟩;rw[aJ,<- Yw,de hm,a1p];simp
  ·rintro σ G ⟨v,u,B,r,rfl⟩;rw[Yl,Yy]at r;exact k _ _ (C.trans v) r
def Eh{ns:f6}{n:Int}{i:Nat}(h:bX ns n=some i):(∃z,(ns.map V.int)[i]? = some z/\d6 z (.int n)=true)/\∀j z,j<i->(ns.map V.int)[j]? = some z->d6 z (.int n)=false:=by
 obtain⟨a,b⟩:=mN h;refine⟨⟨.int n,by rw[Yt,a];rfl,by simp[d6]⟩,λj z c e=>?_⟩;obtain⟨m,hm,rfl⟩:=dz e;have:m≠n:=λq=>b j c (by rw[hm,q]);simp[d6,this]
def eJ(H:Hp)(p:Addr):Kt->Prop
 | .ld=>∃x y:Addr,H p=some (.tup [.str "lead",.ref x,.ref y])
 | .pr b=>∃x y:Addr,H p=some (.tup [.str (cr b),.ref x,.ref y])
 | .sh _ ns ms=>∃x y:Addr,H p=some (.tup [.str "shift",.ref x,.ref y])/\H x=some (.lst (ns.map V.int))/\H y=some (.lst (ms.map V.int))/\dj ns/\dj ms
 | .tb _ es=>∃(x y:Addr) (ps:List Addr),H p=some (.tup [.str "table",.ref x,.ref y])/\H x=some (.lst (ps.map V.ref))/\jb H ps es/\Es es
 | .br=>False
def eJ.mono{H d:Hp}{p:Addr}{D:Kt}(h:eJ H p D)(s:ah H d):eJ d p D:=by
 cases D with
 | ld=>obtain⟨x,y,h⟩:=h;exact⟨x,y,s _ _ h⟩
 | pr b=>obtain⟨x,y,h⟩:=h;exact⟨x,y,s _ _ h⟩
 | sh f ns ms=>obtain⟨x,y,h,c,a,k⟩:=h;exact⟨x,y,s _ _ h,s _ _ c,s _ _ a,k⟩
 | tb f es=>obtain⟨x,y,ps,h,c,a,k⟩:=h;exact⟨x,y,ps,s _ _ h,s _ _ c,a.mono s,k⟩
 | br=>exact h
def Ju:Sp:=λvs H Q _=>∃(p:Addr) (f:Fp) (ns a:f6) (n g:Int),vs=[.ref p,.int n,.int g]/\eJ H p (.sh f ns a)/\cY g/\(n∈ns\/n∈a)/\∀pf q H',ah H H'->H' q=some (.lst ((aZ (.sh f ns a) g n).1.map V.int))->H' pf=some (.tup [.ref q,.int (aZ (.sh f ns a) g n).2])->Q (.ref pf) H'
def P6 (T:Txt w K mg t):bz P w K mg base "_law_shifted" 1 t.zP t.vZ ["_law_plan_here", "_law_sign_here", "_law_page"] Ju:=by
 refine⟨T.Rz,T.GC.kp,T.Ul,T.GC.okQ Cz (λvs H Q E h=>by obtain⟨p,f,ns,a,n,g,rfl,_⟩:=h;rfl) λ_ _ _ _ H vs Q E hr h=>?_⟩;obtain⟨p,f,ns,a,n,g,rfl,⟨x,y,v,hx,N,L,O⟩,two,B,k⟩:=h;have M:=hr.units;refine⟨_,(af (aP (i:=3) Cz.nd rfl (.inl rfl) (aE (Yc K) (aa 0) (az (Ya K) aj (aa 2)) (λ_ _=>rfl)))
  (af (aL (aQ (E8 (K:=K) rfl) (aa 1) (aa 3) (by with_unfolding_all rfl)) (ag (am (cm (ab (aR (ab (cT (K:=K) rfl YJ a1k a2s (DV (K:=K) rfl) (aa 3) (ab (aa 1) ad)) ad)) (ab (aa 2) ad))))) aN)
  (ag (am (cm (ab (aR (ab (az cA aj (aa 2)) (ab (cT (K:=K) rfl YJ a1k a2s (DV (K:=K) rfl) (aE (Yc K) (aa 0) (az cA aj (aa 2)) (λ_ _=>rfl)) (ab (aa 1) ad)) ad))) (ab (az cA aj (aa 2)) ad))))))),?_⟩
 have J:cv [V.str "shift",.ref x,.ref y] (1+g)=some (.ref (av g x y)):=by rcases two with rfl|rfl<;>rfl
 have I:cv [V.str "shift",.ref x,.ref y] (2-g)=some (.ref (av g y x)):=by rcases two with rfl|rfl<;>rfl
 have r:H (av g x y)=some (.lst ((av g ns a).map V.int)):=by rcases two with rfl|rfl<;>assumption
 have D:H (av g y x)=some (.lst ((av g a ns).map V.int)):=by rcases two with rfl|rfl<;>assumption
 have s:n∈av g ns a\/n∈av g a ns:=by
  rcases two with rfl|rfl
  ·exact B
  ·exact B.symm
 refine⟨_,_,.inr (.of v),J,?_⟩;refine⟨_,.inl (.of r),rfl,qW _,?_⟩;have F:aZ (.sh f ns a) g n=(fi (av g ns a) (av g a ns) g (.int n)).getD ([],g):=rfl;have b:fi (av g ns a) (av g a ns) g (.int n)=match bX (av g ns a) n with
  | some i=>some ([(i:Int)],g)
  | none=>match bX (av g a ns) n with
   | some i=>some ([254+(1-g),(i:Int)],1-g)
   | none=>none:=rfl
 refine ao (λe=>?_) (λe=>?_)
 ·have e:dZ (.int n) ((av g ns a).map V.int)=true:=e;rw[qI]at e;obtain⟨i,j,_⟩:=nZ (aac e);rw[j]at b;rw[F,b]at k;obtain⟨o,m⟩:=Eh j;refine⟨.inl ⟨rfl,_,.of r⟩,?_⟩;refine⟨_,_,_,i,rfl,rfl,r,rfl,qW _,o,m,?_⟩;refine⟨sz rfl,λq G d=>?_⟩;refine⟨sz rfl,λu l c=>?_⟩;exact k u q l (d.sm.trans c.sm) (c.sm _ _ d.at_) c.at_
 ·have e:¬dZ (.int n) ((av g ns a).map V.int)=true:=e;rw[qI]at e;have C:n∉av g ns a:=λz=>e (aad z);obtain⟨i,j,_⟩:=nZ (s.resolve_left C);rw[gx.mpr C]at b;dsimp only at b;rw[j]at b;rw[F,b]at k;obtain⟨o,m⟩:=Eh j;refine⟨_,_,.inr (.of v),I,?_⟩;refine⟨.inl ⟨rfl,_,.of D⟩,?_⟩;refine⟨_,_,_,i,rfl,rfl,D,rfl,qW _,o,m,?_⟩;refine⟨sz rfl,λq G d=>?_⟩;refine⟨sz rfl,λu l c=>?_⟩;refine k u q l (d.sm.trans c.sm) ?_ c.at_;have z:=c.sm _ _ d.at_;rw[z];show some (HO.lst [V.int (255-g),.int (i:Int)])=some (HO.lst [V.int (254+(1-g)),.int (i:Int)]);rw[show 255-g=254+(1-g) by lia]
def Tj{K:PySem.W.Frag}{a:Addr}{xs:List V}{cs:St}{n:TT}{l:TE}{H:Hp}{Q:VK}(f:Nat->List V->Hp->Prop)(D:f 0 [] H)(hl:∀i ys H,i<=xs.length->f i ys H->aG K H a xs/\ys.length<=i)(hz:xs.length<=sizeLine)
 (hs:∀i x ys H,xs[i]? = some x->f i ys H->∃pp v u,x=.ref pp/\bq K H pp [v,u]/\∀(N:List V->Hp->Prop),(∀c d,f (i+1) c d->N c d)->n (some v::some u::cs) H λb s=>if b=true then l (some v::some u::cs) s λy B=>N (ys++[y]) B else N ys s)
 (hd:∀ys H p d,f xs.length ys H->bc H p (.lst ys) d->Q (.ref p) d) :
 jc (i9 K a) H (List.replicate 2 none++cs) (qP K 2 (qT (eB 0) (qT (eB 1) vK))) n l Q:=by
 refine⟨λi m ys σ H=>m=xs.length-i/\i<=xs.length/\f i ys H/\∃j h,σ=j::h::cs,⟨xs.length,by simp,YS _,D,none,none,rfl⟩,?_⟩;rintro i m ys σ r ⟨rfl,C,p,j,h,rfl⟩;obtain⟨q,I⟩:=hl i ys r C p;by_cases hlt:i<xs.length
 ·refine .inr ⟨⟨xs,xs[i],q,by simp[hlt]⟩,by lia,λc o d=>f (i+1) c d/\∃j h,o=j::h::cs,λc o d ⟨k,e⟩=>⟨xs.length-(i+1),by lia,rfl,hlt,k,e⟩,λx d y=>?_⟩;obtain⟨rfl,y⟩:=y;obtain⟨pp,v,u,rfl,F,G⟩:=hs i x ys _ (y xs q) p;refine⟨pp,_,rfl,F,rfl,_,_,rfl,_,_,rfl,rfl,?_⟩;exact G (λc d=>f (i+1) c d/\∃j h,some v::some u::cs=j::h::cs) λ_ _ z=>⟨z,_,_,rfl⟩
 ·have e:i=xs.length:=by lia
  subst e;exact .inl ⟨⟨xs,q,Ym _⟩,by lia,λk d g=>hd ys r k d p g⟩
def gT:PyData.strOk "lead" = true:=by decide +kernel
def gS:PyData.strOk "shift" = true:=by decide +kernel
def gR:PyData.strOk "table" = true:=by decide +kernel
def Jq:Sp:=λvs H Q _=>∃(p:Addr) (D:Kt) (n g:Int),vs=[.ref p,.int n,.int g]/\eJ H p D/\dQ D g/\bW D n/\∀pf q H',ah H H'->H' q=some (.lst ((aZ D g n).1.map V.int))->H' pf=some (.tup [.ref q,.int (aZ D g n).2])->Q (.ref pf) H'
def P5 (T:Txt w K mg t):bz P w K mg base "_law_spelled" 2 t.zN t.vX ["_law_plan_here", "_law_sign_here", "_law_page"] Jq:=by
 refine⟨T.Rx,T.GA.kp,T.Uj,T.GA.okQ Ko (λvs H Q E h=>by obtain⟨p,D,n,g,rfl,_⟩:=h;rfl) λ_ _ _ _ H vs Q E hr h=>?_⟩;obtain⟨p,D,n,g,rfl,c,pg,S,k⟩:=h;have G:=hr.units;refine⟨_,(af (aL (aQ (cf (K:=K) rfl G) (aE (Yc K) (aa 0) aj (λ_ _=>rfl)) dC (aS _)) (ag (am (cm (ab (aD (Qc (K:=K) T) hr (ab (aa 1) ad)) (ab aj ad))))) aN)
  (af (aL (aQ (cf (K:=K) rfl G) (aE (Yc K) (aa 0) aj (λ_ _=>rfl)) dC (aS _)) (ag (am (aD (P6 (K:=K) T) hr (ab (aa 0) (ab (aa 1) (ab (aa 2) ad)))))) aN)
  (af (aL (aQ (cf (K:=K) rfl G) (aE (Yc K) (aa 0) aj (λ_ _=>rfl)) dC (aS _)) (ag (am (cm (ab (aE (Yc K) (iL rfl (cZ.of (fns:=(ae ji).names) (N:=["_law_plan_here", "_law_sign_here", "_law_page"]) (Nc:=["_law_other", "_law_row", "_law_sign_here"]) (nv:=2) (caps:=[1]) rfl rfl (by decide +kernel)) (c8 (K:=K) rfl (aE (Yc K) (aa 0) aj (λ_ _=>rfl))) (λ_ _ _ _=>(fF (K:=K) rfl (n:=2) rfl (cC (bi (i:=0) (show List.Nodup (["_law_other", "_law_row", "_law_sign_here"]:List Str) by decide +kernel) rfl (Or.inl rfl) (Or.inr rfl)) (cC (bi (i:=1) (show List.Nodup (["_law_other", "_law_row", "_law_sign_here"]:List Str) by decide +kernel) rfl (Or.inl rfl) (Or.inr rfl)) fE)))) (λ_ _ _ _=>(LN (aQ (cf (K:=K) rfl G) (aa 0) (aa 2) (aS _)))) (λ_ _ _ _=>(eV (Ye K) T.n_list Y4 (ab (aa 1) ad)))) aj (λ_ _=>rfl)) (ab aj ad))))) aN)
  (ag (am (cm (ab (aD (P4 (K:=K) T) hr (ab (aa 1) (ab (aE (Yc K) (aa 0) aj (λ_ _=>rfl)) ad))) (ab aj ad)))))))),?_⟩
 cases D with
 | br=>exact c.elim
 | ld =>
  obtain⟨x,y,c⟩:=c;obtain rfl:g=0:=pg;refine⟨_,_,.inr (.of c),rfl,?_⟩;refine⟨_,_,aO.str _,aO.str _,bK gT,bK gT,?_⟩;refine ao (λ_=>?_) (λe=>aab (by decide +kernel) e);refine⟨n,rfl,λq W R=>?_⟩;refine⟨sz rfl,λC m d=>?_⟩;exact k C q m (R.sm.trans d.sm) (d.sm _ _ R.at_) d.at_
 | pr b =>
  obtain⟨x,y,c⟩:=c;obtain rfl:g=0:=pg;refine⟨_,_,.inr (.of c),rfl,?_⟩;refine⟨_,_,aO.str _,aO.str _,bK (il b),bK gT,?_⟩;refine ao (λe=>aab e (by cases b<;>decide +kernel)) (λ_=>?_);refine⟨_,_,.inr (.of c),rfl,?_⟩;refine⟨_,_,aO.str _,aO.str _,bK (il b),bK gS,?_⟩;refine ao (λe=>aab e (by cases b<;>decide +kernel)) (λ_=>?_);refine⟨_,_,.inr (.of c),rfl,?_⟩;refine⟨_,_,aO.str _,aO.str _,bK (il b),bK gR,?_⟩;refine ao (λe=>aab e (by cases b<;>decide +kernel)) (λ_=>?_);refine⟨_,_,.inr (.of c),rfl,?_⟩;refine⟨n,b,rfl,λq W s1 M=>?_⟩;refine⟨sz rfl,λC m d=>?_⟩;exact k C q m (s1.trans d.sm) (d.sm _ _ M) d.at_
 | sh f ns ms =>
  obtain⟨x,y,c,hr⟩:=id c;refine⟨_,_,.inr (.of c),rfl,?_⟩;refine⟨_,_,aO.str _,aO.str _,bK gS,bK gT,?_⟩;refine ao (λe=>aab e (by decide +kernel)) (λ_=>?_);refine⟨_,_,.inr (.of c),rfl,?_⟩;refine⟨_,_,aO.str _,aO.str _,bK gS,bK gS,?_⟩;refine ao (λ_=>?_) (λe=>aab (by decide +kernel) e);exact⟨p,f,ns,ms,n,g,rfl,⟨x,y,c,hr⟩,pg,S,k⟩
 | tb f es =>
  obtain⟨x,y,ps,c,hx,U,ok⟩:=c;obtain rfl:g=0:=pg;refine⟨_,_,.inr (.of c),rfl,?_⟩;refine⟨_,_,aO.str _,aO.str _,bK gR,bK gT,?_⟩;refine ao (λe=>aab e (by decide +kernel)) (λ_=>?_);refine⟨_,_,.inr (.of c),rfl,?_⟩;refine⟨_,_,aO.str _,aO.str _,bK gR,bK gS,?_⟩;refine ao (λe=>aab e (by decide +kernel)) (λ_=>?_);refine⟨_,_,.inr (.of c),rfl,?_⟩;refine⟨_,_,aO.str _,aO.str _,bK gR,bK gR,?_⟩;refine ao (λ_=>?_) (λe=>aab (by decide +kernel) e);refine⟨_,_,.inr (.of c),rfl,?_⟩;have le:ps.length=es.length:=U.1;have a1:=ok.l;refine⟨x,rfl,⟨_,.of hx⟩,?_⟩;refine Tj (K:=K) (a:=x) (xs:=ps.map V.ref) (λi ys s=>ah H s/\ys.length<=i/\((es.take i).find? (λe=>decide (e.1=n))=none->ys=[])/\∀e,(es.take i).find? (λe=>decide (e.1=n))=some e->∃q bL,ys=V.ref q::bL/\s q=some (.lst (e.2.map V.int))) ⟨ah.refl _,Ym _,(λ_=>rfl),(λe h=>by cases h)⟩ (λi ys s hi z=>⟨.of (z.1 _ _ hx),z.2.1⟩) (bM (by rw[Yl];lia)) (λi x ys s u z=>?_) λys s pc W z J=>?_
  ·obtain⟨r,l,O,B⟩:=z;rw[Yt]at u;obtain⟨pp,v,rfl⟩:=Zk.mp u;have li:=(Yr.mp v).1;obtain⟨e,he⟩:∃e,es[i]? = some e:=⟨es[i]'(by lia),by simp⟩;obtain⟨⟨q,M,h2⟩,_⟩:=U.2 i pp e v he;refine⟨pp,_,_,rfl,.of (r _ _ M),λN hN=>?_⟩;have o:(es.take (i+1)).find? (λe=>decide (e.1=n))=((es.take i).find? (λe=>decide (e.1=n))).or (if e.1=n then some e else none):=by
    rw[de he,List.find?_append];by_cases q:e.1=n<;>simp[Y2,q]
   refine ao (λz=>?_) (λz=>?_)
   ·have z:e.1=n:=aac z;rw[aaa z]at o;refine⟨_,.inl (.of (r _ _ h2)),λq2 m d=>?_⟩;refine hN _ _ ⟨r.trans d.sm,by rw[Yo];show _+1<=_;lia,(λy=>by rw[o]at y;cases hfi:(es.take i).find? (λe=>decide (e.1=n))<;>rw[hfi]at y<;>cases y),λe' h'=>?_⟩;rw[o]at h';cases hfi:(es.take i).find? (λe=>decide (e.1=n)) with
    | some e0 =>
     rw[hfi]at h';obtain rfl:e0=e':=YL h';obtain⟨q0,bL,rfl,I⟩:=B e0 hfi;exact⟨q0,_,rfl,d.sm _ _ I⟩
    | none =>
     rw[hfi]at h';cases h';rw[O hfi];exact⟨q2,[],rfl,d.at_⟩
   ·have z:¬e.1=n:=λy=>z (aad y);rw[on z,Option.or_none]at o;exact hN _ _ ⟨r,by lia,by rw[o];exact O,by rw[o];exact B⟩
  ·obtain⟨r,l,O,B⟩:=z;obtain⟨Y,a3,a0,F⟩:=mP S;rw[Yl,le,Yy]at B;obtain⟨q,bL,rfl,hq⟩:=B Y F;have L:aZ (.tb f es) 0 n=(Y.2,0):=by
    show (((es.find? λe=>decide (e.1=n)).map λe=>(e.2,(0:Int))).getD ([],0))=_;rw[F]
    rfl
   rw[L]at k;refine⟨_,.ref q,.inl J.lst,ba (j:=0) rfl,?_⟩;refine⟨sz rfl,λC m d=>?_⟩;exact k C q m (r.trans (J.sm.trans d.sm)) (d.sm _ _ (J.sm _ _ hq)) d.at_
def Jb:Sp:=λvs H Q _=>∃(p a:Addr) (D:Kt) (ts:f6),vs=[.ref p,.ref a]/\eJ H p D/\i8 D/\H a=some (.lst (ts.map V.int))/\(∀n∈ts,bW D n)/\ts.length<=300/\∀q H',ah H H'->H' q=some (.lst ((ap D 0 ts).1.map V.int))->Q (.ref q) H'
def vy (T:Txt w K mg t):bz P w K mg base "_law_written" 3 t.zK t.vU ["_law_plan_here", "_law_text"] Jb:=by
 refine⟨T.Ru,T.Gx.kp,T.Ug,T.Gx.okQ jR (λvs H Q E h=>by obtain⟨p,a,D,ts,rfl,_⟩:=h;rfl) λ_ _ _ _ H vs Q E hr h=>?_⟩;obtain⟨p,a,D,ts,rfl,B,u,v,m,lt,k⟩:=h;refine⟨_,(af (aP (i:=2) jR.nd rfl (.inl rfl) (aR ad))
  (af (aP (i:=3) jR.nd rfl (.inl rfl) aj)
  (af (cq PassesOwn.never rfl (c8 (K:=K) rfl (aa 1)) (bi (i:=4) jR.nd rfl (.inl rfl)) (af (C6 (aD (P5 (K:=K) T) hr (ab (aa 0) (ab (aa 4) (ab (aa 3) ad)))) (fF (K:=K) rfl rfl (cC (bi (i:=5) jR.nd rfl (.inl rfl)) (cC (bi (i:=3) jR.nd rfl (.inl rfl)) fE))))
  (ag (ck (cT (K:=K) rfl YJ Zg Zh (Yf K) (aa 2) (ab (aa 5) ad))))))
  (ag (am (aa 2)))))),?_⟩
 refine⟨sz rfl,λj J d=>?_⟩;refine⟨a,rfl,⟨_,.of (d.sm _ _ v)⟩,iy (K:=K) (a:=a) (xs:=ts.map V.int) (λi σ f=>ah H f/\f j=some (.lst ((ap D 0 (ts.take i)).1.map V.int))/\∃g l,σ=[some (.ref p),some (.ref a),some (.ref j),some (.int (ap D 0 (ts.take i)).2),g,l])
  ⟨d.sm,d.at_,_,_,rfl⟩ (λi σ f _ z=>.of (z.1 _ _ v)) ?_ ?_⟩
 ·rintro i x σ s hx ⟨c,e,g,l,rfl⟩;obtain⟨n,b,rfl⟩:=dz hx;obtain⟨pg,I⟩:=gk u (ik D) i ts (jD m i);have L:=(Yr.mp b).1;obtain⟨r,g',_,C,_,lr⟩:=iI u pg (m n (YD b));refine⟨p,D,n,_,rfl,B.mono c,pg,m n (YD b),λpt q M o G F=>?_⟩;refine⟨pt,_,rfl,.of F,rfl,_,_,rfl,_,_,rfl,rfl,?_⟩;have y:=o _ _ e;refine⟨.inl ⟨rfl,_,.of y⟩,?_⟩;refine⟨_,_,y,G,bM (by rw[Yl,Yl,C];show _+r.length<=_;lia),?_⟩;refine⟨(c.trans o).put d.nw,?_,some (.int n),some (.ref q),?_⟩
  ·rw[aJ,de b,jd,<- Yw]
  ·rw[de b,jd]
   rfl
 ·rintro σ s ⟨c,e,g,l,rfl⟩;rw[Yl,Yy]at e;exact k j s c e
def jG(H:Hp)(p:Addr)(L:List (Addr × f6)):Prop:=H p=some (.lst (L.map λx=>V.ref x.1))/\∀x∈L,x.1≠p/\H x.1=some (.lst (x.2.map V.int))
def flt(L:List (Addr × f6)):f6:=(L.map λx=>x.2).flatten
def vT(L:List (Addr × f6))(q:Addr)(xs:f6):flt (L++[(q,xs)])=flt L++xs:=by
 unfold flt;rw[Yw,List.flatten_append];simp
def jG.more{H b:Hp}{p q:Addr}{xs:f6}{L:List (Addr × f6)}(h:jG H p L)(g:bc H q (.lst (xs.map V.int)) b):jG (upd b p (.lst ((L.map λx=>V.ref x.1)++[.ref q]))) p (L++[(q,xs)]):=by
 have c:q≠p:=(aI h.1 g.nw).symm;refine⟨by rw[aJ,Yw];rfl,λx a=>?_⟩;rcases Yx.mp a with z|z
 ·obtain⟨n,e⟩:=h.2 x z;exact⟨n,by rw[ay n];exact g.sm _ _ e⟩
 ·rw[YH.mp z];exact⟨c,by rw[ay c];exact g.at_⟩
def Fj{H:Hp}{L:List (Addr × f6)}{q:Addr}{xs:f6}(h:∀x∈L,H x.1=none)(n:H q=none):∀x∈L++[(q,xs)],H x.1=none:=λx hx=>by
 rcases Yx.mp hx with z|z
 ·exact h x z
 ·rw[YH.mp z];exact n
def qq{H:Hp}{L:List (Addr × f6)}{p q:Addr}{xs:f6}(h:jG H p L)(nd:(L.map λx=>x.1).Nodup)(n:H q=none):((L++[(q,xs)]).map λx=>x.1).Nodup:=by
 rw[Yw];refine List.nodup_append.mpr ⟨nd,by simp,λa c b hb e=>?_⟩;rw[YH.mp hb]at e;obtain⟨x,hx,ex⟩:=Y3.mp c;have:=(h.2 x hx).2;rw[ex,e,n]at this;cases this
def Wd(H:Hp)(ts:f6)(Q:VK):Prop:=∀p (L:List (Addr × f6)) H',ah H H'->H p=none->jG H' p L->(∀x∈L,H x.1=none)->(L.map λx=>x.1).Nodup->flt L=ts->L.length<=301->Q (.ref p) H'
def JE(K:PySem.W.Frag):Sp:=λvs H Q _=>∃(a c:Addr) (ts cs:f6),vs=[.ref a,.ref c]/\aG K H a (ts.map V.int)/\aG K H c (cs.map V.int)/\cs.length<=300/\Wd H ts Q
def xU(ts:f6)(k m:Nat):cn (ts.map V.int) (some (k:Int)) (some ((k:Int)+(m:Int)))=((ts.drop k).take m).map V.int:=by rw[dL];exact congrArg _ (oU ts k m)
def Tc(ts:f6)(k:Nat):cn (ts.map V.int) (some (k:Int)) none=(ts.drop k).map V.int:=by rw[dL];exact congrArg _ (i3 ts k)
def P9 (T:Txt w K mg t):bz P w K mg base "_law_pieces" 1 t.zS t.wc ["_law_row", "_law_cells"] (JE K):=by
 refine⟨T.RC,T.GF.kp,T.Up,T.GF.okQ nA (λvs H Q E h=>by obtain⟨a,c,ts,cs,rfl,_⟩:=h;rfl) λ_ _ _ _ H vs Q E hr h=>?_⟩;obtain⟨a,c,ts,cs,rfl,s,v,I,k⟩:=h;have J:=hr.units;refine⟨_,(af (aP (i:=2) nA.nd rfl (.inl rfl) (aR ad))
  (af (aP (i:=3) nA.nd rfl (.inl rfl) aj)
  (af (cq PassesOwn.never rfl (c8 (K:=K) rfl (aa 1)) (bi (i:=4) nA.nd rfl (.inl rfl)) (af (ck (cT (K:=K) rfl YJ ZD ZE ju (aa 2) (ab (cD (Yd K) (aa 0) (bU (aa 3)) (bU (az (Ya K) (aa 3) (cU (dF (aa 4)))))) ad)))
  (ag (aP (i:=3) nA.nd rfl (.inl rfl) (az (Ya K) (aa 3) (cU (dF (aa 4))))))))
  (ag (am (az (Ya K) (aa 2) (aR (ab (cD (Yd K) (aa 0) (bU (aa 3)) dU) ad)))))))),?_⟩
 refine⟨sz rfl,λp M j=>?_⟩;refine⟨c,rfl,⟨_,j.sm.seq v⟩,iy (K:=K) (a:=c) (xs:=cs.map V.int) (λi σ o=>ah H o/\∃(at_:Nat) (L:List (Addr × f6)) (r:Option V),jG o p L/\(∀x∈L,H x.1=none)/\(L.map λx=>x.1).Nodup/\flt L=ts.take at_/\L.length=i/\σ=[some (.ref a),some (.ref c),some (.ref p),some (.int (at_:Int)),r])
  ⟨j.sm,0,[],_,⟨j.at_,(λ_ h=>nomatch h)⟩,(λ_ h=>nomatch h),.nil,rfl,rfl,rfl⟩ (λi σ o _ z=>z.1.seq v) ?_ ?_⟩
 ·rintro i x σ C hx ⟨f,at_,L,r,hP,fr,nd,fl,l,rfl⟩;obtain⟨m,hm,rfl⟩:=dz hx;have N:=(Yr.mp hm).1;obtain⟨k',B⟩:∃k':Nat,m/8%6=(k':Int):=⟨(m/8%6).toNat,by lia⟩;refine⟨.inl ⟨rfl,_,.of hP.1⟩,?_⟩;refine⟨_,rfl,_,rfl,_,f.seq s,λq G b=>?_⟩;rw[B,xU]at b;refine⟨_,b.sm _ _ hP.1,fA (by rw[Yl];lia),?_⟩;refine⟨(f.trans b.sm).put j.nw,at_+k',L++[(q,(ts.drop at_).take k')],some (.int m),hP.more b,Fj fr (f.free b.nw),qq hP nd b.nw,by rw[vT,fl,a1r],by rw[Yo];show _+1=_;lia,?_⟩;rw[Zn,<- B]
  rfl
 ·rintro σ C ⟨f,at_,L,r,hP,fr,nd,fl,l,rfl⟩;rw[Yl]at l;refine⟨_,rfl,_,f.seq s,λq G b=>?_⟩;rw[Tc]at b;refine⟨sz rfl,λpl F n=>?_⟩;have d:=b.sm.trans n.sm;refine⟨_,_,.of (d _ _ hP.1),n.lst,bM (by rw[Yl];show _+1<=_;lia),λpr D g=>?_⟩;have y:=d.trans g.sm;have ne:∀ {c u},F c=some u->c≠pr:=λe=>aI e g.nw;have hP8:jG D pr (L++[(q,ts.drop at_)]):=⟨by rw[g.at_,Yw];rfl,λx hx=>by
   rcases Yx.mp hx with z|z
   ·exact⟨ne (d _ _ (hP.2 x z).2),y _ _ (hP.2 x z).2⟩
   ·rw[YH.mp z];exact⟨ne (n.sm _ _ b.at_),g.sm _ _ (n.sm _ _ b.at_)⟩⟩
  exact k pr _ _ (f.trans y) ((f.trans d).free g.nw) hP8 (Fj fr (f.free b.nw)) (qq hP nd b.nw) (by rw[vT,fl,YV]) (by rw[Yo];show _+1<=_;lia)
end
end My
namespace My
open PySem L2
def Em{xs:List V}{i:Int}{y:V}(h:0<=i):∃k,iR xs i y=xs.take k++y::xs.drop k:=⟨min i.toNat xs.length,by unfold iR;rw[on (by lia)]⟩
def uV{α:Type}(xs:List α)(k:Nat)(y:α):(xs.take k++y::xs.drop k).Perm (xs++[y]):=by
 have:(xs.take k++y::xs.drop k).Perm (y::(xs.take k++xs.drop k)):=List.perm_middle;rw[YV]at this;exact this.trans (List.perm_append_comm (l₁:=[y]) (l₂:=xs))
def dh(st:Int)(v k:Nat):f6:=List.replicate (k/v) st++[(st+1+((k%v:Nat):Int))%256]
def CV{st:Int}{v k:Nat}:(dh st v k)[k/v]? = some ((st+1+((k%v:Nat):Int))%256):=by
 unfold dh;rw[Zi (by simp)];simp
def CW{st:Int}{v i j:Nat}(s0:0<=st)(s1:st<256)(b:0<v)(f:v<=3)(n:i≠j):cP (dh st v i) (dh st v j)=false:=by
 unfold cP;refine aae λe=>?_;have c:(dh st v i).length=i/v+1:=by simp[dh]
 have a:=CV (st:=st) (v:=v) (k:=i);have l:=Z6 i b;have m:=Z6 j b;rw[<- e,c,a1j,aaa (Yu _)]at a;rcases Nat.lt_trichotomy (i/v) (j/v) with h|h|h
 ·rw[dh,Zj (by simpa using h),a0a,aaa h]at a;have:=YL a;lia
 ·rw[h,CV]at a;have:=YL a;have d:=Nat.div_add_mod i v;have g:=Nat.div_add_mod j v;rw[h]at d;lia
 ·rw[dh,Zb (by simp;lia)]at a;cases a
def CU{st:Int}{v j m:Nat}(b:j<m)(c:m<=8)(a:2<=v\/m<=6):(dh st v j).length<=6:=by
 have:j/v<=5:=by
  rcases a with q|q
  ·have:j/v<=j/2:=Nat.div_le_div_left q (by decide);lia
  ·have:=a1e j v;lia
 simp[dh];lia
def iX(ns:f6)(st:Int)(v i:Nat):List (Int × f6):=(List.range i).map λj=>(ns.getD j 0,dh st v j)
def SQ{ns:f6}{st:Int}{v i:Nat}{n:Int}(h:ns[i]? = some n):iX ns st v (i+1)=iX ns st v i++[(n,dh st v i)]:=by
 unfold iX;rw[Zc,Yw,List.map_singleton,YZ,h]
 rfl
def Tl{ns:f6}{st:Int}{v i j:Nat}(pg:Pg ns)(s0:0<=st)(s1:st<256)(b:0<v)(a:v<=3)(d:i<ns.length)(c:j<ns.length)(n:i≠j):fJ (ns.getD i 0,dh st v i) (ns.getD j 0,dh st v j)=false:=by
 unfold fJ;rw[CW s0 s1 b a n,CW s0 s1 b a (Ne.symm n)];have:ns.getD i 0≠ns.getD j 0:=λe=>by
  rw[YZ,YZ,YM d,YM c]at e;exact n ((List.getElem_inj pg.2.1).mp e)
 simp only [this,decide_false,Bool.or_self]
def SR{ns:f6}{st:Int}{v:Nat}{d:List (Int × f6)}(pg:Pg ns)(s0:0<=st)(s1:st<256)(k:0<v)(g:v<=3)(m:2<=v\/ns.length<=6)(h:d.Perm (iX ns st v ns.length)):Es d/\∀n∈ns,∃e∈d,e.1=n:=by
 refine⟨⟨λe he=>?_,?_,?_⟩,λn f=>?_⟩
 ·obtain⟨j,c,rfl⟩:=Y3.mp (h.subset he);have c:=YE.mp c;have l:=pg.2.2;refine⟨?_,by simp[dh],?_,λb hb=>?_⟩
  ·rw[YZ,YM c];exact pg.1 _ (a0l c)
  ·exact CU c l m
  ·rcases Yx.mp hb with q|q
   ·rw[a0j q];lia
   ·rw[YH.mp q];lia
 ·rw[h.pairwise_iff (λ{a b} q=>by rw[FL];exact q)];unfold iX;refine a1s.mpr (a1t.imp_of_mem λhx i ne=>Tl pg s0 s1 k g (YE.mp hx) (YE.mp i) ne)
 ·rw[h.length_eq];have:=pg.2.2;simp[iX];lia
 ·obtain⟨j,c,e⟩:=a0o.mp f;refine⟨(ns.getD j 0,dh st v j),h.symm.subset (Y3.mpr ⟨j,YE.mpr c,rfl⟩),?_⟩;rw[YZ,YM c];exact e
end My
namespace My
open PySem L2
section
variable {P:Program}{w:World}{K:PySem.W.Frag}{mg:Str->Option Value}{base:Heap}{t:Adr}
def JB:Sp:=λvs H Q _=>∃(c:Int) (a:Addr) (ns:f6),vs=[.int c,.ref a]/\H a=some (.lst (ns.map V.int))/\Pg ns/\∀p D H',ah H H'->eJ H' p D->(∀n∈ns,bW D n)->Q (.ref p) H'
def P8 (T:Txt w K mg t):bz P w K mg base "_law_plan" 1 t.zR t.wa ["_law_number", "_law_pool_here"] JB:=by
 refine⟨T.RB,T.GE.kp,T.Uo,T.GE.okQ fB (λvs H Q E h=>by obtain⟨c,a,ns,rfl,_⟩:=h;rfl) λ_ _ _ _ H vs Q E hr h=>?_⟩;obtain⟨c,a,ns,rfl,ha,pg,k⟩:=h;have hu:=hr.units;have l8:=pg.2.2;refine⟨_,(af (aP (i:=2) fB.nd rfl (.inl rfl) (cU (aa 0)))
  (af (aP (i:=3) fB.nd rfl (.inl rfl) (dF (aa 0)))
  (af (aL (aQ dH (aa 2) aj (aS _)) (ag (am (cm (ab (aE (Yc K) (aR (uQ rfl)) (aa 2) (λ_ _=>rfl)) (ab (aR ad) (ab (aR ad) ad)))))) aN)
  (af (aL (aQ (cf (K:=K) rfl hu) (aa 2) aj (aS _)) (af (aP (i:=4) fB.nd rfl (.inl rfl) (aR ad))
  (af (aP (i:=5) fB.nd rfl (.inl rfl) (aR ad))
  (af (cq PassesOwn.never rfl (gP (K:=K) rfl rfl T.n_enumerate (ab (aa 1) ad)) (fF (K:=K) rfl rfl (cC (bi (i:=6) fB.nd rfl (.inl rfl)) (cC (bi (i:=7) fB.nd rfl (.inl rfl)) fE))) (af (aP (i:=8) fB.nd rfl (.inl rfl) (cU (az qO (aa 3) (aE (Yc K) (aR (uQ rfl)) (aa 6) (λ_ _=>rfl)))))
  (af (aL (aQ (gZ (K:=K) rfl hu) (aa 8) aj (aS _)) (ag (ck (cT (K:=K) rfl YJ ZD ZE ju (aa 4) (ab (aa 7) ad)))) aN)
  (ag (aL (aQ (gZ (K:=K) rfl hu) (aa 8) aj (aS _)) (ag (ck (cT (K:=K) rfl YJ a2t a2u DW (aa 5) (ab (az gy (dF (aa 3)) (az (Ya K) (bu (Yb K) T.n_len Yq (ab (aa 5) ad)) aj)) (ab (aa 7) ad))))) aN)))))
  (ag (am (cm (ab dC (ab (aa 4) (ab (aa 5) ad))))))))) aN)
  (af (aP (i:=9) fB.nd rfl (.inl rfl) (aR ad))
  (af (aP (i:=10) fB.nd rfl (.inl rfl) (aE (Yc K) (aR (ab aj (ab aj (ab aj (ab (az (Ya K) aj (eV TH T.n_int a2n (ab (iM iU (bu (Yb K) T.n_len Yq (ab (aa 1) ad)) aj (aS _)) ad))) ad))))) (cU (aa 3)) (λ_ _=>rfl)))
  (af (cq PassesOwn.never rfl (gP (K:=K) rfl rfl T.n_enumerate (ab (aa 1) ad)) (fF (K:=K) rfl rfl (cC (bi (i:=6) fB.nd rfl (.inl rfl)) (cC (bi (i:=7) fB.nd rfl (.inl rfl)) fE))) (af (aP (i:=11) fB.nd rfl (.inl rfl) (cU (dF (aa 3))))
  (ag (ck (cT (K:=K) rfl YJ a2t a2u DW (aa 9) (ab (az gy (dF (aa 3)) (az (Ya K) (aa 6) aj)) (ab (cm (ab (aa 7) (ab (az (Ya K) (az qM (aR (ab (aa 11) ad)) (az qO (aa 6) (aa 10))) (aR (ab (cU (az (Ya K) (az (Ya K) (aa 11) aj) (az gy (aa 6) (aa 10)))) ad))) ad))) ad)))))))
  (ag (am (cm (ab dC (ab (aa 9) (ab (aR ad) ad))))))))))))),?_⟩
 refine ao (λe=>?_) (λe=>?_)
 ·have e:c%5<3:=aac e;refine⟨sz rfl,λp1 H1 B=>?_⟩;obtain⟨x,D,hx,hD,hI⟩:∃(x:Str) (D:Kt),cv [V.str "lead",.str "high",.str "low"] (c%5)=some (.str x)/\(∀(g:Hp) p y z,g p=some (.tup [.str x,.ref y,.ref z])->eJ g p D)/\∀n,Sg n->bW D n:=by
   rcases (show c%5=0\/c%5=1\/c%5=2 by lia) with e|e|e<;>rw[e]
   ·exact⟨"lead",.ld,rfl,λg p y z h=>⟨y,z,h⟩,λn h=>h⟩
   ·exact⟨"high",.pr true,rfl,λg p y z h=>⟨y,z,h⟩,λn h=>h⟩
   ·exact⟨"low",.pr false,rfl,λg p y z h=>⟨y,z,h⟩,λn h=>h⟩
  refine⟨_,_,.inl B.lst,hx,?_⟩;refine⟨sz rfl,λp2 H2 I=>?_⟩;refine⟨sz rfl,λp3 H3 g3=>?_⟩;refine⟨sz rfl,λp4 H4 s=>?_⟩;exact k p4 D H4 (B.sm.trans (I.sm.trans (g3.sm.trans s.sm))) (hD _ _ _ _ s.at_) λn O=>hI n (pg.1 n O)
 unfold nh;dsimp only;refine cO λT' eT=>?_;refine ao (λe3=>?_) (λe3=>?_)
 ·refine cO λT1 G=>?_;refine⟨sz rfl,λpa H1 B=>?_⟩;refine c7 ?_;subst G
  try dsimp only
  refine cO λT1 G=>?_;refine⟨sz rfl,λN H2 I=>?_⟩;refine c7 ?_;subst G
  try dsimp only
  refine cO λT1 G=>?_;have aA:pa≠N:=aI B.at_ I.nw;have s2:=B.sm.trans I.sm;have fb:H N=none:=B.sm.free I.nw;refine⟨a,_,rfl,.of (s2 _ _ ha),hG (K:=K) (a:=a) (xs:=ns.map V.int) (λi σ g=>ah H g/\∃(fs f ss:f6) (Y v7 v8:Option V),g pa=some (.lst (fs.map V.int))/\g N=some (.lst (f.map V.int))/\fs.Sublist (ns.take i)/\ss.Sublist (ns.take i)/\f.Perm ss/\(∀n∈ns.take i,n∈fs\/n∈f)/\σ=[some (.int c),some (.ref a),some (.int (c%5)),some (.int (c/5)),some (.ref pa),some (.ref N),Y,v7,v8,none,none,none])
   ⟨s2,[],[],[],_,_,_,I.sm _ _ B.at_,I.at_,List.Sublist.slnil,List.Sublist.slnil,List.Perm.refl _,(λ_ h=>nomatch h),rfl⟩ (λi σ g _ z=>.of (z.1 _ _ ha)) ?_ ?_⟩
  ·rintro i x p σ H3 H4 hx ⟨M,fs,f,ss,Y,v7,v8,fa,a5,su,sv,F,hm,rfl⟩ s;obtain⟨n,O,rfl⟩:=dz hx;have li:=(Yr.mp O).1;refine⟨p,_,rfl,s.tup,rfl,_,_,rfl,_,_,rfl,rfl,?_⟩;refine⟨sz rfl,λpl H5 C=>?_⟩;obtain⟨d,hd,d0,d1⟩:∃d:Int,cv [V.int 1,.int 3,.int 9,.int 27,.int 81,.int 243,.int 729,.int 2187] (i:Int)=some (.int d)/\0<d/\d<1073741824:=by
    rcases (show i=0\/i=1\/i=2\/i=3\/i=4\/i=5\/i=6\/i=7 by lia) with e|e|e|e|e|e|e|e<;>subst e<;>exact⟨_,rfl,by decide,by decide⟩
   refine⟨_,_,.inl C.lst,hd,?_⟩;refine⟨⟨d0,d1⟩,?_⟩;refine c7 ?_;dsimp only;have S:=s.sm.trans C.sm;have aB:=M.trans S;obtain⟨b,hb⟩:∃b,b=c/5/d%3:=⟨_,rfl⟩;have tk:=de O;have aC:=S _ _ a5;have R:=S _ _ fa;refine iJ (t:=iG _ _ _) (λσ' g=>ah H g/\g N=some (.lst (f.map V.int))/\∃gs:f6,g pa=some (.lst (gs.map V.int))/\gs.Sublist (ns.take (i+1))/\(∀m∈fs,m∈gs)/\(b≠1->n∈gs)/\σ'=[some (.int c),some (.ref a),some (.int (c%5)),some (.int (c/5)),some (.ref pa),some (.ref N),some (.int (i:Int)),some (.int n),some (.int b),none,none,none]) (λnx aq=>?_) ?_
   ·refine ao (λe=>?_) (λe=>?_)
    ·refine⟨.inl ⟨rfl,_,.of R⟩,?_⟩;refine⟨_,R,fA (by rw[Yl];have:=su.length_le;rw[Yp]at this;lia),?_⟩;refine aq _ _ ⟨aB.put B.nw,by rw[ay (Ne.symm aA)];exact aC,fs++[n],by rw[aJ,Yw];rfl,by rw[tk];exact a2v su (List.Sublist.refl _),(λm h=>Y1 _ h),(λ_=>by simp),by rw[hb];rfl⟩
    ·refine aq _ _ ⟨aB,aC,fs,R,by rw[tk];exact su.trans (a2w _ _),(λm h=>h),(λq=>?_),by rw[hb];rfl⟩;have e:¬(!decide (c/5/d%3=1))=true:=e;rw[<- hb]at e;simp at e;exact aab e q
   ·rintro σ' H6 ⟨s6,J,gs,aD,sg,au,b1,rfl⟩;refine ao (λe=>?_) (λe=>?_)
    ·refine⟨.inl ⟨rfl,_,.of J⟩,?_⟩;refine⟨_,.inl (.of J),?_⟩;refine⟨by show (0:Int)<((f.map V.int).length:Int)+1;lia,?_⟩;have lm:f.length<=8:=by have:=sv.length_le;rw[F.length_eq];rw[Yp]at this;lia
     have z0:0<=c/5/7%(((f.map V.int).length:Int)+1):=ZK _ (by lia);have z1:c/5/7%(((f.map V.int).length:Int)+1)<((f.map V.int).length:Int)+1:=ZL _ (by lia);refine⟨_,J,fA (by rw[Yl];lia),by lia,by rw[Yl]at *;lia,?_⟩;obtain⟨j,ej⟩:=Em (xs:=f.map V.int) (y:=V.int n) z0;have U:iR (f.map V.int) (c/5/7%(((f.map V.int).length:Int)+1)) (.int n)=(f.take j++n::f.drop j).map V.int:=by rw[ej,Yw,Zx,YO,Zy]
     refine⟨s6.put fb,gs,f.take j++n::f.drop j,ss++[n],_,_,_,by rw[ay aA];exact aD,by rw[aJ,U],sg,by rw[tk];exact a2v sv (List.Sublist.refl _),(uV f j n).trans (F.append_right [n]),λm h=>?_,rfl⟩;have pp:=uV f j n;rw[tk]at h;rcases Yx.mp h with q|q
     ·rcases hm m q with y|y
      ·exact .inl (au m y)
      ·exact .inr (pp.symm.subset (Y1 _ y))
     ·exact .inr (pp.symm.subset (YF _ q))
    ·have e:¬(!decide (b=0))=true:=e;simp at e;refine⟨s6,gs,f,ss,_,_,_,aD,J,sg,by rw[tk];exact sv.trans (a2w _ _),F,λm h=>?_,rfl⟩;rw[tk]at h;rcases Yx.mp h with q|q
     ·exact (hm m q).imp (au m) id
     ·rw[YH.mp q];exact .inl (b1 (by lia))
  ·rintro σ H3 ⟨M,fs,f,ss,Y,v7,v8,fa,a5,su,sv,F,hm,rfl⟩;rw[Yl,Yy]at su sv hm;subst G
   try dsimp only
   refine⟨sz rfl,λp4 H4 s=>?_⟩;exact k p4 (.sh ⟨0,0,0,0,0,0,0,0,0,0⟩ fs f) H4 (M.trans s.sm) ⟨pa,N,s.at_,s.sm _ _ fa,s.sm _ _ a5,(pg.sub su).okp,((pg.sub sv).perm F).okp⟩ hm
 ·subst eT;dsimp only;refine cO λT1 G=>?_;refine⟨sz rfl,λpr H1 B=>?_⟩;refine c7 ?_;subst G
  try dsimp only
  refine cO λT1 G=>?_;refine⟨_,.inl (.of (B.sm _ _ ha)),?_⟩;refine⟨sz rfl,λpw H2 I=>?_⟩;have s2:=B.sm.trans I.sm;obtain⟨v,hv,v0,v3,av⟩:∃v:Nat,cv [V.int 2,.int 3,.int 2,.int (1+(if decide (6<((ns.map V.int).length:Int))=true then 1 else 0))] (c/5%4)=some (.int (v:Int))/\0<v/\v<=3/\(2<=v\/ns.length<=6):=by
   rcases (show c/5%4=0\/c/5%4=1\/c/5%4=2\/c/5%4=3 by lia) with e|e|e|e<;>rw[e]
   ·exact⟨2,rfl,by decide,by decide,.inl (by decide)⟩
   ·exact⟨3,rfl,by decide,by decide,.inl (by decide)⟩
   ·exact⟨2,rfl,by decide,by decide,.inl (by decide)⟩
   ·rw[Yl];by_cases q:(6:Int)<(ns.length:Int)
    ·rw[aad q];exact⟨2,rfl,by decide,by decide,.inl (by decide)⟩
    ·rw[aae q];exact⟨1,rfl,by decide,by decide,.inr (by lia)⟩
  refine⟨_,_,.inl I.lst,hv,?_⟩;refine c7 ?_;subst G
  try dsimp only
  refine cO λT1 G=>?_;obtain⟨st,hst⟩:∃st,st=c/5/2%256:=⟨_,rfl⟩;have b0:0<=st:=by lia
  have b6:st<256:=by lia
  have fr:H pr=none:=B.nw;refine⟨a,_,rfl,.of (s2 _ _ ha),hG (K:=K) (a:=a) (xs:=ns.map V.int) (λi σ g=>ah H g/\∃(ps:List Addr) (L:List (Int × f6)) (Y v7 a6:Option V),g pr=some (.lst (ps.map V.ref))/\jb g ps L/\L.Perm (iX ns st v i)/\σ=[some (.int c),some (.ref a),some (.int (c%5)),some (.int (c/5)),none,none,Y,v7,none,some (.ref pr),some (.int (v:Int)),a6])
   ⟨s2,[],[],_,_,_,I.sm _ _ B.at_,cR.nil,List.Perm.refl _,rfl⟩ (λi σ g _ z=>.of (z.1 _ _ ha)) ?_ ?_⟩
  ·rintro i x p σ H3 H4 hx ⟨M,ps,L,Y,v7,a6,f3,en,F,rfl⟩ s;obtain⟨n,O,rfl⟩:=dz hx;have li:=(Yr.mp O).1;refine⟨p,_,rfl,s.tup,rfl,_,_,rfl,_,_,rfl,rfl,?_⟩;have f4:=s.sm _ _ f3;have lp:ps.length=i:=by rw[en.1,F.length_eq];simp[iX]
   refine⟨.inl ⟨rfl,_,.of f4⟩,?_⟩;refine⟨by show (0:Int)<(i:Int)+1;lia,?_⟩;refine⟨sz rfl,λp5 H5 C=>?_⟩;refine⟨⟨by lia,by lia⟩,?_⟩;have ed:((i:Int)/(v:Int))=((i/v:Nat):Int):=(Int.natCast_ediv i v).symm;have aK:i/v<=8:=YK (a1e i v) (by lia);obtain⟨z,hz⟩:∃z,i/v=z:=⟨_,rfl⟩;rw[hz]at ed aK;refine⟨[V.int (c/5/2%256)],C.at_,by rw[ed];lia,by rw[ed];lia,bM (by rw[ed,Zw];simp;lia),λp6 H6 g6=>?_⟩;refine⟨by show (0:Int)<(v:Int);lia,?_⟩;refine⟨sz rfl,λp7 H7 g7=>?_⟩;have e6:(List.replicate ((i:Int)/(v:Int)).toNat [V.int (c/5/2%256)]).flatten=(List.replicate z st).map V.int:=by
    rw[ed,Zw,hst];clear hz ed aK
    induction z with
    | zero=>rfl
    | succ z ih=>rw[Za,Zu,ih,Za,YO];rfl
   rw[e6]at g6;refine⟨_,_,.of (g7.sm _ _ g6.at_),g7.lst,bM (by simp;lia),λp8 H8 g8=>?_⟩;have e8:(List.replicate z st).map V.int++[V.int ((c/5/2%256+1+(i:Int)%(v:Int))%256)]=(dh st v i).map V.int:=by
    unfold dh;rw[Yw,<- hst,a0r,hz]
    rfl
   rw[e8]at g8;refine⟨sz rfl,λp9 H9 g9=>?_⟩;have ax:=(C.sm.trans (g6.sm.trans (g7.sm.trans (g8.sm.trans g9.sm))));have f9:=ax _ _ f4;have z0:0<=c/5/512%((i:Int)+1):=ZK _ (by lia);have z1:c/5/512%((i:Int)+1)<(i:Int)+1:=ZL _ (by lia);refine⟨_,f9,fA (by rw[Yl];lia),by lia,by lia,?_⟩;obtain⟨j,ej⟩:=Em (xs:=ps.map V.ref) (y:=V.ref p9) z0;have U:iR (ps.map V.ref) (c/5/512%((i:Int)+1)) (.ref p9)=(ps.take j++p9::ps.drop j).map V.ref:=by rw[ej,Yw,Zx,YO,Zy]
   rw[U];have up:∀ {c:Addr} {u o:HO},c≠pr->H9 c=some u->upd H9 pr o c=some u:=λn e=>by rw[ay n];exact e
   have an:=s.sm.trans ax;have aZ:p8≠pr:=λz=>by have:=g8.nw;rw[z,g7.sm _ _ (g6.sm _ _ (C.sm _ _ f4))]at this;cases this
   have ba:p9≠pr:=λz=>by have:=g9.nw;rw[z,g8.sm _ _ (g7.sm _ _ (g6.sm _ _ (C.sm _ _ f4)))]at this;cases this
   have ap:jb (upd H9 pr (.lst ((ps.take j++p9::ps.drop j).map V.ref))) ps L:=(en.mono an).imp λpp e h=>by
    obtain⟨⟨q,a1,a2⟩,l⟩:=h;refine⟨⟨q,up (λz=>by rw[z,f9]at a1;cases a1) a1,up (λz=>?_) a2⟩,l⟩;rw[z,f9]at a2;have W:ps.map V.ref=e.2.map V.int:=by injection a2 with a2;injection a2
    cases h1:e.2 with
    | nil=>rw[h1]at l;exact aab l.1 (by decide)
    | cons y r =>
     rw[h1]at W;cases h2:ps with
     | nil=>rw[h2]at W;cases W
     | cons y2 r2=>rw[h2]at W;injection W with W;cases W
   refine⟨(M.trans an).put fr,ps.take j++p9::ps.drop j,L.take j++(n,dh st v i)::L.drop j,_,_,_,aJ,?_,?_,rfl⟩
   ·exact (ap.take j).app (cR.cons ⟨⟨p8,up ba g9.at_,up aZ (g9.sm _ _ g8.at_)⟩,⟨by simp[dh],CU li l8 av⟩⟩ (ap.drop j))
   ·rw[SQ O];exact (uV L j _).trans (F.append_right _)
  ·rintro σ H3 ⟨M,ps,L,Y,v7,a6,f3,en,F,rfl⟩;rw[Yl]at F;subst G
   try dsimp only
   obtain⟨ok,hI⟩:=SR pg b0 b6 v0 v3 av F;refine⟨sz rfl,λp4 H4 s=>?_⟩;refine⟨sz rfl,λp5 H5 C=>?_⟩;exact k p5 (.tb ⟨0,0,0,0⟩ L) H5 (M.trans (s.sm.trans C.sm)) ⟨pr,p4,ps,C.at_,C.sm _ _ (s.sm _ _ f3),en.mono (s.sm.trans C.sm),ok⟩ hI
def JJ(t:Adr):Sp:=λvs H Q _=>∃(p:Addr) (D:Kt),vs=[.ref p]/\eJ H p D/\∀o D' H',ah H H'->TN t H' o D'->(∀H2,eJ H2 p D->eJ H2 p D')->(∀n,bW D n->bW D' n)->Q (.ref o) H'
def Qb (T:Txt w K mg t):bz P w K mg base "_law_made" 8 t.zV t.wf ["_law_plan_here"] (JJ t):=by
 refine⟨T.RF,T.GI.kp,T.Us,T.GI.okQ Kr (λvs H Q E h=>by obtain⟨p,D,rfl,_⟩:=h;rfl) λ_ _ _ _ H vs Q E hr h=>?_⟩;obtain⟨p,D,rfl,a,k⟩:=h;have m:=hr.units;refine⟨_,(af (aL (aQ (cf (K:=K) rfl m) (aE (Yc K) (aa 0) aj (λ_ _=>rfl)) dC (aS _)) (ag (am (LV T.OL T.Rs))) aN)
  (af (aL (aQ (cf (K:=K) rfl m) (aE (Yc K) (aa 0) aj (λ_ _=>rfl)) dC (aS _)) (ag (am (fW (PN (K:=K) T) hr (ab (aE (Yc K) (aa 0) aj (λ_ _=>rfl)) (ab (aE (Yc K) (aa 0) aj (λ_ _=>rfl)) ad))))) aN)
  (af (aL (aQ (cf (K:=K) rfl m) (aE (Yc K) (aa 0) aj (λ_ _=>rfl)) dC (aS _)) (ag (am (fW (PM (K:=K) T) hr (ab (aE (Yc K) (aa 0) aj (λ_ _=>rfl)) ad)))) aN)
  (ag (am (fW (qJ (K:=K) T) hr (ab (aE (Yc K) (aa 0) aj (λ_ _=>rfl)) ad))))))),?_⟩
 cases D with
 | br=>exact a.elim
 | ld =>
  obtain⟨x,y,a⟩:=a;refine⟨_,_,.inr (.of a),rfl,?_⟩;refine⟨_,_,aO.str _,aO.str _,bK gT,bK gT,?_⟩;refine ao (λ_=>?_) (λe=>aab (by decide +kernel) e);refine λo dx hx d g=>?_;exact k o .ld _ (fR hx d) ⟨dx,aJ⟩ (λ_ h=>h) (λ_ h=>h)
 | pr b =>
  obtain⟨x,y,a⟩:=a;refine⟨_,_,.inr (.of a),rfl,?_⟩;refine⟨_,_,aO.str _,aO.str _,bK (il b),bK gT,?_⟩;refine ao (λe=>aab e (by cases b<;>decide +kernel)) (λ_=>?_);refine⟨_,_,.inr (.of a),rfl,?_⟩;refine⟨_,_,aO.str _,aO.str _,bK (il b),bK gS,?_⟩;refine ao (λe=>aab e (by cases b<;>decide +kernel)) (λ_=>?_);refine⟨_,_,.inr (.of a),rfl,?_⟩;refine⟨_,_,aO.str _,aO.str _,bK (il b),bK gR,?_⟩;refine ao (λe=>aab e (by cases b<;>decide +kernel)) (λ_=>?_);refine⟨_,_,.inr (.of a),rfl,?_⟩;refine λo dx hx d g=>?_;refine⟨o,dx,b,rfl,aJ,rfl,?_⟩;refine k o (.pr b) _ (λc u e=>?_) ⟨dx,aJ⟩ (λ_ h=>h) (λ_ h=>h);rw[ay (aI e hx)];exact fR hx d c u e
 | sh f ns ms =>
  obtain⟨x,y,a,i,q,z,v⟩:=a;refine⟨_,_,.inr (.of a),rfl,?_⟩;refine⟨_,_,aO.str _,aO.str _,bK gS,bK gT,?_⟩;refine ao (λe=>aab e (by decide +kernel)) (λ_=>?_);refine⟨_,_,.inr (.of a),rfl,?_⟩;refine⟨_,_,aO.str _,aO.str _,bK gS,bK gS,?_⟩;refine ao (λ_=>?_) (λe=>aab (by decide +kernel) e);refine⟨_,_,.inr (.of a),rfl,?_⟩;refine⟨_,_,.inr (.of a),rfl,?_⟩;refine λo dx hx d g=>?_;have s:=fR (C:=t.bV) hx d;refine⟨o,dx,x,y,ns,ms,rfl,aJ,.of (s _ _ i),.of (s _ _ q),z,v,aI i hx,aI q hx,λfp l k8 n fr=>⟨rfl,?_⟩⟩;exact k o (.sh fp ns ms) l (λc u e=>k8 _ _ (aI e hx) (s _ _ e)) n (λ_ h=>h) (λ_ h=>h)
 | tb f es =>
  obtain⟨x,y,ps,a,i,r,ok⟩:=a;refine⟨_,_,.inr (.of a),rfl,?_⟩;refine⟨_,_,aO.str _,aO.str _,bK gR,bK gT,?_⟩;refine ao (λe=>aab e (by decide +kernel)) (λ_=>?_);refine⟨_,_,.inr (.of a),rfl,?_⟩;refine⟨_,_,aO.str _,aO.str _,bK gR,bK gS,?_⟩;refine ao (λe=>aab e (by decide +kernel)) (λ_=>?_);refine⟨_,_,.inr (.of a),rfl,?_⟩;refine⟨_,_,aO.str _,aO.str _,bK gR,bK gR,?_⟩;refine ao (λ_=>?_) (λe=>aab (by decide +kernel) e);refine⟨_,_,.inr (.of a),rfl,?_⟩;refine λo dx hx d g=>?_;have s:=fR (C:=t.cb) hx d;refine⟨o,dx,x,ps,es,rfl,aJ,s _ _ i,r.mono s,ok,λB l k8 j=>⟨rfl,?_⟩⟩;exact k o (.tb B es) l (λc u e=>k8 _ _ (aI e hx) (s _ _ e)) ⟨j,ok⟩ (λ_ h=>h) (λ_ h=>h)
def VX(h:Bool)(r:f6):apart (bN h 65279++r)=(some h,r):=by
 cases h with
 | true=>rw[vi];rfl
 | false=>rw[vh];rfl
def xF(ts:f6):PyData.eqv (.list (ts.map PyData.int)) (.list (ts.map PyData.int))=true:=by rw[rm];simp
def JG:Sp:=λvs H Q _=>∃(a:Addr) (h:Bool) (ts:f6),vs=[.ref a,.str (cr h)]/\H a=some (.lst (ts.map V.int))/\ts.length<=100/\(∀n∈ts,Sg n)/\∀H',ah H H'->Q (.bl true) H'
def Qa (T:Txt w K mg t):bz P w K mg base "_law_marked" 12 t.zU t.we ["_law_text", "_law_order"] JG:=by
 refine⟨T.RE,T.GH.kp,T.Ur,T.GH.okQ uw (λvs H Q E h=>by obtain⟨a,b,ts,rfl,_⟩:=h;rfl) λ_ _ _ _ H vs Q E hr h=>?_⟩;obtain⟨a,b,ts,rfl,p,lt,hs,k⟩:=h;have q:=hr.units;refine⟨_,(af (C6 (aD (Qf (K:=K) T) hr (ab (L0 (Qj (K:=K) T) hr (ab (aa 0) (ab (aa 1) ad))) ad)) (fF (K:=K) rfl rfl (cC (bi (i:=2) uw.nd rfl (.inl rfl)) (cC (bi (i:=3) uw.nd rfl (.inl rfl)) fE))))
  (ag (am (gQ (iM (cf (K:=K) rfl q) (aa 2) (aa 1) (aS _)) (gQ (iM (cf (K:=K) rfl q) (aa 3) (aD (vy (K:=K) T) hr (ab (cm (ab (aa 1) (ab (aR ad) (ab (aR ad) ad)))) (ab (aa 0) ad))) (aS _)) (ii (iM (cf (K:=K) rfl q) (aD (Ez (K:=K) T) hr (ab (fW (qJ (K:=K) T) hr (ab (aa 2) ad)) (ab (aa 3) ad))) (aa 0) (aS _)))))))),?_⟩
 have kp:i8 (.pr b):=trivial;have N:=(gk (D:=.pr b) kp (ik _) ts.length ts (jD hs _)).2;rw[Yy]at N;have V:=qj b 65279;refine⟨a,b,ts,rfl,.of p,by lia,hs,λp1 H1 z=>?_⟩;refine⟨p1,_,rfl,z.lst,by rw[Yo];lia,λJ q2 H2 nq I r y=>?_⟩;rw[VX]at r y;have o:=z.sm.trans I;refine⟨J,_,rfl,.of y,rfl,_,_,rfl,_,_,rfl,rfl,?_⟩;refine⟨_,_,aO.str _,aO.str _,bK (il b),bK (il b),?_⟩;have eo:PyData.eqv (.str (cr b)) (.str (cr b))=true:=by cases b<;>decide +kernel
 refine ao (λ_=>?_) (λe=>aab eo e);refine⟨sz rfl,λp3 H3 U=>?_⟩;refine⟨sz rfl,λO H4 M=>?_⟩;refine⟨sz rfl,λL H5 v=>?_⟩;have d:=U.sm.trans (M.sm.trans v.sm);have f:=o.trans d;refine⟨L,a,.pr b,ts,rfl,⟨p3,O,v.at_⟩,kp,f _ _ p,hs,by lia,λq6 G B W=>?_⟩;have j:=d.trans B;have s:=f.trans B;refine⟨_,_,aO.lst (.of (j _ _ r)) (cu.ints _),aO.lst (.of W) (cu.ints _),YQ _,YQ _,?_⟩;refine ao (λ_=>?_) (λe=>aab (xF _) e);refine λx dx hx n Y=>?_;refine⟨x,dx,b,rfl,aJ,rfl,?_⟩;obtain⟨l,m⟩:∃l,l=upd (upd (upd G dx (.own x)) x (.ins t.bR dx [])) x (.ins t.bR dx [("order",.str (cr b))]):=⟨_,rfl⟩;have C:ah G l:=λc u e=>by rw[m,ay (aI e hx)];exact fR hx n c u e
 have S:l x=some (.ins t.bR dx [("order",.str (cr b))]):=by rw[m];exact aJ
 rw[<- m];have g:=s.trans C;refine⟨x,q2,.pr b,ts,rfl,⟨dx,S⟩,hs,by lia,.of (C _ _ (j _ _ r)),λq8 H8 F _ R=>?_⟩;refine⟨_,_,aO.lst (.of R) (cu.ints _),aO.lst (.of (F _ _ (g _ _ p))) (cu.ints _),YQ _,YQ _,?_⟩;exact cI (k _ (g.trans F)) (xF _).symm
structure Ts where
 a:Ta
 b:Addr
 N:Nat
 k:Nat
 m:Nat
 e:Bool
def iS(Df:Nat->Kt)(ts:f6)(M:Nat)(X:Nat->Ts):Nat->Nat
 | 0=>M
 | j+1=>(ap (Df (j+1)) 0 (ts.take (X j).k)).1.length
def fz(X:Nat->Ts)(i:Nat)(x:Ts):Nat->Ts:=λj=>if j=i then x else X j
def eh{X:Nat->Ts}{i:Nat}{x:Ts}:fz X i x i=x:=aaa rfl
def eu{X:Nat->Ts}{i j:Nat}{x:Ts}(h:j≠i):fz X i x j=X j:=on h
structure Al (t:Adr) (Hc H:Hp) (n:Nat) (Df:Nat->Kt) (ts:f6) (X:Nat->Ts):Prop where
 u:∀j<n,Tu t Hc H (X j).a (X j).b (Df j) (Df ((j+1)%n)) ts (X j).N (X j).k (X j).m (X j).e
 dis:∀i<n,∀j<n,i≠j->∀c∈bn (X i).a (X i).b,c∉bn (X j).a (X j).b
def gh(n:Nat)(X:Nat->Ts)(c:Addr):Prop:=∀j<n,c∉bn (X j).a (X j).b
section
variable {Hc H H':Hp}{n:Nat}{Df:Nat->Kt}{ts:f6}{X:Nat->Ts}{i:Nat}{c q b':Addr}{N' k' m':Nat}{e':Bool}{o:HO}
def Tu.some5{a:Ta}{b:Addr}{D G:Kt}{ts:f6}{N k m:Nat}{e:Bool}(h:Tu t Hc H a b D G ts N k m e):∀c∈bn a b,∃v,H c=some v:=by
 intro c d;simp only [bn,Yz,Y0,or_false]at d;rcases d with rfl|rfl|rfl|rfl|rfl
 ·exact⟨_,h.tw.hx⟩
 ·exact⟨_,h.hr⟩
 ·exact⟨_,h.hb⟩
 ·exact⟨_,h.tw.hw⟩
 ·exact⟨_,h.tw.hl⟩
def Al.call(h:Al t Hc H n Df ts X)(k:i<n)(p:Tu t (wo H (bn (X i).a (X i).b)) H' (X i).a b' (Df i) (Df ((i+1)%n)) ts N' k' m' e') :
 Al t Hc H' n Df ts (fz X i ⟨(X i).a,b',N',k',m',e'⟩)/\∀c v,H c=some v->gh n X c->H' c=some v/\gh n (fz X i ⟨(X i).a,b',N',k',m',e'⟩) c:=by
 have o:=h.u i k;have kept:∀c v,H c=some v->c∉bn (X i).a (X i).b->H' c=some v/\c∉bn (X i).a b':=λc v e n=>by
  have w:=eM n e;refine⟨p.tw.sb _ _ w,λz=>?_⟩;rw[p.none5 c z]at w;cases w
 refine⟨⟨λj g=>?_,λj g l hl ne c d z=>?_⟩,λc v e f=>⟨(kept c v e (f i k)).1,λj g=>?_⟩⟩
 ·by_cases e:j=i
  ·subst e;rw[eh];exact Tu.back (D0:=Df j) (G0:=Df j) p o o.to
  ·rw[eu e];exact (h.u j g).other p.tw.sb (λc d z=>h.dis j g i k e c d z) o.none5 o.not_tup
 ·by_cases ej:j=i
  ·have m:l≠i:=λz=>ne (ej.trans z.symm);rw[ej,eh]at d;rw[eu m]at z;obtain⟨v,q⟩:=(h.u l hl).some5 c z;exact (kept c v q (h.dis l hl i k m c z)).2 d
  ·rw[eu ej]at d;by_cases m:l=i
   ·rw[m,eh]at z;obtain⟨v,q⟩:=(h.u j g).some5 c d;exact (kept c v q (h.dis j g i k ej c d)).2 z
   ·rw[eu m]at z;exact h.dis j g l hl ne c d z
 ·by_cases ej:j=i
  ·rw[ej,eh];exact (kept c v e (f i k)).2
  ·rw[eu ej];exact f j g
def Al.grow(h:Al t Hc H n Df ts X)(s:ah H H'):Al t Hc H' n Df ts X:=⟨λj a=>(h.u j a).grow s,h.dis⟩
def Al.kp(h:Al t Hc H n Df ts X)(s:∀d u,d≠c->H d=some u->H' d=some u)(f:gh n X c)(fc:Hc c=none)(b:∀u,H c≠some (.tup u)):Al t Hc H' n Df ts X:=⟨λj a=>(h.u j a).other (L:=[c]) (λd v q=>s d v (λz=>by rw[z,dA (by simp)]at q;cases q) (je d v q)) (λd hd z=>f j a (by rw[<- YH.mp z];exact hd)) (λd hd=>by rw[YH.mp hd];exact fc) (λd hd v q=>by rw[YH.mp hd]at q;exact b v q),h.dis⟩
def Al.new(h:Al t Hc H n Df ts X)(c:H q=none):gh n X q:=λj b z=>by
 obtain⟨v,a⟩:=(h.u j b).some5 q z;rw[c]at a;cases a
def Al.same(h:Al t Hc H n Df ts X)(a:0<n):ah Hc H:=(h.u 0 a).tw.sb
def Al.tells(h:Al t Hc H n Df ts X)(e:i<n)(c:wo H (bn (X i).a (X i).b) q=none)(f:q∉bn (X i).a b'):gh n (fz X i ⟨(X i).a,b',N',k',m',e'⟩) q:=λj d z=>by
 by_cases ej:j=i
 ·rw[ej,eh]at z;exact f z
 ·rw[eu ej]at z;obtain⟨v,g⟩:=(h.u j d).some5 q z;rw[eM (h.dis j d i e ej q z) g]at c;cases c
end
def DU(A B C:f6){i:Nat}(h:i<B.length):(A++(B++C))[A.length+i]? = B[i]?:=by
 rw[Zi (by lia),ZW,Zj h]
def Nb(G:Kt)(ts:f6){k k':Nat}(h:k<=k'){i:Nat}(a:i<(iN G ts k k').length):(iN G ts k k')[i]? = (ap G 0 ts).1[(ap G 0 (ts.take k)).1.length+i]?:=by
 have e:ap G 0 ts=ap G 0 (ts.take k'++ts.drop k'):=by rw[YV]
 rw[e,tZ,qm G ts h];show _=((ap G 0 (ts.take k)).1++iN G ts k k'++_)[_]?;rw[YU,DU _ _ _ a]
theorem vS{b H:Hp}{n:Nat}{Df:Nat->Kt}{ts:f6}{X:Nat->Ts}{M:Nat}(h:Al t b H n Df ts X)(hM:M=(ap (Df 0) 0 ts).1.length):∀j<n,(∀l,l<=j->(X l).N=iS Df ts M X l)->(X j).k=ts.length/\(X j).m=0
 | 0,hj,hl=>(h.u 0 hj).st.full ((hl 0 (Ym _)).trans hM)
 | j+1,hj,hl=>by
  obtain⟨e,_⟩:=vS h hM j (by lia) λl a=>hl l (by lia);refine (h.u (j+1) hj).st.full ((hl (j+1) (Ym _)).trans ?_);show (ap (Df (j+1)) 0 (ts.take (X j).k)).1.length=_;rw[e,Yy]
structure hX (Hc H:Hp) (n:Nat) (Df:Nat->Kt) (ts:f6) (td:Nat->Addr) (X:Nat->Ts):Prop where
 h:∀j<n,H (td j)=some (.lst ((ap (Df ((j+1)%n)) 0 (ts.take (X j).k)).1.map V.int))
 f:∀j<n,gh n X (td j)
structure Gk (Hc:Hp) (n:Nat) (td:Nat->Addr):Prop where
 c:∀j<n,Hc (td j)=none
 nd:∀i<n,∀j<n,i≠j->td i≠td j
def Ou(H:Hp)(n:Nat)(td:Nat->Addr)(X:Nat->Ts)(c:Addr)(v:HO):Prop:=H c=some v/\gh n X c/\∀j<n,c≠td j
def Wc(t:Adr)(b H:Hp)(n:Nat)(Df:Nat->Kt)(ts:f6)(td:Nat->Addr)(X:Nat->Ts)(M:Nat)(d:Bool)(Q:VK):Prop:=∀X' H',Al t b H' n Df ts X'->(∀j<n,(X' j).a=(X j).a/\(X' j).e=d/\(X' j).N=iS Df ts M X' j)->hX b H' n Df ts td X'->(∀c v,Ou H n td X c v->Ou H' n td X' c v)->Q .non H'
def Jn(K:PySem.W.Frag)(t:Adr):Sp:=λvs H Q _=>∃(b:Hp) (n:Nat) (Df:Nat->Kt) (ts d:f6) (td:Nat->Addr) (X:Nat->Ts) (M:Nat) (c pt g:Addr) (f:Bool),vs=[.ref c,.ref pt,.ref g,.bl f]/\Al t b H n Df ts X/\0<n/\n<=4/\ts.length<=100/\(∀j<n,(X j).e=false/\(X j).N=iS Df ts M X j)/\Gk b n td/\hX b H n Df ts td X /\
 b pt=some (.lst ((List.range n).map λj=>V.ref (X j).a.x))/\b g=some (.lst ((List.range n).map λj=>V.ref (td j)))/\Ou H n td X c (.lst (d.map V.int))/\(∀i<d.length,d[i]? = (ap (Df 0) 0 ts).1[M+i]?)/\(f=true->M+d.length=(ap (Df 0) 0 ts).1.length)/\Wc t b H n Df ts td X (M+d.length) f Q
def fT{α:Type}{n i:Nat}{f:Nat->α}(h:i<n):((List.range n).map f)[i]? = some (f i):=by
 rw[Yt,Ze h];rfl
def Hz{X:Nat->Ts}{i:Nat}{x y:Ts}:fz (fz X i x) i y=fz X i y:=by
 funext j
 by_cases h:j=i
 ·rw[h,eh,eh]
 ·rw[eu h,eu h,eu h]
def En{Df:Nat->Kt}{ts:f6}{M l:Nat}{X Y:Nat->Ts}(h:∀j<l,(X j).k=(Y j).k):iS Df ts M X l=iS Df ts M Y l:=by
 cases l with
 | zero=>rfl
 | succ l =>
  show (ap _ 0 (ts.take (X l).k)).1.length=(ap _ 0 (ts.take (Y l).k)).1.length;rw[h l (Yu l)]
def Ew (T:Txt w K mg t):bz P w K mg base "_law_through" 13 t.zM t.vW ["_law_data", "_law_turners", "_law_told", "_law_over"] (Jn K t):=by
 refine⟨T.Rw,T.Gz.kp,T.Ui,T.Gz.okQ jT (λvs H Q E h=>by obtain⟨Hc,n,Df,ts,ws,td,X,M,c,pt,pd,D,rfl,_⟩:=h;rfl) λ_ _ _ _ H vs Q E hr h=>?_⟩;obtain⟨Hc,n,Df,ts,ws,td,X,M,c,pt,pd,D,rfl,al,n0,n4,lt,he,dl,tl,ah,aG,hd,hw,aH,k⟩:=h;refine⟨_,(ag (cq PassesOwn.never rfl (gP (K:=K) rfl rfl T.n_enumerate (ab (aa 1) ad)) (fF (K:=K) rfl rfl (cC (bi (i:=4) jT.nd rfl (.inl rfl)) (cC (bi (i:=5) jT.nd rfl (.inl rfl)) fE))) (af (aP (i:=6) jT.nd rfl (.inl rfl) (cM (Qz (K:=K) T) hr (aa 5) (ab (aa 0) ad)))
  (af (aL (dE (K:=K) rfl (aa 3)) (ag (aP (i:=6) jT.nd rfl (.inl rfl) (az (Ya K) (aa 6) (dX (QC (K:=K) T) hr (aa 5))))) aN)
  (af (ck (cT (K:=K) rfl YJ Zg Zh (Yf K) (aE (Yc K) (aa 2) (aa 4) (λ_ _=>rfl)) (ab (aa 6) ad)))
  (ag (aP (i:=0) jT.nd rfl (.inl rfl) (aa 6)))))))),?_⟩
 refine⟨pt,_,rfl,.of (al.same n0 _ _ ah),hG (K:=K) (a:=pt) (xs:=(List.range n).map λj=>V.ref (X j).a.x) (λi σ F=>∃(g:Nat->Ts) (W:Addr) (o:f6) (v4 v5 v6:Option V),Al t Hc F n Df ts g/\(∀j<n,(g j).a=(X j).a)/\(∀j,i<=j->g j=X j)/\(∀j<i,(g j).e=D/\(g j).N=iS Df ts (M+ws.length) g j)/\hX Hc F n Df ts td g/\(∀c v,Ou H n td X c v->Ou F n td g c v)/\Ou F n td g W (.lst (o.map V.int)) /\
  (i<n->(X i).N+o.length=iS Df ts (M+ws.length) g i/\∀l<o.length,o[l]? = (ap (Df i) 0 ts).1[(X i).N+l]?)/\σ=[some (.ref W),some (.ref pt),some (.ref pd),some (.bl D),v4,v5,v6])
  ⟨X,c,ws,_,_,_,al,(λ_ _=>rfl),(λ_ _=>rfl),(λj s=>aab s (Zm _)),tl,(λ_ _ h=>h),hd,(λ_=>⟨by rw[(he 0 n0).2];rfl,by rw[(he 0 n0).2];exact hw⟩),rfl⟩ (λi σ F _ z=>by obtain⟨g,W,o,v4,v5,v6,aQ,_⟩:=z;exact .of (aQ.same n0 _ _ ah)) ?_ ?_⟩
 ·rintro i x p σ H2 H3 hx ⟨g,W,o,v4,v5,v6,a5,ea,sm,dn,r,ou,R,hin,rfl⟩ S;have y:i<n:=by have:=(Yr.mp hx).1;simpa using this
  rw[fT y]at hx;cases hx;obtain⟨hN,aF⟩:=hin y;refine⟨p,_,rfl,S.tup,rfl,_,_,rfl,_,_,rfl,rfl,?_⟩;have L:=a5.grow S.sm;have G:=sm i (Ym _);have u3:=L.u i y;have e3:(g i).e=false:=by rw[G];exact (he i y).1
  refine⟨(g i).a.x,(g i).a.dx,_,by rw[G],u3.tw.hx,rfl,?_⟩;refine⟨_,(g i).a,(g i).b,W,Df i,Df ((i+1)%n),ts,o,(g i).N,(g i).k,(g i).m,(g i).e,by rw[G];rfl,u3.side,.of (eM (R.2.1 i y) (S.sm _ _ R.1)),λ_=>⟨by rw[G];exact aF,λq b' k' m' H4 nq kk u4 hq qn=>?_⟩,λe=>aab (e3.symm.trans e) (by decide)⟩;obtain⟨I,a0⟩:=L.call y u4;have fq:=L.tells (N':=(g i).N+o.length) (k':=k') (m':=m') (e':=false) y nq qn;have qt:∀j<n,q≠td j:=λj s z=>by
   have:=eM (r.f j s i y) (S.sm _ _ (r.h j s));rw[<- z,nq]at this;cases this
  have kn:k'<=ts.length:=u4.st.1;have lo:(iN (Df ((i+1)%n)) ts (g i).k k').length+(ap (Df ((i+1)%n)) 0 (ts.take (g i).k)).1.length<=600:=by
   have:=(gk u4.tw.tg.ok (ik _) k' ts (jD (λn hn=>(u4.yn n hn).2) _)).2;rw[qm _ _ kk,Yo]at this;lia
  refine c7 ?_;dsimp only;refine iJ (t:=iG _ _ _) (λσ' F=>∃(O:Addr) (m2:Nat) (f:Addr),Al t Hc F n Df ts (fz g i ⟨(g i).a,O,(g i).N+o.length,k',m2,D⟩)/\(∀c v,H2 c=some v->gh n g c->F c=some v/\gh n (fz g i ⟨(g i).a,O,(g i).N+o.length,k',m2,D⟩) c)/\F f=some (.lst ((iN (Df ((i+1)%n)) ts (g i).k k').map V.int))/\gh n (fz g i ⟨(g i).a,O,(g i).N+o.length,k',m2,D⟩) f/\(∀j<n,f≠td j)/\σ'=[some (.ref W),some (.ref pt),some (.ref pd),some (.bl D),some (.int (i:Int)),some (.ref (X i).a.x),some (.ref f)]) (λnx hn=>?_) ?_
  ·refine ao (λe=>?_) (λe=>?_)
   ·obtain rfl:D=true:=e;have fu:=vS I (aH rfl) i y λl hl=>by
     rw[En (Y:=g) λj s=>by rw[eu (by lia)]];by_cases el:l=i
     ·rw[el,eh,G];exact hN
     ·rw[eu el];exact (dn l (by lia)).2
    rw[eh]at fu;obtain⟨_,em⟩:=fu
    replace em:m'=0:=em
    subst em;have U:=I.u i y;rw[eh]at U;refine⟨(g i).a.x,(g i).a.dx,_,by rw[G],U.tw.hx,rfl,?_⟩;refine⟨_,(g i).a,b',_,_,ts,_,k',false,by rw[G];rfl,U.side,λq2 H5 bc u5 aA b7=>?_⟩;obtain⟨C,B⟩:=I.call (i:=i) (b':=b') (N':=(g i).N+o.length) (k':=k') (m':=0) (e':=true) y (by rw[eh];exact u5);rw[Hz,eh]at C B;obtain⟨aK,bf⟩:=B _ _ hq fq;refine⟨_,_,.of aK,.of aA,bM (by rw[Yl];show _+0<=_;lia),λf H6 g6=>?_⟩;rw[Y8]at g6;refine hn _ _ ⟨b',0,f,C.grow g6.sm,λc v h fc=>?_,g6.at_,C.new g6.nw,λj s=>?_,rfl⟩
    ·obtain⟨a1,a2⟩:=a0 c v (S.sm _ _ h) fc;obtain⟨a3,a4⟩:=B c v a1 a2;exact⟨g6.sm _ _ a3,a4⟩
    ·obtain⟨a1,a2⟩:=a0 _ _ (S.sm _ _ (r.h j s)) (r.f j s);exact (aI (B _ _ a1 a2).1 g6.nw).symm
   ·obtain rfl:D=false:=by cases D with|true=>exact aab rfl e|false=>rfl
    exact hn _ _ ⟨b',m',q,I,λc v h f=>a0 c v (S.sm _ _ h) f,hq,fq,qt,rfl⟩
  ·rintro σ' H5 ⟨O,m2,f,C,B,hf,ff,ft,rfl⟩;have s5:=C.same n0;obtain⟨J,aB⟩:=B _ _ (r.h i y) (r.f i y);refine⟨_,.ref (td i),.inl (.of (s5 _ _ aG)),ba (fT y),?_⟩;refine⟨.inl ⟨rfl,_,.of J⟩,?_⟩;refine⟨_,_,J,hf,bM (by rw[Yl,Yl];lia),?_⟩;rw[<- Yw];have ow:=qm (Df ((i+1)%n)) ts kk;refine⟨fz g i ⟨(g i).a,O,(g i).N+o.length,k',m2,D⟩,f,iN (Df ((i+1)%n)) ts (g i).k k',_,_,_,C.kp (c:=td i) (λd u nd e=>by rw[ay nd];exact e) aB (dl.c i y) (λu e=>by rw[J]at e;cases e),λj s=>?_,λj s=>?_,λj s=>?_,⟨λj s=>?_,λj s=>?_⟩,λc v h=>?_,⟨?_,ff,ft⟩,λgX=>?_,rfl⟩
   ·by_cases ej:j=i
    ·rw[ej,eh];exact ea i y
    ·rw[eu ej];exact ea j s
   ·rw[eu (by lia)];exact sm j (by lia)
   ·rw[En (Y:=g) λl hl=>by rw[eu (by lia)]];by_cases ej:j=i
    ·rw[ej,eh];exact⟨rfl,by rw[G];exact hN⟩
    ·rw[eu ej];exact dn j (by lia)
   ·by_cases ej:j=i
    ·rw[ej,eh,aJ,ow]
    ·rw[eu ej,ay (dl.nd j s i y ej)];exact (B _ _ (r.h j s) (r.f j s)).1
   ·exact (B _ _ (r.h j s) (r.f j s)).2
   ·obtain⟨a1,a2,a3⟩:=ou c v h;obtain⟨b1,O⟩:=B c v a1 a2;exact⟨by rw[ay (a3 i y)];exact b1,O,a3⟩
   ·rw[ay (ft i y)];exact hf
   ·have e1:(i+1)%n=i+1:=Nat.mod_eq_of_lt gX;rw[e1]at ow ⊢;have eN:(X (i+1)).N=(ap (Df (i+1)) 0 (ts.take (g i).k)).1.length:=by rw[(he (i+1) gX).2,G];rfl
    refine⟨?_,λl hl=>by rw[eN];exact Nb _ _ kk hl⟩;show _=(ap (Df (i+1)) 0 (ts.take (fz g i _ i).k)).1.length;rw[eh,eN,ow,Yo]
 ·rintro σ H2 ⟨g,W,o,v4,v5,v6,a5,ea,sm,dn,r,ou,R,hin,rfl⟩;rw[Yl,ZO]at dn;exact k g H2 a5 (λj s=>⟨ea j s,dn j s⟩) r ou
def nQ(ns:f6):¬(if true=true then !PyData.eqv (.list (ns.map PyData.int)) (.list (ns.map PyData.int)) else PyData.eqv (.list (ns.map PyData.int)) (.list (ns.map PyData.int)))=true:=by rw[rm];simp
def J5(t:Adr):Sp:=λvs H Q _=>∃(b:Hp) (n:Nat) (Df:Nat->Kt) (ts:f6) (td pl:Nat->Addr) (X:Nat->Ts) (pt d pp c:Addr),vs=[.ref pt,.ref d,.ref pp,.ref c]/\Al t b H n Df ts X/\0<n/\ts.length<=100 /\
 b pt=some (.lst ((List.range n).map λj=>V.ref (X j).a.x))/\b d=some (.lst ((List.range n).map λj=>V.ref (td j)))/\b pp=some (.lst ((List.range n).map λj=>V.ref (pl j)))/\(∀j<n,eJ b (pl j) (Df j))/\b c=some (.lst (ts.map V.int))/\(∀j<n,H (td j)=some (.lst ((ap (Df ((j+1)%n)) 0 ts).1.map V.int)))/\∀H',ah H H'->Q (.bl true) H'
def Qe (T:Txt w K mg t):bz P w K mg base "_law_clean" 4 t.zY t.wk ["_law_turners", "_law_told", "_law_plans", "_law_text"] (J5 t):=by
 refine⟨T.RI,T.GL.kp,T.Uv,T.GL.okQ ux (λvs H Q E h=>by obtain⟨Hc,n,Df,ts,td,pl,X,pt,U,pp,M,rfl,_⟩:=h;rfl) λ_ _ _ _ H vs Q E hr h=>?_⟩;obtain⟨Hc,n,Df,ts,td,pl,X,pt,U,pp,M,rfl,al,Y,lt,g,C,d,r,D,y,k⟩:=h;have F:=hr.units;refine⟨_,(af (cq PassesOwn.never rfl (gP (K:=K) rfl rfl T.n_enumerate (ab (aa 0) ad)) (fF (K:=K) rfl rfl (cC (bi (i:=4) ux.nd rfl (.inl rfl)) (cC (bi (i:=5) ux.nd rfl (.inl rfl)) fE))) (af (aL (aQ (gZ (K:=K) rfl F) (aE (Yc K) (aa 1) (aa 4) (λ_ _=>rfl)) (aD (vy (K:=K) T) hr (ab (aE (Yc K) (aa 2) (az gy (az (Ya K) (aa 4) aj) (bu (Yb K) T.n_len Yq (ab (aa 2) ad))) (λ_ _=>rfl)) (ab (aa 3) ad))) (aS _)) (ag (am dW)) aN)
  (ag (aL (dG (fV (aQ (gZ (K:=K) rfl F) (dX (Qy (K:=K) T) hr (aa 5)) (aR ad) (aS _)) (fU (aQ (gZ (K:=K) rfl F) (dX (QB (K:=K) T) hr (aa 5)) (aR ad) (aS _))))) (ag (am dW)) aN))))
  (ag (am dW))),?_⟩
 have I:=al.same Y;refine⟨pt,_,rfl,.of (I _ _ g),hG (K:=K) (a:=pt) (xs:=(List.range n).map λj=>V.ref (X j).a.x) (λi σ R=>ah H R/\∃s L,σ=[some (.ref pt),some (.ref U),some (.ref pp),some (.ref M),s,L]) ⟨ah.refl _,_,_,rfl⟩ (λi σ R _ z=>.of (z.1 _ _ (I _ _ g))) ?_ ?_⟩
 ·rintro i x p σ H2 H3 hx ⟨o,s,L,rfl⟩ g3;have l:i<n:=by have:=(Yr.mp hx).1;simpa using this
  rw[fT l]at hx;cases hx;have O:=o.trans g3.sm;have f:=I.trans O;have W:(i+1)%n<n:=Z6 _ Y;have G:=al.u i l;refine⟨p,_,rfl,g3.tup,rfl,_,_,rfl,_,_,rfl,rfl,?_⟩;refine⟨_,.ref (td i),.inl (.of (f _ _ C)),ba (fT l),?_⟩;refine⟨_,.inl (.of (f _ _ d)),?_⟩;refine⟨by show (0:Int)<(((List.range n).map λj=>V.ref (pl j)).length:Int);rw[Yl,ZO];lia,?_⟩;refine⟨_,.ref (pl ((i+1)%n)),.inl (.of (f _ _ d)),?_,?_⟩
  ·rw[Yl,ZO,show ((i:Int)+1)%(n:Int)=(((i+1)%n:Nat):Int) by rw[a0r,Zn];rfl];exact ba (fT W)
  refine⟨_,M,Df ((i+1)%n),ts,rfl,(r _ W).mono f,G.tw.tg.ok,f _ _ D,λm hm=>(G.yn m hm).2,by lia,λq H4 s4 hq=>?_⟩;have b:=O.trans s4;refine⟨_,_,aO.lst (.of (b _ _ (y i l))) (cu.ints _),aO.lst (.of hq) (cu.ints _),YQ _,YQ _,?_⟩;refine ao (λe=>aab e (nQ _)) (λ_=>?_);have B:=G.grow b;refine⟨_,_,_,rfl,B.tw.hx,rfl,?_⟩;refine⟨_,_,_,_,_,_,_,_,_,_,rfl,B,λq5 H5 N=>?_⟩;refine⟨sz rfl,λp6 H6 v=>?_⟩;refine⟨_,_,aO.lst (.of (v.sm _ _ N.at_)) (cu.ints []),aO.lst v.lst (cu.ints []),YQ [],YQ [],?_⟩;refine ao (λe=>aab e (nQ [])) (λ_=>?_);have c:=N.sm.trans v.sm;have u6:=B.grow c;refine⟨_,_,_,rfl,u6.tw.hx,rfl,?_⟩;refine⟨_,_,_,_,_,_,_,_,_,_,rfl,u6,λq7 H7 S=>?_⟩;refine⟨sz rfl,λp8 H8 J=>?_⟩;refine⟨_,_,aO.lst (.of (J.sm _ _ S.at_)) (cu.ints []),aO.lst J.lst (cu.ints []),YQ [],YQ [],?_⟩;refine ao (λe=>aab e (nQ [])) (λ_=>?_);exact⟨b.trans (c.trans (S.sm.trans J.sm)),_,_,rfl⟩
 ·rintro σ H2 ⟨o,s,L,rfl⟩;exact k _ o
end
end My
namespace My
open PySem L2
def gJ{α:Type}(f:Nat->α)(i:Nat)(x:α):Nat->α:=λj=>if j=i then x else f j
def gH{α:Type}{f:Nat->α}{i:Nat}{x:α}:gJ f i x i=x:=aaa rfl
def fQ{α:Type}{f:Nat->α}{i j:Nat}{x:α}(h:j≠i):gJ f i x j=f j:=on h
def qf{α β:Type}{f:Nat->α}{g:α->β}{i:Nat}{x:α}:(List.range (i+1)).map (λj=>g (gJ f i x j))=(List.range i).map (λj=>g (f j))++[g x]:=by
 rw[Zc,Yw,List.map_singleton,gH]
 congr 1
 refine Z1 λj a=>?_;rw[fQ (YB (YE.mp a))]
def Bx{α:Type}{f:Nat->α}{i:Nat}{x:α}{R:Nat->α->Prop}(h:∀j<i,R j (f j))(k:R i x):∀j<i+1,R j (gJ f i x j):=λj a=>by
 by_cases e:j=i
 ·rw[e,gH];exact k
 ·rw[fQ e];exact h j (by lia)
def fY{α:Type}{n:Nat}{f:Nat->α}:((List.range n).map f).length=n:=by rw[Yl,ZO]
section
variable {P:Program}{w:World}{K:PySem.W.Frag}{mg:Str->Option Value}{base:Heap}{t:Adr}
def PR (T:Txt w K mg t):gg P w K mg base "LetterWriter" t.dN 1 t.tL t.rg ["self"] [] (Lw.spInit t):=⟨T.Rq,T.OI,⟨[],T.VJ,.nil⟩,Lw.ok_init T⟩
def PU (T:Txt w K mg t):gg P w K mg base "LetterReader" t.cW 1 t.tM t.rh ["self"] [] (Lr.spInit t):=⟨T.Rr,T.OJ,⟨[],T.VN,.nil⟩,Lr.ok_init T⟩
end
end My
namespace My.Lr
open PySem L2 Lw
def dg(R:f6)(m:Nat):f6:=(bo R).take (8*m/6)
def xH(R:f6)(m:Nat):cj (dg R m):=λp a=>iY (Zf a)
def Fz{R r s:f6}(hR:L2.Byts R)(e:R=r++s):df r=(dg R r.length).map bv:=by
 subst e;rw[<- Fv (λx h=>hR x (Y1 _ h)) (λx h=>hR x (YF _ h)),dg,Zx]
 rfl
def BL{α:Type}(l:List α){i j:Nat}(h:i<=j):l.take j=l.take i++(l.take j).drop i:=by
 have:(l.take j).take i=l.take i:=by rw[a0c,Zz h]
 rw[<- this,YV]
def SK{R r p s:f6}(hR:L2.Byts R)(e:R=r++p++s):∃y,dg R (r++p).length=dg R r.length++y/\(df (aW r++p)).drop (aW r).length=y.map bv/\cj y:=by
 have hr:L2.Byts r:=λx h=>hR x (by rw[e];simp[h]);have a:L2.Byts p:=λx h=>hR x (by rw[e];simp[h]);have m:=IS hr a;rw[Fz hR e,Fz (r:=r) (s:=p++s) hR (by rw[e,YU])]at m;have le:8*r.length/6<=8*(r++p).length/6:=by rw[Yo];lia
 refine⟨(dg R (r++p).length).drop (8*r.length/6),BL _ le,?_,λx h=>xH _ _ x (YX h)⟩;have b:dg R (r++p).length=dg R r.length++(dg R (r++p).length).drop (8*r.length/6):=BL _ le;rw[b,Yw]at m;exact (a2f m).symm
def SS{R:f6}(hR:L2.Byts R):∃y,bo R=dg R R.length++y/\(bG (aW R)).drop (aW R).length=y.map bv/\cj y:=by
 refine⟨(bo R).drop (8*R.length/6),(YV _ _).symm,?_,λx h=>iY (YX h)⟩;obtain⟨a,j,e,b,hl⟩:=jf R;have f:L2.Byts (aW R):=λx h=>hR x (YX h);have d:bG R=bG a++bG (aW R):=by conv=>lhs;rw[e,oR b f]
 have c:(bG a).length=4*j:=by rw[hJ,bf,b];lia
 have lR:R.length=3*j+(aW R).length:=by conv=>lhs;rw[e,Yo,b]
 show _=((bo R).drop (8*R.length/6)).map bv;rw[Zy];show _=(bG R).drop _;have g:(aW R).length<3:=by lia
 have d0:(bG a).drop (8*R.length/6)=[]:=ZN (by rw[c];lia);rw[d,a0k,d0,Zv,c]
 congr 1
 lia
def IC{R x z:f6}(hR:L2.Byts R)(e:bo R=x++z):∃v,R=bh x++v:=by
 have hx:cj x:=λp h=>iY (r:=R) (by rw[e];exact Y1 _ h);have hz:cj z:=λp h=>iY (r:=R) (by rw[e];exact YF _ h);have t:=m8 hR;rw[e,ud hx hz]at t;exact⟨_,t.symm⟩
def IN{R:f6}(hR:L2.Byts R):bG (bh (be (bo R)))=(be (bo R)).map bv:=by
 obtain⟨a,j,e,c,hl⟩:=jf R;have b:L2.Byts (aW R):=λx h=>hR x (YX h);have d:(bo a).length=4*j:=by rw[mS,bf,c];lia
 have f:be (bo R)=bo (aW R):=by
  conv=>lhs;rw[e,Fx c b,BM d]
  have:(bo (aW R)).length<4:=by rw[mS,bf];lia
  unfold be;rw[Nat.mod_eq_of_lt this,Nat.sub_self,ZX]
 rw[f,m8 b]
 rfl
end My.Lr
namespace My
open PySem L2
def IW{t:Adr}{H:Hp}{o:Addr}{D:Kt}{g n:Int}(tn:TN t H o D)(pg:dQ D g)(d:bW D n)(hs:Sg n):L2.Byts (aZ D g n).1:=by
 have c:∀ {P O:f6},dj P->dj O->(g=0\/g=1)->∀r g',fi P O g (.int n)=some (r,g')->L2.Byts r:=λ{P O} oP oO x r g' e=>by
  have e':(match bX P n with
   | some i=>some ([(i:Int)],g)
   | none=>match bX O n with
    | some i=>some ([254+(1-g),(i:Int)],1-g)
    | none=>none)=some (r,g'):=e
  have l:∀ {Z:f6} {i:Nat},dj Z->bX Z n=some i->i<250:=λ{Z i} oZ h=>by
   have:=(Yr.mp (mN h).1).1;have:=oZ.2.2;lia
  cases h1:bX P n with
  | some i =>
   rw[h1]at e';cases e';have:=l oP h1;intro p a;rw[YH.mp a];lia
  | none =>
   rw[h1]at e';dsimp only at e';cases h2:bX O n with
   | some i =>
    rw[h2]at e';cases e';have:=l oO h2;intro p a;simp only [Yz,Y0,or_false]at a;rcases a with rfl|rfl<;>lia
   | none =>
    rw[h2]at e';cases e'
 cases D with
 | br=>exact d.elim
 | ld =>
  show L2.Byts (row n);obtain⟨s,u,_,_⟩:=hs;intro p a;unfold row at a
  (repeat' split at a)<;>simp only [Yz,Y0,or_false]at a<;>lia
 | pr b=>exact λp a=>by have:=Dl b hs p a;lia
 | sh f ns ms =>
  obtain⟨r,g',e,q,_,_⟩:=iI tn.ok pg d;rw[q];rcases pg with rfl|rfl
  ·exact c (Tg.k0 tn) (Tg.k1 tn) (.inl rfl) r g' e
  ·exact c (Tg.k1 tn) (Tg.k0 tn) (.inr rfl) r g' e
 | tb f es =>
  obtain⟨m,j,v,k⟩:=mP d;have:aZ (.tb f es) g n=(m.2,g):=by
   show (((es.find? λe=>decide (e.1=n)).map λe=>(e.2,g)).getD ([],g))=_;rw[k]
   rfl
  rw[this];intro p a;have:=(tn.2.sg m j).2.2.2 p a;lia
theorem Bq{t:Adr}{H:Hp}{o:Addr}{D:Kt}(tn:TN t H o D){ts:f6}(a:∀n∈ts,bW D n)(hs:∀n∈ts,Sg n):∀i,i<=ts.length->L2.Byts (ap D 0 (ts.take i)).1
 | 0,_=>λp b=>nomatch b
 | i+1,h=>by
  have e:ts[i]? = some ts[i]:=YM h;rw[de e,jd];intro p b;rcases Yx.mp b with q|q
  ·exact Bq tn a hs i (by lia) p q
  ·have m:=YD e;exact IW tn (gk tn.ok (ik D) i ts (jD a i)).1 (a _ m) (hs _ m) p q
end My
namespace My
open PySem L2
section
variable {t:Adr}{Hb Hc H H' HJ:Hp}
def Tu.over{a:Ta}{b:Addr}{D G:Kt}{ts:f6}{N k m:Nat}{e:Bool}(h:Tu t Hb H a b D G ts N k m e)(tg:TN t Hc a.og G)(tn:TN t Hc a.o D)(f:ah Hc H)(d:∀c∈bn a b,Hc c=none)(kp:∀c u,c∈[a.st,a.mt,a.ss]->H c=some u->Hc c=some u):Tu t Hc H a b D G ts N k m e:=by
 obtain⟨ds,hs⟩:=h.tw.hs
 exact⟨⟨tg,f,d _ (by simp[bn]),d _ (by simp[bn]),d _ (by simp[bn]),⟨ds,kp _ _ (by simp) (h.tw.sb _ _ hs)⟩,kp _ _ (by simp) (h.tw.sb _ _ h.tw.hst),h.tw.hx,h.tw.hw,h.tw.hl,h.tw.pg⟩,tn,d _ (by simp[bn]),d _ (by simp[bn]),kp _ _ (by simp) (h.tw.sb _ _ h.hm),h.nb,h.hr,h.hb,h.st,h.hin,h.yn,h.ln⟩
def Tu.three{a:Ta}{b:Addr}{D G:Kt}{ts:f6}{N k m:Nat}{e:Bool}(h:Tu t Hb H a b D G ts N k m e):∀c∈[a.st,a.mt,a.ss],∃v,Hb c=some v:=λc d=>by
 simp only [Yz,Y0,or_false]at d;rcases d with rfl|rfl|rfl
 ·exact⟨_,h.tw.hst⟩
 ·exact⟨_,h.hm⟩
 ·obtain⟨ds,hs⟩:=h.tw.hs;exact⟨_,hs⟩
def eE(a:Ta)(b:Addr):List Addr:=bn a b++[a.st,a.mt,a.ss]
structure ib (t:Adr) (HJ H:Hp) (D G:Kt) (ts:f6) (o og:Addr) (x:Ts):Prop where
 u:∃Hb,Tu t Hb H x.a x.b D G ts x.N x.k x.m x.e
 z:x.N=0/\x.k=0/\x.e=false
 o:x.a.o=o
 og:x.a.og=og
 f:∀c∈eE x.a x.b,HJ c=none
variable {D G:Kt}{ts:f6}{o og:Addr}{x:Ts}
def ib.grow(h:ib t HJ H D G ts o og x)(s:ah H H'):ib t HJ H' D G ts o og x:=by
 obtain⟨a,u⟩:=h.u
 exact⟨⟨a,u.grow s⟩,h.z,h.o,h.og,h.f⟩
def ib.some8(h:ib t HJ H D G ts o og x):∀c∈eE x.a x.b,∃v,H c=some v:=λc d=>by
 obtain⟨f,u⟩:=h.u;rcases Yx.mp d with z|z
 ·exact u.some5 c z
 ·obtain⟨v,e⟩:=u.three c z;exact⟨v,u.tw.sb _ _ e⟩
def mO{a:Ta}{b c:Addr}(h:c∈bn a b):c∈eE a b:=Y1 _ h
def ip(n:Nat)(X:Nat->Ts)(td:Nat->Addr)(aw ar:Addr):List Addr:=((List.range n).flatMap λj=>bn (X j).a (X j).b)++((List.range n).map td++[aw,ar])
def NN{n j:Nat}{X:Nat->Ts}{td:Nat->Addr}{aw ar c:Addr}(d:j<n)(h:c∈bn (X j).a (X j).b):c∈ip n X td aw ar:=Y1 _ (a1o.mpr ⟨j,YE.mpr d,h⟩)
def NM{n j:Nat}{X:Nat->Ts}{td:Nat->Addr}{aw ar:Addr}(a:j<n):td j∈ip n X td aw ar:=YF _ (Y1 _ (Y3.mpr ⟨j,YE.mpr a,rfl⟩))
def nS{n:Nat}{X:Nat->Ts}{td:Nat->Addr}{aw ar c:Addr}(e:gh n X c)(b:∀j<n,c≠td j)(f:c≠aw)(d:c≠ar):c∉ip n X td aw ar:=λz=>by
 rcases Yx.mp z with y|y
 ·obtain⟨j,a,y⟩:=a1o.mp y;exact e j (YE.mp a) y
 ·rcases Yx.mp y with y|y
  ·obtain⟨j,a,rfl⟩:=Y3.mp y;exact b j (YE.mp a) rfl
  ·simp only [Yz,Y0,or_false]at y;rcases y with rfl|rfl
   ·exact f rfl
   ·exact d rfl
def IU{n:Nat}{Df:Nat->Kt}{os:Nat->Addr}{X:Nat->Ts}{td:Nat->Addr}{aw ar:Addr}(p:0<n)(mk:∀j<n,ib t HJ H (Df j) (Df ((j+1)%n)) ts (os j) (os ((j+1)%n)) (X j))(dis:∀i<n,∀j<n,i≠j->∀c∈eE (X i).a (X i).b,c∉eE (X j).a (X j).b)(tn:∀j<n,TN t HJ (os j) (Df j))(s:ah HJ H)
 (l:∀j<n,HJ (td j)=none/\∀i<n,td j∉eE (X i).a (X i).b) (hw:HJ aw=none/\∀i<n,aw∉eE (X i).a (X i).b) (hr:HJ ar=none/\∀i<n,ar∉eE (X i).a (X i).b):ah HJ (wo H (ip n X td aw ar))/\Al t (wo H (ip n X td aw ar)) H n Df ts X:=by
 have sJ:ah HJ (wo H (ip n X td aw ar)):=λc v e=>eM (nS (λj d z=>?_) (λj d z=>?_) (λz=>?_) (λz=>?_)) (s c v e)
 ·refine⟨sJ,λj d=>?_,λi h j d ne c g z=>dis i h j d ne c (mO g) (mO z)⟩;have m:=mk j d;obtain⟨q,u⟩:=m.u;refine u.over (by rw[m.og];exact (tn _ (Z6 _ p)).mono sJ) (by rw[m.o];exact (tn j d).mono sJ) je (λc g=>dA (NN d g)) λc v g e=>eM (nS (λi h z=>?_) (λi h z=>?_) (λz=>?_) (λz=>?_)) e
  ·by_cases e:i=j
   ·rw[e]at z;obtain⟨v,k⟩:=u.three c g;rw[u.none5 c z]at k;cases k
   ·exact dis i h j d e c (mO z) (YF _ g)
  ·exact (l i h).2 j d (by rw[<- z];exact YF _ g)
  ·exact hw.2 j d (by rw[<- z];exact YF _ g)
  ·exact hr.2 j d (by rw[<- z];exact YF _ g)
 ·rw[(mk j d).f c (mO z)]at e;cases e
 ·rw[z,(l j d).1]at e;cases e
 ·rw[z,hw.1]at e;cases e
 ·rw[z,hr.1]at e;cases e
end
end My
namespace My
open PySem L2 Lr
section
variable {t:Adr}{Hc H H':Hp}{n:Nat}{Df:Nat->Kt}{ts:f6}{td:Nat->Addr}{X:Nat->Ts}{a c q:Addr}{v:HO}
def Ou.kp(h:Ou H n td X c v)(ne:c≠a)(k:Lr.Kp a H H'):Ou H' n td X c v:=⟨k c v ne h.1,h.2⟩
def hX.kp(h:hX Hc H n Df ts td X)(c:∀j<n,a≠td j)(k:Lr.Kp a H H'):hX Hc H' n Df ts td X:=⟨λj b=>k _ _ (Ne.symm (c j b)) (h.h j b),h.f⟩
def Ou.new(al:Al t Hc H n Df ts X)(tl:hX Hc H n Df ts td X)(a:H q=none)(c:H' q=some v):Ou H' n td X q v:=⟨c,al.new a,λj b=>(aI (tl.h j b) a).symm⟩
structure Lp (t:Adr) (Hc H:Hp) (n:Nat) (Df:Nat->Kt) (ts:f6) (td:Nat->Addr) (X0 X:Nat->Ts) (aw dw ar dr prw prr:Addr) (m:Int) (r x:f6):Prop where
 al:Al t Hc H n Df ts X
 he:∀j<n,(X j).a=(X0 j).a/\(X j).e=false/\(X j).N=iS Df ts (bh x).length X j
 tl:hX Hc H n Df ts td X
 w:Ou H n td X aw (Lw.Wr t dw prw false)
 wr:Ou H n td X prw (.lst ((aW r).map V.int))
 r:Ou H n td X ar (Lr.Rd t dr prr m .non false)
 rr:Ou H n td X prr (.lst (((be x).map bv).map V.int))
def SG{L:List (Addr × f6)}{i:Nat}{z:Addr × f6}(h:L[i]? = some z):flt L=flt (L.take i)++(z.2++flt (L.drop (i+1))):=by
 have b:=(Yr.mp h).1;have e:L=L.take i++([z]++L.drop (i+1)):=by
  have:=(YV i L).symm;rw[List.drop_eq_getElem_cons b]at this;have a:L[i]=z:=(Yr.mp h).2;rw[a]at this;exact this
 conv=>lhs;rw[e]
 unfold flt;simp
def uL{n:Nat}{X Y:Nat->Ts}(h:∀j<n,(Y j).a=(X j).a):(List.range n).map (λj=>V.ref (Y j).a.x)=(List.range n).map (λj=>V.ref (X j).a.x):=Z1 λj b=>by rw[h j (YE.mp b)]
def Pz{b:Bool}{H:Hp}{Q:VK}(h:Q (.bl (!b)) H):vN b .non .non H Q:=by
 have e:(if b=true then !decide (V.non=V.non) else decide (V.non=V.non)) = !b:=by cases b<;>simp
 show Q (.bl _) H;rw[e];exact h
def VV{n:Nat}{f:Nat->V}(h:0<n):cv ((List.range n).map f) (-1)=some (f (n-1)):=by
 have e:iQ n (-1)=some (n-1):=by
  unfold iQ;rw[on (by lia),aaa (by lia)]
  congr 1
  lia
 unfold cv;rw[fY,e];exact fT (by lia)
def BK{R x y z:f6}(hR:L2.Byts R)(hx:cj x)(b:cj y)(e:bo R=x++y++z):∀l<((bh (be x++y)).drop (bh (be x)).length).length,((bh (be x++y)).drop (bh (be x)).length)[l]? = R[(bh x).length+l]?:=λl hl=>by
 obtain⟨v,a⟩:=IC hR e;rw[ud hx b]at a;rw[a,YU,DU _ _ _ hl]
def pN{x y:f6}(hx:cj x)(a:cj y):(bh x).length+((bh (be x++y)).drop (bh (be x)).length).length=(bh (x++y)).length:=by
 rw[ud hx a,Yo]
end
end My
namespace My
open PySem L2 Lw Lr
section
variable {P:Program}{w:World}{K:PySem.W.Frag}{mg:Str->Option Value}{base:Heap}{t:Adr}
def uo(K:PySem.W.Frag):Sp:=λvs H Q _=>∃a,vs=[.ref a]/\∃ns:f6,aG K H a (ns.map V.int)/\ns.length<=63/\∀H',Q (.bl true) H'
def Qn (T:Txt w K mg t):bz P w K mg base "law" 14 t.As t.qZ ["_law_script"] (uo K):=by
 refine⟨T.E7,T.Bo.kp,T.UO,T.Bo.okQ fj (λvs H Q E h=>by obtain⟨a,rfl,_⟩:=h;rfl) λ_ _ _ _ H vs Q E hr h=>?_⟩;obtain⟨a,rfl,cs,ha,lc,k⟩:=h;have hu:=hr.units;refine⟨_,(af (aP (i:=1) fj.nd rfl (.inr rfl) (aD (P7 (K:=K) T) hr (ab (aa 0) ad)))
  (af (aP (i:=2) fj.nd rfl (.inl rfl) (az (Ya K) (cD (Yd K) (aa 0) (bU aj) (bU (az (Ya K) aj (cU (aD (iT (K:=K) T) hr (ab (aa 0) (ab aj ad))))))) (aR (ab aj ad))))
  (af (mE (i:=3) fj.nd rfl (.inl rfl) rfl (cZ.of (fns:=(ae fS).names) (N:=["_law_script", "_law_pool_here", "_law_numbers", "_law_plans", "_law_tongues", "_law_text", "_law_row", "_law_turners", "_law_writer", "_law_reader", "_law_told", "_law_piece", "_law_data"]) (Nc:=["_law_number", "_law_pool_here"]) (nv:=1) (caps:=[1]) rfl rfl (by decide +kernel)) (c8 (K:=K) rfl (cD (Yd K) (aa 2) dU (bU aj))) (λ_ _ _ _=>(bi (i:=0) (show List.Nodup (["_law_number", "_law_pool_here"]:List Str) by decide +kernel) rfl (Or.inl rfl) (Or.inr rfl))) (λ_ _ _ _=>fD) (λ_ _ _ _=>(aD (P8 (K:=K) T) hr (ab (aa 0) (ab (aa 1) ad)))))
  (af (aP (i:=4) fj.nd rfl (.inr rfl) (iL rfl (cZ.of (fns:=(ae fS).names) (N:=["_law_script", "_law_pool_here", "_law_numbers", "_law_plans", "_law_tongues", "_law_text", "_law_row", "_law_turners", "_law_writer", "_law_reader", "_law_told", "_law_piece", "_law_data"]) (Nc:=["_law_plan_here"]) (nv:=1) (caps:=[]) rfl rfl (by decide +kernel)) (c8 (K:=K) rfl (aa 3)) (λ_ _ _ _=>(bi (i:=0) (show List.Nodup (["_law_plan_here"]:List Str) by decide +kernel) rfl (Or.inl rfl) (Or.inr rfl))) (λ_ _ _ _=>fD) (λ_ _ _ _=>(aD (Qb (K:=K) T) hr (ab (aa 0) ad)))))
  (af (mE (i:=5) fj.nd rfl (.inl rfl) rfl (cZ.of (fns:=(ae fS).names) (N:=["_law_script", "_law_pool_here", "_law_numbers", "_law_plans", "_law_tongues", "_law_text", "_law_row", "_law_turners", "_law_writer", "_law_reader", "_law_told", "_law_piece", "_law_data"]) (Nc:=["_law_cell", "_law_pool_here"]) (nv:=1) (caps:=[1]) rfl rfl (by decide +kernel)) (c8 (K:=K) rfl (cD (Yd K) (aa 0) (bU aj) (bU aj))) (λ_ _ _ _=>(bi (i:=0) (show List.Nodup (["_law_cell", "_law_pool_here"]:List Str) by decide +kernel) rfl (Or.inl rfl) (Or.inr rfl))) (λ_ _ _ _=>fD) (λ_ _ _ _=>(aE (Yc K) (aa 1) (az gy (aa 0) (bu (Yb K) T.n_len Yq (ab (aa 1) ad))) (λ_ _=>rfl))))
  (af (aL (aQ (cf (K:=K) rfl hu) (cU (dF (aD (iT (K:=K) T) hr (ab (aa 0) (ab aj ad))))) aj (aS _)) (ag (mE (i:=5) fj.nd rfl (.inl rfl) rfl (cZ.of (fns:=(ae fS).names) (N:=["_law_script", "_law_pool_here", "_law_numbers", "_law_plans", "_law_tongues", "_law_text", "_law_row", "_law_turners", "_law_writer", "_law_reader", "_law_told", "_law_piece", "_law_data"]) (Nc:=["_law_place", "_law_pool_here"]) (nv:=1) (caps:=[1]) rfl rfl (by decide +kernel)) (c8 (K:=K) rfl (aD (Qd (K:=K) T) hr (ab (aa 0) (ab aj (ab (bu (Yb K) T.n_len Yq (ab (aa 1) ad)) (ab aj ad)))))) (λ_ _ _ _=>(bi (i:=0) (show List.Nodup (["_law_place", "_law_pool_here"]:List Str) by decide +kernel) rfl (Or.inl rfl) (Or.inr rfl))) (λ_ _ _ _=>fD) (λ_ _ _ _=>(aE (Yc K) (aa 1) (aa 0) (λ_ _=>rfl))))) aN)
  (af (aP (i:=6) fj.nd rfl (.inl rfl) (aD (vz (K:=K) T) hr (ab (aE (Yc K) (aa 4) aj (λ_ _=>rfl)) (ab (aa 5) ad))))
  (af (aL (dG (fV (aQ (gZ (K:=K) rfl hu) (aa 6) (aD (vy (K:=K) T) hr (ab (aE (Yc K) (aa 3) aj (λ_ _=>rfl)) (ab (aa 5) ad))) (aS _)) (fU (aQ (gZ (K:=K) rfl hu) (aD (Ez (K:=K) T) hr (ab (aE (Yc K) (aa 4) aj (λ_ _=>rfl)) (ab (eV (Ye K) T.n_list Y4 (ab (aa 6) ad)) ad))) (aa 5) (aS _))))) (ag (am dW)) aN)
  (af (aL (eS (dD (aD (Qa (K:=K) T) hr (ab (aa 5) (ab (aE (Yc K) (aR (ab dC (ab dC ad))) (cU (dF (aD (iT (K:=K) T) hr (ab (aa 0) (ab aj ad))))) (λ_ _=>rfl)) ad))))) (ag (am dW)) aN)
  (af (mE (i:=7) fj.nd rfl (.inl rfl) rfl (cZ.of (fns:=(ae fS).names) (N:=["_law_script", "_law_pool_here", "_law_numbers", "_law_plans", "_law_tongues", "_law_text", "_law_row", "_law_turners", "_law_writer", "_law_reader", "_law_told", "_law_piece", "_law_data"]) (Nc:=["_law_k", "_law_tongues"]) (nv:=1) (caps:=[4]) rfl rfl (by decide +kernel)) (nI rfl T.n_range (ab (bu (Yb K) T.n_len Yq (ab (aa 4) ad)) ad)) (λ_ _ _ _=>(bi (i:=0) (show List.Nodup (["_law_k", "_law_tongues"]:List Str) by decide +kernel) rfl (Or.inl rfl) (Or.inr rfl))) (λ_ _ _ _=>fD) (λ_ _ _ _=>(fW (PL (K:=K) T) hr (ab (aE (Yc K) (aa 1) (aa 0) (λ_ _=>rfl)) (ab (aE (Yc K) (aa 1) (az gy (az (Ya K) (aa 0) aj) (bu (Yb K) T.n_len Yq (ab (aa 1) ad))) (λ_ _=>rfl)) ad)))))
  (af (aP (i:=8) fj.nd rfl (.inl rfl) (Dg (PR (K:=K) T) hr))
  (af (aP (i:=9) fj.nd rfl (.inl rfl) (Dg (PU (K:=K) T) hr))
  (af (mE (i:=10) fj.nd rfl (.inl rfl) rfl (cZ.of (fns:=(ae fS).names) (N:=["_law_script", "_law_pool_here", "_law_numbers", "_law_plans", "_law_tongues", "_law_text", "_law_row", "_law_turners", "_law_writer", "_law_reader", "_law_told", "_law_piece", "_law_data"]) (Nc:=["_law_turner"]) (nv:=1) (caps:=[]) rfl rfl (by decide +kernel)) (c8 (K:=K) rfl (aa 7)) (λ_ _ _ _=>(bi (i:=0) (show List.Nodup (["_law_turner"]:List Str) by decide +kernel) rfl (Or.inl rfl) (Or.inr rfl))) (λ_ _ _ _=>fD) (λ_ _ _ _=>(aR ad)))
  (af (cq PassesOwn.never rfl (c8 (K:=K) rfl (aD (P9 (K:=K) T) hr (ab (aa 6) (ab (cD (Yd K) (aa 0) (bU aj) (bU aj)) ad)))) (bi (i:=11) fj.nd rfl (.inl rfl)) (ag (ck (aD (Ew (K:=K) T) hr (ab (cM (EX (K:=K) T) hr (aa 9) (ab (cM (Q5 (K:=K) T) hr (aa 8) (ab (aa 11) ad)) ad)) (ab (aa 7) (ab (aa 10) (ab dW ad))))))))
  (af (aP (i:=12) fj.nd rfl (.inl rfl) (az (Ya K) (cM (EX (K:=K) T) hr (aa 9) (ab (dX (Q6 (K:=K) T) hr (aa 8)) ad)) (dX (Q7 (K:=K) T) hr (aa 9))))
  (af (ck (aD (Ew (K:=K) T) hr (ab (aa 12) (ab (aa 7) (ab (aa 10) (ab dW ad))))))
  (ag (am (gQ (iM hE (dX (Q8 (K:=K) T) hr (aa 9)) ce (aS _)) (gQ (iM (cf (K:=K) rfl hu) (aE (Yc K) (aa 10) (C9 BB aj) (λ_ _=>rfl)) (aa 6) (aS _)) (ii (aD (Qe (K:=K) T) hr (ab (aa 7) (ab (aa 10) (ab (aa 3) (ab (aa 5) ad)))))))))))))))))))))))))),?_⟩
 refine cO λT' eT=>?_;refine⟨a,cs,rfl,ha,λpp ns H1 s1 h1 pg ne=>?_⟩;refine c7 ?_;subst eT
 try dsimp only
 refine cO λT' eT=>?_;refine⟨_,rfl,?_⟩;refine⟨a,cs,13,rfl,s1.seq ha,λH2 s2=>?_⟩;have bZ:=s1.trans s2;refine⟨_,rfl,_,bZ.seq ha,λp3 H3 g3=>?_⟩;obtain⟨z,hz⟩:∃z:Nat,10+cs.getD 13 0%4=9+(z:Int):=⟨(1+cs.getD 13 0%4).toNat,by lia⟩;have e3:cn (cs.map V.int) (some 9) (some (10+cs.getD 13 0%4))=((cs.drop 9).take z).map V.int:=by rw[hz];exact xU cs 9 z
 rw[e3]at g3;refine⟨sz rfl,λp4 H4 g4=>?_⟩;refine⟨_,_,.of (g4.sm _ _ g3.at_),g4.lst,bM (by rw[Yl,Yp,YY];show _+1<=_;lia),λp5 H5 g5=>?_⟩;refine c7 ?_;subst eT
 try dsimp only
 refine cO λT' eT=>?_;have d1:=bZ.trans (g3.sm.trans (g4.sm.trans g5.sm));refine⟨_,rfl,_,g5.lst,λp6 H6 g6=>?_⟩;have e6:((cs.drop 9).take z).map V.int++[V.int 0]=((cs.drop 9).take z++[0]).map V.int:=by simp
 rw[e6]at g6
 replace g6:bc H5 p6 (.lst ((((cs.drop 9).take z++[0]).take 4).map V.int)) H6:=by rw[<- xT];exact g6
 obtain⟨B,b2⟩:∃B,B=((cs.drop 9).take z++[0]).take 4:=⟨_,rfl⟩;have n0:0<B.length:=by rw[b2,Yp,Yo];show 0<min 4 (_+1);lia
 have n4:B.length<=4:=by rw[b2,Yp];lia
 rw[<- b2]at g6;clear b2 e6 e3 hz;have d6:=d1.trans g6.sm;have cK:=s2.trans (g3.sm.trans (g4.sm.trans (g5.sm.trans g6.sm)));have h6:=cK _ _ h1;refine⟨p6,rfl,⟨_,g6.lst⟩,mT (K:=K) (a:=p6) (xs:=B.map V.int) (λi ys I=>ah H6 I/\∃(pl:Nat->Addr) (Df:Nat->Kt),ys=(List.range i).map (λj=>V.ref (pl j))/\∀j<i,eJ I (pl j) (Df j)/\∀n∈ns,bW (Df j) n) ⟨ah.refl _,(λ_=>0),(λ_=>.br),rfl,(λj s=>aab s (Zm _))⟩ (λi ys I hi z=>⟨.of (z.1 _ _ g6.at_),?_⟩) (bM (by rw[Yl];lia)) (λi x ys I N hx z hN=>?_) λys I p7 H7 z g7=>?_⟩
 ·obtain⟨_,pl,Df,rfl,_⟩:=z;rw[fY];exact Ym _
 ·obtain⟨S,pl,Df,rfl,hp⟩:=z;obtain⟨c,hc,rfl⟩:=dz hx;refine⟨c,pp,ns,rfl,S _ _ h6,pg,λp D H4 s4 d8 hI=>?_⟩;refine hN _ _ ⟨S.trans s4,gJ pl i p,gJ Df i D,by rw[qf (g:=V.ref)],λj s=>?_⟩;by_cases e:j=i
  ·rw[e,gH,gH];exact⟨d8,hI⟩
  ·rw[fQ e,fQ e];exact⟨(hp j (by lia)).1.mono s4,(hp j (by lia)).2⟩
 obtain⟨da,pl,D0,rfl,hp⟩:=z;rw[Yl]at hp g7;have db:=da.trans g7.sm;refine c7 ?_;subst eT
 try dsimp only
 refine cO λT' eT=>?_;refine⟨p7,rfl,⟨_,g7.lst⟩,mT (K:=K) (a:=p7) (xs:=(List.range B.length).map λj=>V.ref (pl j)) (λi ys I=>ah H7 I/\∃(o:Nat->Addr) (Df:Nat->Kt),ys=(List.range i).map (λj=>V.ref (o j))/\∀j<i,TN t I (o j) (Df j)/\eJ I (pl j) (Df j)/\∀n∈ns,bW (Df j) n) ⟨ah.refl _,(λ_=>0),(λ_=>.br),rfl,(λj s=>aab s (Zm _))⟩ (λi ys I hi z=>⟨.of (z.1 _ _ g7.at_),?_⟩) (bM (by rw[fY];lia)) (λi x ys I N hx z hN=>?_) λys I p8 H8 z g8=>?_⟩
 ·obtain⟨_,o,Df,rfl,_⟩:=z;rw[fY];exact Ym _
 ·obtain⟨S,o,Df,rfl,ht⟩:=z;have li:i<B.length:=by have:=(Yr.mp hx).1;simpa using this
  rw[fT li]at hx;cases hx;refine⟨pl i,D0 i,rfl,(hp i li).1.mono (g7.sm.trans S),λq D H4 s4 tn ke kI=>?_⟩;refine hN _ _ ⟨S.trans s4,gJ o i q,gJ Df i D,by rw[qf (g:=V.ref)],λj s=>?_⟩;by_cases e:j=i
  ·rw[e,gH,gH];exact⟨tn,ke _ ((hp i li).1.mono (g7.sm.trans (S.trans s4))),λn W=>kI n ((hp i li).2 n W)⟩
  ·rw[fQ e,fQ e];obtain⟨a1,a2,a3⟩:=ht j (by lia);exact⟨a1.mono s4,a2.mono s4,a3⟩
 obtain⟨bT,o,Df,rfl,ht⟩:=z;rw[fY]at ht g8;have c5:=db.trans (bT.trans g8.sm);have h8:=c5 _ _ h6;have b4:=d6.trans c5;have ln:0<ns.length:=List.length_pos_iff.mpr ne;have l8:=pg.2.2;refine c7 ?_;subst eT
 try dsimp only
 refine cO λT' eT=>?_;refine⟨_,rfl,_,rfl,_,b4.seq ha,λp9 H9 g9=>?_⟩;have e9:cn (cs.map V.int) (some 13) (some 150)=((cs.drop 13).take 137).map V.int:=xU cs 13 137;rw[e9]at g9;obtain⟨cl,bb⟩:∃cl,cl=(cs.drop 13).take 137:=⟨_,rfl⟩;have et:cl.length<=63:=by rw[bb,Yp,YY];lia
 rw[<- bb]at g9;have h9:=g9.sm _ _ h8;have b7:∀ {j:Int} {v:Int},0<=j->j<ns.length->∃v,v∈ns/\cv (ns.map V.int) j=some (.int v):=λ{j v} j0 j1=>by
  obtain⟨k,rfl⟩:∃k:Nat,j=k:=⟨j.toNat,by lia⟩;have lk:k<ns.length:=by lia
  exact⟨ns[k],a0l lk,ba (by rw[Yt,YM lk];rfl)⟩
 refine⟨p9,rfl,⟨_,g9.lst⟩,mT (K:=K) (a:=p9) (xs:=cl.map V.int) (λi ys I=>ah H9 I/\∃us:f6,ys=us.map V.int/\us.length=i/\∀n∈us,n∈ns) ⟨ah.refl _,[],rfl,rfl,(λ_ h=>nomatch h)⟩ (λi ys I hi z=>⟨.of (z.1 _ _ g9.at_),?_⟩) (bM (by rw[Yl];lia)) (λi x ys I N hx z hN=>?_) λys I pA HA z gA=>?_⟩
 ·obtain⟨_,us,rfl,lu,_⟩:=z;rw[Yl];lia
 ·obtain⟨S,us,rfl,lu,a7⟩:=z;obtain⟨c,hc,rfl⟩:=dz hx;refine⟨_,.inl (.of (S _ _ h9)),?_⟩;refine⟨by show (0:Int)<((ns.map V.int).length:Int);rw[Yl];lia,?_⟩;obtain⟨v,vm,hv⟩:=b7 (j:=c%((ns.map V.int).length:Int)) (v:=0) (ZK _ (by rw[Yl];lia)) (by rw[Yl];exact ZL _ (by lia));refine⟨_,_,.inl (.of (S _ _ h9)),hv,?_⟩;refine hN _ _ ⟨S,us++[v],by rw[Yw];rfl,by rw[Yo];show _+1=_;lia,λn W=>?_⟩;rcases Yx.mp W with y|y
  ·exact a7 n y
  ·rw[YH.mp y];exact vm
 obtain⟨dv,us,rfl,bv,a7⟩:=z;rw[Yl]at bv;have cd:=g9.sm.trans (dv.trans gA.sm);refine c7 ?_;subst eT
 try dsimp only
 refine cO λT' eT=>?_;refine iJ (t:=iG _ _ _) (λσ' I=>∃(px:Addr) (ts:f6),ah H8 I/\I px=some (.lst (ts.map V.int))/\ts.length<=63/\(∀n∈ts,n∈ns)/\σ'=[some (.ref a),some (.ref pp),some (.ref p5),some (.ref p7),some (.ref p8),some (.ref px),none,none,none,none,none,none,none]) (λnx W=>?_) ?_
 ·refine⟨a,cs,0,rfl,(b4.trans cd).seq ha,λHB sB=>?_⟩;have J:=cd.trans sB;refine ao (λe=>?_) (λe=>?_)
  ·refine⟨_,.inl (.of (J _ _ h8)),?_⟩;refine⟨a,cs,13,(ns.map V.int).length,60,rfl,(b4.trans J).seq ha,by rw[Yl];exact ln,by rw[Yl];lia,by decide,λpd ds HC sC hd ld dd=>?_⟩;have hC:=sC _ _ (J _ _ h8);refine⟨pd,rfl,⟨_,.of hd⟩,mT (K:=K) (a:=pd) (xs:=ds.map V.int) (λi ys I=>ah HC I/\∃us:f6,ys=us.map V.int/\us.length=i/\∀n∈us,n∈ns) ⟨ah.refl _,[],rfl,rfl,(λ_ h=>nomatch h)⟩ (λi ys I hi z=>⟨.of (z.1 _ _ hd),?_⟩) (bM (by rw[Yl];lia)) (λi x ys I N hx z hN=>?_) λys I pE HE z gE=>?_⟩
   ·obtain⟨_,us,rfl,lu,_⟩:=z;rw[Yl];lia
   ·obtain⟨S,us,rfl,lu,a7⟩:=z;obtain⟨c,hc,rfl⟩:=dz hx;have bG:=dd c (YD hc);rw[Yl]at bG;obtain⟨v,vm,hv⟩:=b7 (v:=0) bG.1 bG.2;refine⟨_,_,.inl (.of (S _ _ hC)),hv,?_⟩;refine hN _ _ ⟨S,us++[v],by rw[Yw];rfl,by rw[Yo];show _+1=_;lia,λn W=>?_⟩;rcases Yx.mp W with y|y
    ·exact a7 n y
    ·rw[YH.mp y];exact vm
   obtain⟨cY,us,rfl,bv,a7⟩:=z;rw[Yl]at bv;exact W _ _ ⟨pE,us,J.trans (sC.trans (cY.trans gE.sm)),gE.at_,by lia,a7,rfl⟩
  ·exact W _ _ ⟨pA,us,J,sB _ _ gA.at_,by lia,a7,rfl⟩
 rintro σ' HB ⟨px,ts,J,hx,lt,cx,rfl⟩;subst eT
 try dsimp only
 refine cO λT' eT=>?_;have cm:=b4.trans J;have htB:∀j<B.length,TN t HB (o j) (Df j)/\eJ HB (pl j) (Df j)/\∀n∈ts,bW (Df j) n:=λj s=>by
  obtain⟨a1,a2,a3⟩:=ht j s;exact⟨a1.mono (g8.sm.trans J),a2.mono (g8.sm.trans J),λn W=>a3 n (cx n W)⟩
 have aX:∀n∈ts,Sg n:=λn W=>pg.1 n (cx n W);have bm:=J _ _ g8.at_;have c6:=J _ _ (g8.sm _ _ (bT _ _ g7.at_));obtain⟨bt,dK,bd⟩:=htB 0 n0;refine⟨_,.ref (o 0),.inl (.of bm),ba (fT n0),?_⟩;refine⟨o 0,px,Df 0,ts,rfl,bt,.of hx,by lia,λn W=>⟨aX n W,bd n W⟩,λpr HC _ sC hr=>?_⟩;refine c7 ?_;subst eT
 try dsimp only
 refine cO λT' eT=>?_;refine⟨_,.ref (pl 0),.inl (.of (sC _ _ c6)),ba (fT n0),?_⟩;refine⟨pl 0,px,Df 0,ts,rfl,dK.mono sC,bt.ok,sC _ _ hx,bd,by lia,λq2 HD sD cJ=>?_⟩;have sBD:=sC.trans sD;refine⟨_,_,aO.lst (.of (sD _ _ hr)) (cu.ints _),aO.lst (.of cJ) (cu.ints _),YQ _,YQ _,?_⟩;refine ao (λe=>aab e (nQ _)) (λ_=>?_);refine⟨_,.ref (o 0),.inl (.of (sBD _ _ bm)),ba (fT n0),?_⟩;refine⟨_,.inl (.of (sD _ _ hr)),λp3 HE gE=>?_⟩;refine⟨o 0,p3,Df 0,ts,rfl,bt.mono (sBD.trans gE.sm),bd,by lia,gE.lst,λq3 HF sF _ cV=>?_⟩;have sDF:=gE.sm.trans sF;have sBF:=sBD.trans sDF;refine⟨_,_,aO.lst (.of cV) (cu.ints _),aO.lst (.of (sBF _ _ hx)) (cu.ints _),YQ _,YQ _,?_⟩;refine ao (λe=>aab e (nQ _)) (λ_=>?_);unfold nh;subst eT
 try dsimp only
 refine cO λT' eT=>?_;refine⟨sz rfl,λp4 HG gG=>?_⟩;refine⟨a,cs,0,rfl,(cm.trans (sBF.trans gG.sm)).seq ha,λHI sI=>?_⟩;obtain⟨b,eb⟩:∃b,cv [V.str "high",.str "low"] (cs.getD 0 0/8%2)=some (.str (cr b)):=by
  rcases (show cs.getD 0 0/8%2=0\/cs.getD 0 0/8%2=1 by lia) with e|e<;>rw[e]
  ·exact⟨true,rfl⟩
  ·exact⟨false,rfl⟩
 refine⟨_,_,.inl (.of (sI _ _ gG.at_)),eb,?_⟩;have sFI:=gG.sm.trans sI;refine⟨px,b,ts,rfl,sFI _ _ (sBF _ _ hx),by lia,aX,λHJ sJ=>?_⟩;refine ao (λe=>aab (show (!true)=true from e) (by decide)) (λ_=>?_);have sBJ:=sBF.trans (sFI.trans sJ);have hrJ:=sJ _ _ (sFI _ _ (sDF _ _ (sD _ _ hr)));have htJ:∀j<B.length,TN t HJ (o j) (Df j)/\eJ HJ (pl j) (Df j)/\∀n∈ts,bW (Df j) n:=λj s=>⟨(htB j s).1.mono sBJ,(htB j s).2.1.mono sBJ,(htB j s).2.2⟩;have hxJ:=sBJ _ _ hx;have dc:=sBJ _ _ c6;have ci:=sBJ _ _ bm;have cT:=cm.trans sBJ;unfold nh;subst eT
 try dsimp only
 refine cO λT' eT=>?_;refine⟨_,.inl (.of ci),?_⟩;refine⟨B.length,by rw[fY],by lia,by lia,FI (lo:=0) (n:=B.length) (λi ys I=>ah HJ I/\∃X:Nat->Ts,ys=(List.range i).map (λj=>V.ref (X j).a.x)/\(∀j<i,ib t HJ I (Df j) (Df ((j+1)%B.length)) ts (o j) (o ((j+1)%B.length)) (X j))/\∀l<i,∀j<i,l≠j->∀c∈eE (X l).a (X l).b,c∉eE (X j).a (X j).b) ⟨ah.refl _,(λ_=>⟨⟨0,0,0,0,0,0,0,0,0,0,0,0⟩,0,0,0,0,false⟩),rfl,(λj s=>aab s (Zm _)),(λj s=>aab s (Zm _))⟩ (λi ys I hi z=>?_) (YK n4 (by decide)) (λi ys I N li z hN=>?_) λys I pT HK z gK=>?_⟩
 ·obtain⟨_,X,rfl,_⟩:=z;rw[fY];exact Ym _
 ·obtain⟨S,X,rfl,mk,dis⟩:=z;have bl:=S _ _ ci;refine⟨_,.ref (o i),.inl (.of bl),by rw[Zq];exact ba (fT li),?_⟩;refine⟨_,.inl (.of bl),?_⟩;refine⟨by show (0:Int)<(((List.range B.length).map λj=>V.ref (o j)).length:Int);rw[fY];lia,?_⟩;have lj:(i+1)%B.length<B.length:=Z6 _ n0;refine⟨_,.ref (o ((i+1)%B.length)),.inl (.of bl),?_,?_⟩
  ·rw[fY,show (0+(i:Int)+1)%(B.length:Int)=(((i+1)%B.length:Nat):Int) by rw[a0r,Zn,Zq];rfl];exact ba (fT lj)
  refine λx dx hx dq eu=>?_;have sm:=fR (C:=t.cg) hx dq;refine⟨HJ,x,dx,o i,o ((i+1)%B.length),Df i,Df ((i+1)%B.length),rfl,aJ,(htJ i li).1,(htJ _ lj).1,S.trans sm,S.free hx,λa1 b1 H4 ex kp f5 f3 eo du dm=>⟨rfl,?_⟩⟩;have s4:ah I H4:=λc v e=>kp c v (aI e hx) (sm c v e);have f8:∀c∈eE a1 b1,I c=none:=λc hc=>by
   rcases Yx.mp hc with z|z
   ·rcases f5 c z with rfl|y
    ·exact hx
    ·exact sm.free y
   ·exact sm.free (f3 c z)
  have mk':ib t HJ H4 (Df i) (Df ((i+1)%B.length)) ts (o i) (o ((i+1)%B.length)) ⟨a1,b1,0,0,0,false⟩:=⟨⟨_,dm ts (htJ i li).2.2 (λn W=>⟨aX n W,(htJ _ lj).2.2 n W⟩) (by lia)⟩,⟨rfl,rfl,rfl⟩,eo,du,λc hc=>S.free (f8 c hc)⟩;have ca:∀j<i,∀c∈eE (X j).a (X j).b,c∉eE a1 b1:=λj s c hc z=>by
   obtain⟨v,hv⟩:=(mk j s).some8 c hc;rw[f8 c z]at hv;cases hv
  refine hN _ _ ⟨S.trans s4,gJ X i ⟨a1,b1,0,0,0,false⟩,?_,Bx (R:=λj x=>ib t HJ H4 (Df j) (Df ((j+1)%B.length)) ts (o j) (o ((j+1)%B.length)) x) (λj s=>(mk j s).grow s4) mk',λl hl j s ne c hc=>?_⟩
  ·rw[qf (g:=λy:Ts=>V.ref y.a.x)];show _=_++[V.ref a1.x];rw[ex]
  ·by_cases el:l=i
   ·have ej:j≠i:=λz=>ne (el.trans z.symm);rw[el,gH]at hc;rw[fQ ej];exact λz=>ca j (by lia) c z hc
   ·rw[fQ el]at hc;by_cases ej:j=i
    ·rw[ej,gH];exact ca l (by lia) c hc
    ·rw[fQ ej];exact dis l (by lia) j (by lia) ne c hc
 obtain⟨cR,X,rfl,mk,dis⟩:=z;have sJK:=cR.trans gK.sm;have mkK:∀j<B.length,ib t HJ HK (Df j) (Df ((j+1)%B.length)) ts (o j) (o ((j+1)%B.length)) (X j):=λj s=>(mk j s).grow gK.sm;have nT:∀j<B.length,pT∉eE (X j).a (X j).b:=λj s z=>by
  obtain⟨v,hv⟩:=(mk j s).some8 _ z;rw[gK.nw]at hv;cases hv
 have hT:=gK.at_;refine c7 ?_;subst eT
 try dsimp only
 refine cO λT' eT=>?_;refine λaw dw hw cL _=>?_;have c9:=fR (C:=t.dN) hw cL;refine⟨aw,dw,rfl,aJ,λcj HL bQ eL cH hwL hpL=>⟨rfl,?_⟩⟩;have sKL:ah HK HL:=λc v e=>cH c v (aI e hw) (c9 c v e);refine c7 ?_;subst eT
 try dsimp only
 refine cO λT' eT=>?_;refine λar dr au cQ _=>?_;have bN:=fR (C:=t.cW) au cQ;refine⟨ar,dr,rfl,aJ,λc2 HM ch cI hrM hqM=>⟨rfl,?_⟩⟩;have sLM:ah HL HM:=λc v e=>cI c v (aI e au) (bN c v e);have sKM:=sKL.trans sLM;have hwM:=sLM _ _ hwL;have hTM:=sKM _ _ hT;refine c7 ?_;subst eT
 try dsimp only
 refine cO λT' eT=>?_;refine⟨pT,rfl,⟨_,.of hTM⟩,mT (K:=K) (a:=pT) (xs:=(List.range B.length).map λj=>V.ref (X j).a.x) (λi ys I=>ah HM I/\∃td:Nat->Addr,ys=(List.range i).map (λj=>V.ref (td j))/\(∀j<i,I (td j)=some (.lst [])/\HM (td j)=none)/\∀l<i,∀j<i,l≠j->td l≠td j) ⟨ah.refl _,(λ_=>0),rfl,(λj s=>aab s (Zm _)),(λj s=>aab s (Zm _))⟩ (λi ys I hi z=>⟨.of (z.1 _ _ hTM),?_⟩) (bM (by rw[fY];lia)) (λi x ys I N eI z hN=>?_) λys I pD HN z gN=>?_⟩
 ·obtain⟨_,td,rfl,_⟩:=z;rw[fY];exact Ym _
 ·obtain⟨S,td,rfl,hd,nd⟩:=z;refine⟨sz rfl,λp H4 g4=>hN _ _ ⟨S.trans g4.sm,gJ td i p,by rw[qf (g:=V.ref)],Bx (R:=λj x=>H4 x=some (.lst [])/\HM x=none) (λj s=>⟨g4.sm _ _ (hd j s).1,(hd j s).2⟩) ⟨g4.at_,S.free g4.nw⟩,λl hl j s ne=>?_⟩⟩;by_cases el:l=i
  ·have ej:j≠i:=λz=>ne (el.trans z.symm);rw[el,gH,fQ ej];exact (aI (hd j (by lia)).1 g4.nw).symm
  ·rw[fQ el];by_cases ej:j=i
   ·rw[ej,gH];exact aI (hd l (by lia)).1 g4.nw
   ·rw[fQ ej];exact nd l (by lia) j (by lia) ne
 obtain⟨co,td,rfl,Y,bV⟩:=z;rw[fY]at Y bV gN;have sMN:=co.trans gN.sm;refine c7 ?_;subst eT
 try dsimp only
 refine cO λT' eT=>?_;have sKN:=sKM.trans sMN;have sJN:=sJK.trans sKN;have dj:=cT.trans sJN;refine⟨_,rfl,_,rfl,_,dj.seq ha,λpc HZ gO=>?_⟩;rw[e9,<- bb]at gO;have hrO:=gO.sm _ _ (sJN _ _ hrJ);refine⟨pr,pc,(ap (Df 0) 0 ts).1,cl,rfl,.of hrO,gO.lst,by lia,λpP L HP sP nP hP fr ndP fl ll=>?_⟩;have sKO:=sKN.trans gO.sm;have sMO:=sMN.trans gO.sm;have sJO:=sJN.trans gO.sm;have sJP:=sJO.trans sP;have wTd:∀j<B.length,HZ (td j)=some (.lst []):=λj s=>gO.sm _ _ (gN.sm _ _ (Y j s).1);have hwO:=sMO _ _ hwM;have hrdO:=sMO _ _ hrM;have dP:∀j<B.length,∀c∈eE (X j).a (X j).b,∃v,HK c=some v:=λj s=>(mkK j s).some8;have aW:∀ {c:Addr},HK c=none->∀j<B.length,c∉eE (X j).a (X j).b:=λ{c} e j s z=>by
  obtain⟨v,hv⟩:=dP j s c z;rw[e]at hv;cases hv
 have hJw:HJ aw=none:=sJK.free hw;have hLr:=sKL.free au;have hJr:HJ ar=none:=sJK.free hLr;have hKt:∀j<B.length,HK (td j)=none:=λj s=>sKM.free (Y j s).2;obtain⟨Hc,eHc⟩:∃Hc,Hc=wo HP (ip B.length X td aw ar):=⟨_,rfl⟩;obtain⟨sJc,cc⟩:=IU (t:=t) (HJ:=HJ) (H:=HP) (ts:=ts) (Df:=Df) (os:=o) (X:=X) (td:=td) (aw:=aw) (ar:=ar) n0 (λj s=>(mkK j s).grow (sKO.trans sP)) dis (λj s=>(htJ j s).1) sJP (λj s=>⟨sJK.free (hKt j s),aW (hKt j s)⟩) ⟨hJw,aW hw⟩ ⟨hJr,aW hLr⟩;rw[<- eHc]at sJc cc;have aG:∀ {c:Addr},HK c=none->gh B.length X c:=λ{c} e j s z=>aW e j s (mO z);have inO:∀ {c:Addr} {v:HO},HZ c=none->HP c=some v->Hc c=some v:=λ{c v} e h=>by
  rw[eHc];exact eM (nS (aG (sKO.free e)) (λj s z=>by rw[z,wTd j s]at e;cases e) (λz=>by rw[z,hwO]at e;cases e) (λz=>by rw[z,hrdO]at e;cases e)) h
 have dt:HN pD=some (.lst ((List.range B.length).map λj=>V.ref (td j))):=gN.at_;have hcT:Hc pT=some (.lst ((List.range B.length).map λj=>V.ref (X j).a.x)):=by
  rw[eHc];refine eM (nS (λj s z=>nT j s (mO z)) (λj s z=>?_) (λz=>?_) (λz=>?_)) (sP _ _ (sKO _ _ hT))
  ·have:=hKt j s;rw[<- z,hT]at this;cases this
  ·rw[<- z,hT]at hw;cases hw
  ·rw[<- z,hT]at hLr;cases hLr
 have hcD:Hc pD=some (.lst ((List.range B.length).map λj=>V.ref (td j))):=by
  have nMD:HM pD=none:=co.free gN.nw;rw[eHc];refine eM (nS (aG (sKM.free nMD)) (λj s z=>?_) (λz=>?_) (λz=>?_)) (sP _ _ (gO.sm _ _ dt))
  ·have:=gN.nw;rw[z,(Y j s).1]at this;cases this
  ·rw[z,hwM]at nMD;cases nMD
  ·rw[z,hrM]at nMD;cases nMD
 have dl:Gk Hc B.length td:=⟨λj s=>by rw[eHc];exact dA (NM s),bV⟩;have bP:Hc aw=none:=by rw[eHc];exact dA (by simp[ip])
 have bD:Hc ar=none:=by rw[eHc];exact dA (by simp[ip])
 have bO:∀j<B.length,aw≠td j:=λj s z=>by have:=(Y j s).2;rw[<- z,hwM]at this;cases this
 have bs:∀j<B.length,ar≠td j:=λj s z=>by have:=(Y j s).2;rw[<- z,hrM]at this;cases this
 have bk:aw≠ar:=λz=>by rw[<- z,hwL]at au;cases au
 have dJ:hX Hc HP B.length Df ts td X:=⟨λj s=>by rw[(mkK j s).z.2.1];exact sP _ _ (wTd j s),λj s=>aG (hKt j s)⟩;have hRb:L2.Byts (ap (Df 0) 0 ts).1:=by
  have:=Bq (htJ 0 n0).1 (htJ 0 n0).2.2 aX ts.length (Ym _);rw[Yy]at this;exact this
 have lR:(ap (Df 0) 0 ts).1.length<=600:=by
  have:=(gk (htJ 0 n0).1.ok (ik _) ts.length ts (jD (htJ 0 n0).2.2 _)).2;rw[Yy]at this;lia
 have dk:Lp t Hc HP B.length Df ts td X X aw dw ar dr cj c2 0 [] []:=by
  have oL:∀ {c:Addr} {v:HO},HL c=some v->HK c=none->Ou HP B.length td X c v:=λ{c v} e f=>⟨sP _ _ (sMO _ _ (sLM _ _ e)),aG f,λj s z=>by have:=(Y j s).2;rw[<- z,sLM _ _ e]at this;cases this⟩;have oM:∀ {c:Addr} {v:HO},HM c=some v->HL c=none->Ou HP B.length td X c v:=λ{c v} e f=>⟨sP _ _ (sMO _ _ e),aG (sKL.free f),λj s z=>by have:=(Y j s).2;rw[<- z,e]at this;cases this⟩;refine⟨cc,λj s=>⟨rfl,(mkK j s).z.2.2,?_⟩,dJ,oL hwL hw,oL hpL (c9.free bQ),oM hrM au,oM hqM (bN.free ch)⟩;rw[(mkK j s).z.1];cases j with
  | zero=>rfl
  | succ j=>show 0=(ap _ 0 (ts.take (X j).k)).1.length;rw[(mkK j (by lia)).z.2.1];rfl
 obtain⟨R,hR⟩:∃R,R=(ap (Df 0) 0 ts).1:=⟨_,rfl⟩;rw[<- hR]at hRb lR fl;have hcP:Hc pP=some (.lst (L.map λx=>V.ref x.1)):=inO nP hP.1;have hcL:∀(i:Nat) z,L[i]? = some z->Hc z.1=some (.lst (z.2.map V.int)):=λi z hz=>inO (fr z (YD hz)) (hP.2 z (YD hz)).2;have ni:∀ {c d:Addr} {l:List V} {C dx:Addr} {fs:List (Str × V)} {G:Hp},G c=some (.lst l)->G d=some (.ins C dx fs)->c≠d:=λe f z=>by rw[z,f]at e;cases e
 have lD:(bo R).length<=1000:=by rw[mS,bf];lia
 refine⟨pP,rfl,⟨_,.of hP.1⟩,iy (K:=K) (a:=pP) (xs:=L.map λx=>V.ref x.1) (λi σ I=>∃(X':Nat->Ts) (qw qr:Addr) (m:Int) (bE:Option V),Lp t Hc I B.length Df ts td X X' aw dw ar dr qw qr m (flt (L.take i)) (dg R (flt (L.take i)).length)/\σ=[some (.ref a),some (.ref pp),some (.ref p5),some (.ref p7),some (.ref p8),some (.ref px),some (.ref pr),some (.ref pT),some (.ref aw),some (.ref ar),some (.ref pD),bE,none])
  ⟨X,cj,c2,0,_,by rw[show flt (L.take 0)=[] from rfl,show dg R ([]:f6).length=[] by simp[dg]];exact dk,rfl⟩ (λi σ I _ z=>by obtain⟨X',_,_,_,_,F,_⟩:=z;exact .of (F.al.same n0 _ _ hcP)) ?_ ?_⟩
 ·rintro i v σ H2 hv ⟨X',qw,qr,m,bE,F,rfl⟩;rw[Yt]at hv;obtain⟨z,hz,rfl⟩:=Zk.mp hv;have dI:flt (L.take (i+1))=flt (L.take i)++z.2:=by rw[de hz];exact vT _ _ _
  have eR:R=flt (L.take i)++z.2++flt (L.drop (i+1)):=by rw[<- fl,SG hz,YU]
  rw[dI];generalize flt (L.take i)=r at F eR ⊢;obtain⟨y,ey,el,dy⟩:=SK hRb eR;have O:=xH R r.length;have e4:bo R=dg R r.length++y++(bo R).drop (8*(r++z.2).length/6):=by rw[<- ey];exact (YV _ _).symm
  have ly:y.length<=1000:=by
   have:=congrArg List.length e4;rw[Yo,Yo]at this;lia
  have lr:r.length<=600/\z.2.length<=600:=by
   have:=congrArg List.length eR;rw[Yo,Yo]at this;lia
  rw[ey];generalize dg R r.length=x at F O e4 ⊢;have s2:=F.al.same n0;refine⟨ar,dr,_,rfl,F.r.1,rfl,?_⟩;refine⟨aw,dw,_,rfl,F.w.1,rfl,?_⟩;refine⟨aw,dw,qw,z.1,rfl,.inr ⟨r,z.2,F.w.1,.of F.wr.1,.of (s2 _ _ (hcL i z hz)),λb hb=>hRb b (by rw[eR];simp[hb]),λb hb=>hRb b (by rw[eR];simp[hb]),by lia,by lia,λpq po H3 dO dH _ _ _ U h3 c3 aC=>?_⟩⟩;rw[el]at aC;have aq:=F.al.kp U F.w.2.1 bP (λu e=>by rw[F.w.1]at e;cases e);have ax:=F.tl.kp bO U;have r3:=F.r.kp bk.symm U;have bp:=F.rr.kp (ni F.rr.1 F.w.1) U;refine⟨ar,dr,qr,po,m,x,y,rfl,r3.1,bp.1,aC,O,dy,by lia,λav c1 H4 b8 aB _ ai h4 an ak=>?_⟩;have bF:=aq.kp ai r3.2.1 bD (λu e=>by rw[r3.1]at e;cases e);have bw:=ax.kp bs ai;have w4:Ou H4 B.length td X' aw (Lw.Wr t dw pq false):=Ou.kp ⟨h3,F.w.2⟩ bk ai;have cS:=(Ou.new F.al F.tl dO c3).kp (ni c3 r3.1) ai;have r4:Ou H4 B.length td X' ar (Lr.Rd t dr av (m+(y.length:Int)) .non false):=⟨h4,r3.2⟩;have dM:=Ou.new aq ax b8 an;have d4:=Ou.new aq ax aB ak;refine⟨Hc,B.length,Df,ts,_,td,X',(bh x).length,c1,pT,pD,false,rfl,bF,n0,n4,by lia,λj s=>(F.he j s).2,dl,bw,by rw[uL λj s=>(F.he j s).1];exact hcT,hcD,d4,by rw[<- hR];exact BK hRb O dy e4,(λe=>by cases e),λX2 H5 b3 bq aK aZ=>?_⟩;rw[pN O dy]at bq;exact⟨X2,pq,av,_,_,⟨b3,λj s=>⟨(bq j s).1.trans (F.he j s).1,(bq j s).2⟩,aK,aZ _ _ w4,aZ _ _ cS,aZ _ _ r4,aZ _ _ dM⟩,rfl⟩
 ·rintro σ H2 ⟨X',qw,qr,m,bE,F,rfl⟩;rw[Yl,Yy,fl]at F;subst eT
  try dsimp only
  refine cO λT' eT=>?_;obtain⟨y,ey,el,dy⟩:=SS hRb;have O:=xH R R.length;have ly:y.length<=1000:=by
   have:=congrArg List.length ey;rw[Yo]at this;lia
  generalize dg R R.length=x at F O ey;refine⟨ar,dr,_,rfl,F.r.1,rfl,?_⟩;refine⟨aw,dw,_,rfl,F.w.1,rfl,?_⟩;refine⟨aw,dw,qw,rfl,.inr ⟨R,F.w.1,.of F.wr.1,ni F.wr.1 F.w.1,hRb,λpo H3 dH _ U h3 aC=>?_⟩⟩;rw[el]at aC;have aq:=F.al.kp U F.w.2.1 bP (λu e=>by rw[F.w.1]at e;cases e);have ax:=F.tl.kp bO U;have r3:=F.r.kp bk.symm U;have bp:=F.rr.kp (ni F.rr.1 F.w.1) U;refine⟨ar,dr,qr,po,m,x,y,rfl,r3.1,bp.1,aC,O,dy,by lia,λav c1 H4 b8 aB _ ai h4 an ak=>?_⟩;rw[<- ey]at an;have bF:=aq.kp ai r3.2.1 bD (λu e=>by rw[r3.1]at e;cases e);have bw:=ax.kp bs ai;have d4:=Ou.new aq ax aB ak;refine⟨ar,dr,_,rfl,h4,rfl,?_⟩;refine⟨ar,dr,av,_,bo R,rfl,h4,an,λb hb=>iY hb,IN hRb,λeD H5 dR bB h5 bY=>?_⟩;have b3:=bF.kp bB r3.2.1 bD (λu e=>by rw[h4]at e;cases e);have aK:=bw.kp bs bB;have d5:=d4.kp (ni ak h4) bB;have ld:((bh (be x++y)).drop (bh (be x)).length).length<=600:=by
   have:=pN O dy;rw[<- ey,m8 hRb]at this;lia
  refine⟨_,_,.of d5.1,.of bY,bM (by rw[Yl];show _+0<=_;lia),λpd H6 g6=>?_⟩;rw[Y8]at g6;have dp:hX Hc H6 B.length Df ts td X':=⟨λj s=>g6.sm _ _ (aK.h j s),aK.f⟩;have cG:Ou H6 B.length td X' ar (Lr.Rd t dr av _ .non true):=⟨g6.sm _ _ h5,r3.2⟩;refine c7 ?_;subst eT
  try dsimp only
  refine cO λT' eT=>?_;refine⟨Hc,B.length,Df,ts,_,td,X',(bh x).length,pd,pT,pD,true,rfl,b3.grow g6.sm,n0,n4,by lia,λj s=>(F.he j s).2,dl,dp,by rw[uL λj s=>(F.he j s).1];exact hcT,hcD,Ou.new b3 aK g6.nw g6.at_,by rw[<- hR];exact BK hRb O dy (z:=[]) (by rw[Y8];exact ey),(λ_=>by rw[pN O dy,<- ey,m8 hRb,hR]),λX2 H7 bj bx dL d3=>?_⟩;rw[pN O dy,<- ey,m8 hRb]at bx;subst eT
  try dsimp only
  have fu:∀j<B.length,(X2 j).k=ts.length:=λj s=>(vS bj (M:=R.length) (by rw[hR]) j s λl hl=>(bx l (by lia)).2.2).1;have s7:=bj.same n0;have eX:∀j<B.length,(X2 j).a=(X j).a:=λj s=>(bx j s).1.trans (F.he j s).1;have cp:∀j<B.length,H7 (td j)=some (.lst ((ap (Df ((j+1)%B.length)) 0 ts).1.map V.int)):=λj s=>by
   have:=dL.h j s;rw[fu j s,Yy]at this;exact this
  have ct:=(d3 _ _ cG).1;refine⟨ar,dr,_,rfl,ct,rfl,?_⟩;refine⟨ar,dr,av,_,.non,true,rfl,ct,?_⟩;dsimp only [tC];refine Pz ?_;refine ao (λ_=>?_) (λe=>aab rfl e);refine⟨_,.ref (td (B.length-1)),.inl (.of (s7 _ _ hcD)),VV n0,?_⟩;have tz:=cp (B.length-1) (by lia);rw[show B.length-1+1=B.length by lia,Nat.mod_self]at tz;refine⟨_,_,aO.lst (.of tz) (cu.ints _),aO.lst (.of (s7 _ _ (sJc _ _ hrJ))) (cu.ints _),YQ _,YQ _,?_⟩;refine ao (λ_=>?_) (λe=>aab (xF _) e);exact⟨Hc,B.length,Df,ts,td,pl,X2,pT,pD,p7,px,rfl,bj,n0,by lia,by rw[uL eX];exact hcT,hcD,sJc _ _ dc,λj s=>(htJ j s).2.1.mono sJc,sJc _ _ hxJ,cp,λH8 _=>k _⟩
end
end My
namespace My
open PySem L2
theorem Pb{Pm:List Value->Prop}(h:∀_:Unit,Pm []):∀us:List Value,us.length=0->Pm us
 | [],_=>h ()
theorem bC{Pm:List Value->Prop}(h:∀a,Pm [a]):∀us:List Value,us.length=1->Pm us
 | a::us,e=>Pb (Pm:=λus=>Pm (a::us)) (λ_=>h a) us (Z7 e)
theorem bB{Pm:List Value->Prop}(h:∀a b,Pm [a,b]):∀us:List Value,us.length=2->Pm us
 | a::us,e=>bC (Pm:=λus=>Pm (a::us)) (λb=>h a b) us (Z7 e)
theorem cz{Pm:List Value->Prop}(h:∀a c b,Pm [a,c,b]):∀us:List Value,us.length=3->Pm us
 | a::us,e=>bB (Pm:=λus=>Pm (a::us)) (λc b=>h a c b) us (Z7 e)
theorem nV{Pm:List Value->Prop}(h:∀a d b c,Pm [a,d,b,c]):∀us:List Value,us.length=4->Pm us
 | a::us,e=>cz (Pm:=λus=>Pm (a::us)) (λd b c=>h a d b c) us (Z7 e)
theorem Pa{Pm:List Value->Prop}(h:∀a b f d c,Pm [a,b,f,d,c]):∀us:List Value,us.length=5->Pm us
 | a::us,e=>nV (Pm:=λus=>Pm (a::us)) (λb f d c=>h a b f d c) us (Z7 e)
def Yg{Pm:List Value->Prop}{ds:List Value}{ps:List Str}(h:∀x0 x1,Pm [x0,x1])(e:ps.length=2+ds.length:=by rfl):∀us:List Value,(us++ds).length=ps.length->Pm us:=λus hl=>by
 have hm:us.length=2:=(by rw[Yo,e]at hl;omega);exact bB h us hm
def Yh{Pm:List Value->Prop}{ds:List Value}{ps:List Str}(h:∀x0 x1 x2,Pm [x0,x1,x2])(e:ps.length=3+ds.length:=by rfl):∀us:List Value,(us++ds).length=ps.length->Pm us:=λus hl=>by
 have hm:us.length=3:=(by rw[Yo,e]at hl;omega);exact cz h us hm
def Yi{Pm:List Value->Prop}{ds:List Value}{ps:List Str}(h:∀x0 x1 x2 x3,Pm [x0,x1,x2,x3])(e:ps.length=4+ds.length:=by rfl):∀us:List Value,(us++ds).length=ps.length->Pm us:=λus hl=>by
 have hm:us.length=4:=(by rw[Yo,e]at hl;omega);exact nV h us hm
def Yj{Pm:List Value->Prop}{ds:List Value}{ps:List Str}(h:∀x0 x1 x2 x3 x4,Pm [x0,x1,x2,x3,x4])(e:ps.length=5+ds.length:=by rfl):∀us:List Value,(us++ds).length=ps.length->Pm us:=λus hl=>by
 have hm:us.length=5:=(by rw[Yo,e]at hl;omega);exact Pa h us hm
def Yk{Pm:List Value->Prop}{ds:List Value}{ps:List Str}(h:∀x0,Pm [x0])(e:ps.length=1+ds.length:=by rfl):∀us:List Value,(us++ds).length=ps.length->Pm us:=λus hl=>by
 have hm:us.length=1:=(by rw[Yo,e]at hl;omega);exact bC h us hm
def txt_mk{w:World}{K:W.Frag}{h:Heap}{mg:Str->Option Value}(X:K.In h)(G:h.Ns mainGlobals mg)
 {a0 ha dV0 a1 a2 a3 a4 a5 a6 a7 a8 a9 Gj ej tj nj uj Ej nf ba Kd Jj rj ti ia ei Ki bf ja Ke fh la Fi Ji wh Sg nh od Dh ij Cj Si Ni Zi Ri Aj Qi gj Ij Rg ga Jg We jg he Vg dc bc ci Oi fj Li Fj aj hj Lj Hf fa Yc pg kd Mh da Ed qf Ah lj Xi pj eh ea ug Nh Sf wd Rh ef qd mi uh Wf Ii Hj Dj ve qj Bj wj Nd aa Ee Ai Bf Kc hd Uh Gg Df Kj Mi Ti oe ca Jf Be Ch Ze ig eg Ag Vi xj cj mj vj bj oj Wi dj sb Kb ub Tb Cb tb Db na Ui kb nb qa za ua ta Aa Fa Da xa Ia Ha tc mc fc Nb Ma cb ib Ta Oa sc:Addr}{od0 an0 wy od1 an1 od2 an2 od3 an3 od4 an4 od5 an5 od6 an6 od7 an7 od8 an8 od9 an9 Bp Ux Vm rn Er En Nq mu ew rs Mt cx Hw oo Oc tw fn Tj Hq dq pr Ls Iz od21 Jn Jt fm az cm hv nx Lf kk Ps Pv ar pz Tp Eo NZ Et Ll cq Pq nq Ox xx Ay Kr Mo Pr qq Tn Lo Wt fo Jy Tw pw Sn ow Dz Sl Hy lp qw xh pv Mk wf Tq jv Ci hp iy Jx Bn Ng Fm Rm qn ay xv hr Gl yv Gq kl fz lm Kz an52 gm Qr Wu Ww Vy Ft it fv Iq qo Ut ln em Rr Zj Np Cv Zw Ko Au rk jz Dk Mx Ph Hm Uo ir dm Sq ly Rz No nn Ik fe bs bz wi YZ bk Xf wu es ey Cq Xc to Xl Mu tq Xy sq Gt yz wn Oj Xo tz sh Mp Fw im bl Dg Gr Zz hf Bl Sj hn pq Yl Ix JZ sp Es Ry Yo du qh Ou ou Kf Go Dl df Yn iq kn xr ax Ex Hp go Im Qv Jl Zy nr Ol Qo ix Tu ml se Hg Id Qf Qg oh nd Ef Jc we Xd Ec qe Pe:Option Addr}{sl0 Sp sl1 sl2 sl3 sl4 sl5 sl6 sl7 sl8 sl9 vw nm Ey Bt Js Hu Op hg Oo sn xz Jr qm Zq fq Tx dh Tz am mp Kn Ms Tl Eu jt aw Nx Wz nz Aq sl38 oz xy vk Ei Py xc bt te ck vp dg Wy qt fw Cw Qn Vj Bz ww ur lx lr xw cu pm ro Qy Hz Dq Ro Bd xo Fx pk Rq Ot Gh Hk Xg Qt Gf bp ek ni qz Vx vs hu kv nl td Nr Yw vg It ii zs py Vv jw lq Rw sg Uq gi An Oh cw Am hk tx jr Sz Pk Vt ct Pf Wg Xh vf Dc Zg hi jd Qh Lb Ob Rb vb Mb Gb Qb Ib Ab Bb Qm Zv ts23 oc hc rc nc ic Zo:Array (Option Value)}{oc0 kV0 dc0 pm0 cd0 ct0 Wr oc1 kV1 dc1 pm1 cd1 ct1 oc2 kV2 dc2 pm2 cd2 ct2 oc3 kV3 dc3 pm3 cd3 ct3 oc4 kV4 dc4 pm4 cd4 ct4 oc5 kV5 dc5 pm5 cd5 ct5 oc6 kV6 dc6 pm6 cd6 ct6 oc7 kV7 dc7 pm7 cd7 ct7 oc8 kV8 dc8 pm8 cd8 ct8 oc9 kV9 dc9 pm9 cd9 ct9 Xz Dv Mv po ke ys av Vu wq Iu Ug qk sz Sk Ak Jm rg fx Az Ur Um xs ed cl Mj Wv Ev Lr Fh wp ez Ek gl Up Bg Bm Fs wz jx Bu Qc Pl bg Jw By dv vz rh bn Yt Ky qs Cy pd ll gq su Bs uz uf ct19 tk Ip ok nv He Ny Cu ov Vw ft Vd Ys Jk So Kq wt qg Mz fy iz Jp gp Zh wr on om Nj Jq vd vr rd ao ns Ym Ds wg Yp Fz Kw er Sr Ff Dp Vp Cm sv Gw vh Yu hs Rl Oq lu Re xp Ct Os Ck xt ce ql sr xu un qr Th Ss Sx xk vo Fn gf Ku ux Ho Uk Wp Yd Fv Io dy Ew xn Wd Nu up wo Kx Lk Ad Oz ev nk Mn Fu jh Aw Dm vy Zt Do Cd Nm bm ul Wx Ov Pd Un Uj rl cs Pp Pc tv Mq sl Fl iw ng no Bk Qu Iv Lz Ie xq Zl Lm Br ol Md Gs ud bq GZ hm Mw Bh Tv Tc wx Xr Ax ox Td qu Eg FZ Hs et Vr Bi Cz Po el Pu mt Rc Bq Nc gx ho ru Tm Ve dt pu Bv dz uy Uf br Nt ot kw ws gh As Rt Xk uv Ht jf ks Gv Wn Yr Ks Nf Yx Mr vm Px vx Bc dw Dr pn To eu lg Ju Us On nt cy oi uo wm io Fk Ao Yf KZ Il uw cv Al Rf Qs fl rz Hx jy li hq Wj Km Gn gv Fc Pj op nw cn Em Sc Qk Fq vn ht iu Mc RZ ip dk ik qv Qd ju fr nu gu Gp Qe Lv oc62 tt Lx Qj gg yn Tk gw il Lu Dd Wl Gy Cp ry uq Vc Kp Mf vt Gu oq hl Di kq Wq dr Yz Gx cf Xu El us dl Ok Of wl Xv Bx Zp Vo th Rn Vl lk rr pt af Dy Ac Uw Gk rt Yy Zc Av Wc ny Is Zk Ap re os Fd fk tu Zu Jz ah tl en Fr Ep vq Cf Ez Fe gr qp Qx Cr rf xm Ul tp Pw Ly Ld Ml Fo ss Tr an Cc gs Rk Iy rv Nk Lh Wo qx Ln gn Jv je Xp Bo Rp ut Gz Ig Cx xf hz Qp vv Vn Sd Iw um Hv Qq Zn Le Kv Ae dp gk rm bx bi Zr De Nl kV83 Xn js Ge ty Xw tn fp bv Te sm Pm Ts Ws Fp Gd uu ts Kk oy Ql Hh Ow Tt Oy hx Nv Ic Mm Xs wk pp Nn Jd Kt Tg Vs Lt Vq Kl Vh lo bd al Xt Dt Yv cg Cn de Xx Su Sy Xm If ep Jo Lw eo ap xe Yq gz iv Hr px hh Rs Hn Fy Bw xl xi Xj gy Dw Ir Uz xg Dn bw Rj ZZ Pt Jh Uv Lq Rx Vk St Pg bo Qw Dx Du Co dd vl cr rx Sw ms Hc Sv bh vi Oe ff Zb Ce ih Og Gi Lg Wb Fg Kh ag ue Ud Ub Od be Vf tf ee Xb ch Rd pe Af ph cc Wh fg Se qi Tf Vb gd Uc xd Lc Ue Yb og:Value}{Ru ld Zd ai Cg Ih ie Gc di Me ad Kg Xe fd Zf Je fi Sh ep2 Hi ri Sb Eb Fb Jb xb qb Hb Pb rb wb Gm Pz dn Cl wc lc ec qc vc Zm:Nat}{jb Sa Ra eb gb Ya Va Za La db hb Qa bb Ka Wa ab Pa u0 u1 u3 u4 u5 u6 u7 u8 u9 u10 u11 u12 u13 u14 u15 u18 u19 u20 u21 u22:Tok}{es2 Ye:Array DictEntry}{pb ob:Int}{mb lb va Ga wa sa Ea pa oa Ba Ca ra jc gc uc Ja Ua Na Xa fb pc:Array Value}
 (zu:W.nsIn K mainGlobals "Reader"=some (some (.ref ha)))
 (rP:W.plainGet K ha Str.empty=true)
 (sH:W.hasDictIn K ha=true)
 (sd:W.plainOver K ha=true)
 (rD:W.findIn K (.ref ha) "__setattr__"=some (some (.builtin "object.__setattr__")))
 (y0:W.makesIn K ha=true)
 (zg:W.keepIn K (.ref ha)=true)
 (yh:W.findIn K (.ref ha) "__class__"=some (some (.builtin "object.__class__")))
 (x5:W.specialIn K (.builtin "object.__class__") "__get__"=some (some (.builtin "getset_descriptor.__get__")))
 (xN:W.takesIn K (.builtin "object.__class__")=some true)
 (wB:W.mroIn K ha (.type "object")=some true)
 (yL:W.findIn K (.ref ha) "at_page"=some none)
 (yK:W.findIn K (.ref ha) "begun"=some none)
 (yJ:W.findIn K (.ref ha) "ended"=some none)
 (yI:W.findIn K (.ref ha) "many"=some none)
 (yH:W.findIn K (.ref ha) "met"=some none)
 (yG:W.findIn K (.ref ha) "place"=some none)
 (yF:W.findIn K (.ref ha) "tongue"=some none)
 (TX:W.findIn K (.ref ha) "__init__"=some (some (.ref a0)))
 (bY:W.isFn K (.ref a0)=true)
 (oZ:K.lookup a0=some ⟨oc0,od0,.func (W.fnOf "__init__" "Reader.__init__" (au lY) (aq lY) (ae lY) (.ref dV0) kV0 dc0 pm0 an0 cd0 ct0),sl0⟩)
 (EY:W.codeIn K cd0 "Reader.__init__"=true)
 (tY:W.keepIn K (.ref a0)=true)
 (BZ:K.lookup dV0=some ⟨Wr,wy,.seq ([.int 0 jb]:List Value).toArray Ru,Sp⟩)
 (ZX:W.findIn K (.ref ha) "faults"=some (some (.ref a1)))
 (BX:W.isFn K (.ref a1)=true)
 (pZ:K.lookup a1=some ⟨oc1,od1,.func (W.fnOf "faults" "Reader.faults" (au l5) (aq l5) (ae l5) .none kV1 dc1 pm1 an1 cd1 ct1),sl1⟩)
 (cY:W.codeIn K cd1 "Reader.faults"=true)
 (mX:W.keepIn K (.ref a1)=true)
 (SX:W.findIn K (.ref ha) "feed"=some (some (.ref a2)))
 (DX:W.isFn K (.ref a2)=true)
 (TY:K.lookup a2=some ⟨oc2,od2,.func (W.fnOf "feed" "Reader.feed" (au lZ) (aq lZ) (ae lZ) .none kV2 dc2 pm2 an2 cd2 ct2),sl2⟩)
 (eY:W.codeIn K cd2 "Reader.feed"=true)
 (uX:W.keepIn K (.ref a2)=true)
 (RX:W.findIn K (.ref ha) "end"=some (some (.ref a3)))
 (CX:W.isFn K (.ref a3)=true)
 (sZ:K.lookup a3=some ⟨oc3,od3,.func (W.fnOf "end" "Reader.end" (au l7) (aq l7) (ae l7) .none kV3 dc3 pm3 an3 cd3 ct3),sl3⟩)
 (DY:W.codeIn K cd3 "Reader.end"=true)
 (tX:W.keepIn K (.ref a3)=true)
 (dZ:W.findIn K (.ref ha) "take"=some (some (.ref a4)))
 (zX:W.isFn K (.ref a4)=true)
 (fZ:K.lookup a4=some ⟨oc4,od4,.func (W.fnOf "take" "Reader.take" (au lU) (aq lU) (ae lU) .none kV4 dc4 pm4 an4 cd4 ct4),sl4⟩)
 (iY:W.codeIn K cd4 "Reader.take"=true)
 (sX:W.keepIn K (.ref a4)=true)
 (CZ:W.findIn K (.ref ha) "look_at_begun"=some (some (.ref a5)))
 (vX:W.isFn K (.ref a5)=true)
 (YX:K.lookup a5=some ⟨oc5,od5,.func (W.fnOf "look_at_begun" "Reader.look_at_begun" (au lX) (aq lX) (ae lX) .none kV5 dc5 pm5 an5 cd5 ct5),sl5⟩)
 (wY:W.codeIn K cd5 "Reader.look_at_begun"=true)
 (qX:W.keepIn K (.ref a5)=true)
 (aY:W.findIn K (.ref ha) "meet_none"=some (some (.ref a6)))
 (HX:W.isFn K (.ref a6)=true)
 (HY:K.lookup a6=some ⟨oc6,od6,.func (W.fnOf "meet_none" "Reader.meet_none" (au lV) (aq lV) (ae lV) .none kV6 dc6 pm6 an6 cd6 ct6),sl6⟩)
 (gY:W.codeIn K cd6 "Reader.meet_none"=true)
 (oX:W.keepIn K (.ref a6)=true)
 (JX:W.findIn K (.ref ha) "meet"=some (some (.ref a7)))
 (vY:W.isFn K (.ref a7)=true)
 (oY:K.lookup a7=some ⟨oc7,od7,.func (W.fnOf "meet" "Reader.meet" (au lW) (aq lW) (ae lW) .none kV7 dc7 pm7 an7 cd7 ct7),sl7⟩)
 (zY:W.codeIn K cd7 "Reader.meet"=true)
 (GX:W.keepIn K (.ref a7)=true)
 (cZ:W.findIn K (.ref ha) "note"=some (some (.ref a8)))
 (wX:W.isFn K (.ref a8)=true)
 (sY:K.lookup a8=some ⟨oc8,od8,.func (W.fnOf "note" "Reader.note" (au nG) (aq nG) (ae nG) .none kV8 dc8 pm8 an8 cd8 ct8),sl8⟩)
 (bZ:W.codeIn K cd8 "Reader.note"=true)
 (pX:W.keepIn K (.ref a8)=true)
 (eZ:W.nsIn K mainGlobals "is_number"=some (some (.ref a9)))
 (vZ:K.lookup a9=some ⟨oc9,od9,.func (W.fnOf "is_number" "is_number" (au kL) (aq kL) (ae kL) .none kV9 dc9 pm9 an9 cd9 ct9),sl9⟩)
 (aZ:W.codeIn K cd9 "is_number"=true)
 (zZ:W.keepIn K (.ref a9)=true)
 (gO:W.nsIn K mainGlobals "is_byte"=some (some (.ref Gj)))
 (lR:K.lookup Gj=some ⟨Xz,Bp,.func (W.fnOf "is_byte" "is_byte" (au kO) (aq kO) (ae kO) .none Dv Mv po Ux ke ys),vw⟩)
 (wQ:W.codeIn K ke "is_byte"=true)
 (IV:W.keepIn K (.ref Gj)=true)
 (cT:W.nsIn K mainGlobals "is_head"=some (some (.ref ej)))
 (zQ:K.lookup ej=some ⟨av,Vm,.func (W.fnOf "is_head" "is_head" (au kM) (aq kM) (ae kM) .none Vu wq Iu rn Ug qk),nm⟩)
 (nO:W.codeIn K Ug "is_head"=true)
 (wV:W.keepIn K (.ref ej)=true)
 (XN:W.nsIn K mainGlobals "is_tail"=some (some (.ref tj)))
 (UL:K.lookup tj=some ⟨sz,Er,.func (W.fnOf "is_tail" "is_tail" (au kH) (aq kH) (ae kH) .none Sk Ak Jm En rg fx),Ey⟩)
 (aX:W.codeIn K rg "is_tail"=true)
 (ZL:W.keepIn K (.ref tj)=true)
 (YM:W.nsIn K mainGlobals "is_seen_byte"=some (some (.ref nj)))
 (rU:K.lookup nj=some ⟨Az,Nq,.func (W.fnOf "is_seen_byte" "is_seen_byte" (au kK) (aq kK) (ae kK) .none Ur Um xs mu ed cl),Bt⟩)
 (wK:W.codeIn K ed "is_seen_byte"=true)
 (RQ:W.keepIn K (.ref nj)=true)
 (mH:W.nsIn K mainGlobals "is_sign"=some (some (.ref uj)))
 (RW:K.lookup uj=some ⟨Mj,ew,.func (W.fnOf "is_sign" "is_sign" (au kJ) (aq kJ) (ae kJ) .none Wv Ev Lr rs Fh wp),Js⟩)
 (qU:W.codeIn K Fh "is_sign"=true)
 (CN:W.keepIn K (.ref uj)=true)
 (mO:W.nsIn K mainGlobals "is_row"=some (some (.ref Ej)))
 (eH:K.lookup Ej=some ⟨ez,Mt,.func (W.fnOf "is_row" "is_row" (au jk) (aq jk) (ae jk) .none Ek gl Up cx Bg Bm),Hu⟩)
 (eX:W.codeIn K Bg "is_row"=true)
 (DP:W.keepIn K (.ref Ej)=true)
 (zz:W.nsIn K mainGlobals "GoingReader"=some (some (.ref ba)))
 (rV:W.plainGet K ba Str.empty=true)
 (sO:W.hasDictIn K ba=true)
 (so:W.plainOver K ba=true)
 (rJ:W.findIn K (.ref ba) "__setattr__"=some (some (.builtin "object.__setattr__")))
 (y7:W.makesIn K ba=true)
 (zl:W.keepIn K (.ref ba)=true)
 (ym:W.findIn K (.ref ba) "__class__"=some (some (.builtin "object.__class__")))
 (yb:W.specialIn K (.builtin "object.__class__") "__get__"=some (some (.builtin "getset_descriptor.__get__")))
 (xS:W.takesIn K (.builtin "object.__class__")=some true)
 (gB:W.mroIn K ba (.type "object")=some true)
 (yU:W.findIn K (.ref ba) "begun"=some none)
 (yT:W.findIn K (.ref ba) "way"=some none)
 (GJ:W.findIn K (.ref ba) "__init__"=some (some (.ref nf)))
 (mJ:W.isFn K (.ref nf)=true)
 (FN:K.lookup nf=some ⟨Fs,Hw,.func (W.fnOf "__init__" "GoingReader.__init__" (au mC) (aq mC) (ae mC) (.ref Kd) wz jx Bu oo Qc Pl),Op⟩)
 (zV:W.codeIn K Qc "GoingReader.__init__"=true)
 (LQ:W.keepIn K (.ref nf)=true)
 (WR:K.lookup Kd=some ⟨bg,Oc,.seq ([.int 0 Sa]:List Value).toArray ld,hg⟩)
 (tR:W.nsIn K mainGlobals "write_from"=some (some (.ref Jj)))
 (TJ:K.lookup Jj=some ⟨Jw,tw,.func (W.fnOf "write_from" "write_from" (au kf) (aq kf) (ae kf) .none By dv vz fn rh bn),Oo⟩)
 (uR:W.codeIn K rh "write_from"=true)
 (ZM:W.keepIn K (.ref Jj)=true)
 (fJ:W.nsIn K mainGlobals "write"=some (some (.ref rj)))
 (fX:K.lookup rj=some ⟨Yt,Tj,.func (W.fnOf "write" "write" (au kg) (aq kg) (ae kg) .none Ky qs Cy Hq pd ll),sn⟩)
 (RL:W.codeIn K pd "write"=true)
 (bQ:W.keepIn K (.ref rj)=true)
 (zt:W.nsIn K mainGlobals "SeenSpeller"=some (some (.ref ia)))
 (rO:W.plainGet K ia Str.empty=true)
 (sG:W.hasDictIn K ia=true)
 (r9:W.plainOver K ia=true)
 (rC:W.findIn K (.ref ia) "__setattr__"=some (some (.builtin "object.__setattr__")))
 (yZ:W.makesIn K ia=true)
 (zf:W.keepIn K (.ref ia)=true)
 (yg:W.findIn K (.ref ia) "__class__"=some (some (.builtin "object.__class__")))
 (xZ:W.specialIn K (.builtin "object.__class__") "__get__"=some (some (.builtin "getset_descriptor.__get__")))
 (xM:W.takesIn K (.builtin "object.__class__")=some true)
 (iB:W.mroIn K ia (.type "object")=some true)
 (yE:W.findIn K (.ref ia) "tongue"=some none)
 (uU:W.findIn K (.ref ia) "__init__"=some (some (.ref ti)))
 (VV:W.isFn K (.ref ti)=true)
 (NP:K.lookup ti=some ⟨gq,dq,.func (W.fnOf "__init__" "SeenSpeller.__init__" (au lT) (aq lT) (ae lT) .none su Bs uz pr uf ct19),xz⟩)
 (iW:W.codeIn K uf "SeenSpeller.__init__"=true)
 (jH:W.keepIn K (.ref ti)=true)
 (tV:W.findIn K (.ref ia) "spell"=some (some (.ref ei)))
 (MN:W.isFn K (.ref ei)=true)
 (zU:K.lookup ei=some ⟨tk,Ls,.func (W.fnOf "spell" "SeenSpeller.spell" (au lS) (aq lS) (ae lS) .none Ip ok nv Iz He Ny),Jr⟩)
 (tU:W.codeIn K He "SeenSpeller.spell"=true)
 (RG:W.keepIn K (.ref ei)=true)
 (JL:K.lookup Ki=some ⟨Cu,od21,.func (W.fnOf "__init__" "Writer.__init__" (au kY) (aq kY) (ae kY) .none ov Vw ft Jn Vd Ys),qm⟩)
 (QJ:W.codeIn K Vd "Writer.__init__"=true)
 (HN:W.keepIn K (.ref Ki)=true)
 (zr:W.nsIn K mainGlobals "SeenWriter"=some (some (.ref ja)))
 (rN:W.plainGet K ja Str.empty=true)
 (sE:W.hasDictIn K ja=true)
 (r6:W.plainOver K ja=true)
 (rB:W.findIn K (.ref ja) "__setattr__"=some (some (.builtin "object.__setattr__")))
 (yY:W.makesIn K ja=true)
 (ze:W.keepIn K (.ref ja)=true)
 (yf:W.findIn K (.ref ja) "__class__"=some (some (.builtin "object.__class__")))
 (xY:W.specialIn K (.builtin "object.__class__") "__get__"=some (some (.builtin "getset_descriptor.__get__")))
 (xL:W.takesIn K (.builtin "object.__class__")=some true)
 (tB:W.mroIn K ja (.type "object")=some true)
 (yD:W.findIn K (.ref ja) "at_page"=some none)
 (yC:W.findIn K (.ref ja) "tongue"=some none)
 (YQ:W.findIn K (.ref ja) "__init__"=some (some (.ref bf)))
 (cN:W.isFn K (.ref bf)=true)
 (PQ:K.lookup bf=some ⟨Jk,Jt,.func (W.fnOf "__init__" "SeenWriter.__init__" (au lQ) (aq lQ) (ae lQ) .none So Kq wt fm qg Mz),Zq⟩)
 (VP:W.codeIn K qg "SeenWriter.__init__"=true)
 (MP:W.keepIn K (.ref bf)=true)
 (vI:W.findIn K (.ref ja) "feed"=some (some (.ref Ke)))
 (mV:W.isFn K (.ref Ke)=true)
 (tO:K.lookup Ke=some ⟨fy,az,.func (W.fnOf "feed" "Writer.feed" (au kZ) (aq kZ) (ae kZ) .none iz Jp gp cm Zh wr),fq⟩)
 (aU:W.codeIn K Zh "Writer.feed"=true)
 (VF:W.keepIn K (.ref Ke)=true)
 (zo:W.nsIn K mainGlobals "Turner"=some (some (.ref la)))
 (rK:W.plainGet K la Str.empty=true)
 (sw:W.hasDictIn K la=true)
 (rY:W.plainOver K la=true)
 (rp:W.findIn K (.ref la) "__setattr__"=some (some (.builtin "object.__setattr__")))
 (yV:W.makesIn K la=true)
 (zb:W.keepIn K (.ref la)=true)
 (yc:W.findIn K (.ref la) "__class__"=some (some (.builtin "object.__class__")))
 (xV:W.specialIn K (.builtin "object.__class__") "__get__"=some (some (.builtin "getset_descriptor.__get__")))
 (xI:W.takesIn K (.builtin "object.__class__")=some true)
 (zB:W.mroIn K la (.type "object")=some true)
 (yt:W.findIn K (.ref la) "lacking"=some none)
 (yr:W.findIn K (.ref la) "many"=some none)
 (yq:W.findIn K (.ref la) "reader"=some none)
 (yp:W.findIn K (.ref la) "stead"=some none)
 (yo:W.findIn K (.ref la) "writer"=some none)
 (WK:W.findIn K (.ref la) "__init__"=some (some (.ref fh)))
 (zK:W.isFn K (.ref fh)=true)
 (jP:K.lookup fh=some ⟨on,hv,.func (W.fnOf "__init__" "Turner.__init__" (au lv) (aq lv) (ae lv) (.ref Fi) om Nj Jq nx vd vr),Tx⟩)
 (qR:W.codeIn K vd "Turner.__init__"=true)
 (vM:W.keepIn K (.ref fh)=true)
 (gW:K.lookup Fi=some ⟨rd,Lf,.seq ([.none,.none]:List Value).toArray Zd,dh⟩)
 (gJ:W.findIn K (.ref la) "lacks"=some (some (.ref Ji)))
 (cP:W.isFn K (.ref Ji)=true)
 (VK:K.lookup Ji=some ⟨ao,kk,.func (W.fnOf "lacks" "Turner.lacks" (au ls) (aq ls) (ae ls) .none ns Ym Ds Ps wg Yp),Tz⟩)
 (fW:W.codeIn K wg "Turner.lacks"=true)
 (QF:W.keepIn K (.ref Ji)=true)
 (vV:W.findIn K (.ref la) "faults"=some (some (.ref wh)))
 (vN:W.isFn K (.ref wh)=true)
 (PK:K.lookup wh=some ⟨Fz,Pv,.func (W.fnOf "faults" "Turner.faults" (au lA) (aq lA) (ae lA) .none Kw er Sr ar Ff Dp),am⟩)
 (eO:W.codeIn K Ff "Turner.faults"=true)
 (XF:W.keepIn K (.ref wh)=true)
 (uV:W.findIn K (.ref la) "feed"=some (some (.ref Sg)))
 (fH:W.isFn K (.ref Sg)=true)
 (UW:K.lookup Sg=some ⟨Vp,pz,.func (W.fnOf "feed" "Turner.feed" (au lz) (aq lz) (ae lz) .none Cm sv Gw Tp vh Yu),mp⟩)
 (qN:W.codeIn K vh "Turner.feed"=true)
 (cG:W.keepIn K (.ref Sg)=true)
 (GQ:W.findIn K (.ref la) "end"=some (some (.ref nh)))
 (uL:W.isFn K (.ref nh)=true)
 (tQ:K.lookup nh=some ⟨hs,Eo,.func (W.fnOf "end" "Turner.end" (au lB) (aq lB) (ae lB) .none Rl Oq lu NZ Re xp),Kn⟩)
 (pP:W.codeIn K Re "Turner.end"=true)
 (jG:W.keepIn K (.ref nh)=true)
 (fQ:W.findIn K (.ref la) "turned"=some (some (.ref od)))
 (RV:W.isFn K (.ref od)=true)
 (fM:K.lookup od=some ⟨Ct,Et,.func (W.fnOf "turned" "Turner.turned" (au lh) (aq lh) (ae lh) .none Os Ck xt Ll ce ql),Ms⟩)
 (uT:W.codeIn K ce "Turner.turned"=true)
 (DG:W.keepIn K (.ref od)=true)
 (JK:W.findIn K (.ref la) "turned_one"=some (some (.ref Dh)))
 (DN:W.isFn K (.ref Dh)=true)
 (cI:K.lookup Dh=some ⟨sr,cq,.func (W.fnOf "turned_one" "Turner.turned_one" (au lf) (aq lf) (ae lf) .none xu un qr Pq Th Ss),Tl⟩)
 (vP:W.codeIn K Th "Turner.turned_one"=true)
 (fG:W.keepIn K (.ref Dh)=true)
 (tW:W.nsIn K mainGlobals "check_room"=some (some (.ref ij)))
 (XM:K.lookup ij=some ⟨Sx,nq,.func (W.fnOf "check_room" "check_room" (au kS) (aq kS) (ae kS) .none xk vo Fn Ox gf Ku),Eu⟩)
 (DQ:W.codeIn K gf "check_room"=true)
 (iK:W.keepIn K (.ref ij)=true)
 (VR:W.nsIn K mainGlobals "parted"=some (some (.ref Cj)))
 (QV:K.lookup Cj=some ⟨ux,xx,.func (W.fnOf "parted" "parted" (au kx) (aq kx) (ae kx) .none Ho Uk Wp Ay Yd Fv),jt⟩)
 (SJ:W.codeIn K Yd "parted"=true)
 (jU:W.keepIn K (.ref Cj)=true)
 (FW:W.nsIn K mainGlobals "together"=some (some (.ref Si)))
 (BL:K.lookup Si=some ⟨Io,Kr,.func (W.fnOf "together" "together" (au ko) (aq ko) (ae ko) .none dy Ew xn Mo Wd Nu),aw⟩)
 (bT:W.codeIn K Wd "together"=true)
 (dW:W.keepIn K (.ref Si)=true)
 (qP:W.nsIn K mainGlobals "length_of"=some (some (.ref Ni)))
 (mU:K.lookup Ni=some ⟨up,Pr,.func (W.fnOf "length_of" "length_of" (au kF) (aq kF) (ae kF) .none wo Kx Lk qq Ad Oz),Nx⟩)
 (kI:W.codeIn K Ad "length_of"=true)
 (iQ:W.keepIn K (.ref Ni)=true)
 (QQ:W.nsIn K mainGlobals "lead_row"=some (some (.ref Zi)))
 (pJ:K.lookup Zi=some ⟨ev,Tn,.func (W.fnOf "lead_row" "lead_row" (au jj) (aq jj) (ae jj) .none nk Mn Fu Lo jh Aw),Wz⟩)
 (pL:W.codeIn K jh "lead_row"=true)
 (QW:W.keepIn K (.ref Zi)=true)
 (fK:W.nsIn K mainGlobals "length_behind"=some (some (.ref Ri)))
 (bW:K.lookup Ri=some ⟨Dm,Wt,.func (W.fnOf "length_behind" "length_behind" (au kG) (aq kG) (ae kG) .none vy Zt Do fo Cd Nm),nz⟩)
 (GR:W.codeIn K Cd "length_behind"=true)
 (uQ:W.keepIn K (.ref Ri)=true)
 (BP:W.nsIn K mainGlobals "bounds_behind"=some (some (.ref Aj)))
 (eN:K.lookup Aj=some ⟨bm,Jy,.func (W.fnOf "bounds_behind" "bounds_behind" (au kU) (aq kU) (ae kU) .none ul Wx Ov Tw Pd Un),Aq⟩)
 (bI:W.codeIn K Pd "bounds_behind"=true)
 (tH:W.keepIn K (.ref Aj)=true)
 (HQ:W.nsIn K mainGlobals "fits_behind"=some (some (.ref Qi)))
 (WN:K.lookup Qi=some ⟨Uj,pw,.func (W.fnOf "fits_behind" "fits_behind" (au kP) (aq kP) (ae kP) .none rl cs Pp Sn Pc tv),sl38⟩)
 (CK:W.codeIn K Pc "fits_behind"=true)
 (xT:W.keepIn K (.ref Qi)=true)
 (bJ:W.nsIn K mainGlobals "missing"=some (some (.ref gj)))
 (qT:K.lookup gj=some ⟨Mq,ow,.func (W.fnOf "missing" "missing" (au ky) (aq ky) (ae ky) .none sl Fl iw Dz ng no),oz⟩)
 (YT:W.codeIn K ng "missing"=true)
 (GP:W.keepIn K (.ref gj)=true)
 (QR:W.nsIn K mainGlobals "carried"=some (some (.ref Ij)))
 (FP:K.lookup Ij=some ⟨Bk,Sl,.func (W.fnOf "carried" "carried" (au jn) (aq jn) (ae jn) .none Qu Iv Lz Hy Ie xq),xy⟩)
 (QS:W.codeIn K Ie "carried"=true)
 (gR:W.keepIn K (.ref Ij)=true)
 (zy:W.nsIn K mainGlobals "LeadTongue"=some (some (.ref ga)))
 (rT:W.plainGet K ga Str.empty=true)
 (sN:W.hasDictIn K ga=true)
 (sk:W.plainOver K ga=true)
 (rH:W.findIn K (.ref ga) "__setattr__"=some (some (.builtin "object.__setattr__")))
 (y6:W.makesIn K ga=true)
 (zk:W.keepIn K (.ref ga)=true)
 (zm:W.findIn K (.ref ga) "__init__"=some (some (.builtin "object.__init__")))
 (yl:W.findIn K (.ref ga) "__class__"=some (some (.builtin "object.__class__")))
 (ya:W.specialIn K (.builtin "object.__class__") "__get__"=some (some (.builtin "getset_descriptor.__get__")))
 (xR:W.takesIn K (.builtin "object.__class__")=some true)
 (vB:W.mroIn K ga (.type "object")=some true)
 (pK:W.findIn K (.ref ga) "spell"=some (some (.ref Rg)))
 (iR:W.isFn K (.ref Rg)=true)
 (sV:K.lookup Rg=some ⟨Zl,lp,.func (W.fnOf "spell" "LeadTongue.spell" (au mz) (aq mz) (ae mz) (.ref Jg) Lm Br ol qw Md Gs),vk⟩)
 (QT:W.codeIn K Md "LeadTongue.spell"=true)
 (qG:W.keepIn K (.ref Rg)=true)
 (GK:K.lookup Jg=some ⟨ud,xh,.seq ([.int 0 Ra]:List Value).toArray ai,Ei⟩)
 (HS:W.findIn K (.ref ga) "whole"=some (some (.ref We)))
 (DR:W.isFn K (.ref We)=true)
 (jO:K.lookup We=some ⟨bq,pv,.func (W.fnOf "whole" "LeadTongue.whole" (au my) (aq my) (ae my) (.ref jg) GZ hm Mw Mk Bh Tv),Py⟩)
 (dX:W.codeIn K Bh "LeadTongue.whole"=true)
 (oG:W.keepIn K (.ref We)=true)
 (pN:K.lookup jg=some ⟨Tc,wf,.seq ([.int 0 eb]:List Value).toArray Cg,xc⟩)
 (cQ:W.findIn K (.ref ga) "fill"=some (some (.ref he)))
 (iV:W.isFn K (.ref he)=true)
 (BJ:K.lookup he=some ⟨wx,Tq,.func (W.fnOf "fill" "LeadTongue.fill" (au jp) (aq jp) (ae jp) (.ref Vg) Xr Ax ox jv Td qu),bt⟩)
 (wN:W.codeIn K Td "LeadTongue.fill"=true)
 (mG:W.keepIn K (.ref he)=true)
 (gV:K.lookup Vg=some ⟨Eg,Ci,.seq ([.int 0 gb]:List Value).toArray Ih,te⟩)
 (mK:W.findIn K (.ref ga) "unit"=some (some (.ref dc)))
 (aF:W.isFn K (.ref dc)=true)
 (cW:K.lookup dc=some ⟨FZ,hp,.func (W.fnOf "unit" "Tongue.unit" (au lC) (aq lC) (ae lC) .none Hs et Vr iy Bi Cz),ck⟩)
 (TV:W.codeIn K Bi "Tongue.unit"=true)
 (vD:W.keepIn K (.ref dc)=true)
 (vO:W.findIn K (.ref ga) "look"=some (some (.ref bc)))
 (wD:W.isFn K (.ref bc)=true)
 (rW:K.lookup bc=some ⟨Po,Jx,.func (W.fnOf "look" "Tongue.look" (au lE) (aq lE) (ae lE) (.ref ci) el Pu mt Bn Rc Bq),vp⟩)
 (vL:W.codeIn K Rc "Tongue.look"=true)
 (uD:W.keepIn K (.ref bc)=true)
 (pU:K.lookup ci=some ⟨Nc,Ng,.seq ([.int 0 Ya]:List Value).toArray ie,dg⟩)
 (oK:W.nsIn K mainGlobals "group_letters"=some (some (.ref Oi)))
 (SN:K.lookup Oi=some ⟨gx,Fm,.func (W.fnOf "group_letters" "group_letters" (au jl) (aq jl) (ae jl) .none ho ru Tm Rm Ve dt),Wy⟩)
 (UJ:W.codeIn K Ve "group_letters"=true)
 (bL:W.keepIn K (.ref Oi)=true)
 (uH:W.nsIn K mainGlobals "lettered"=some (some (.ref fj)))
 (OJ:K.lookup fj=some ⟨pu,qn,.func (W.fnOf "lettered" "lettered" (au kE) (aq kE) (ae kE) .none Bv dz uy ay Uf br),qt⟩)
 (cX:W.codeIn K Uf "lettered"=true)
 (wO:W.keepIn K (.ref fj)=true)
 (eQ:W.nsIn K mainGlobals "group_bytes"=some (some (.ref Li)))
 (oM:K.lookup Li=some ⟨Nt,xv,.func (W.fnOf "group_bytes" "group_bytes" (au jm) (aq jm) (ae jm) .none ot kw ws hr gh As),fw⟩)
 (zW:W.codeIn K gh "group_bytes"=true)
 (XJ:W.keepIn K (.ref Li)=true)
 (KJ:W.nsIn K mainGlobals "bytes_in"=some (some (.ref Fj)))
 (iU:K.lookup Fj=some ⟨Rt,Gl,.func (W.fnOf "bytes_in" "bytes_in" (au kT) (aq kT) (ae kT) .none Xk uv Ht yv jf ks),Cw⟩)
 (JN:W.codeIn K jf "bytes_in"=true)
 (vU:W.keepIn K (.ref Fj)=true)
 (qK:W.nsIn K mainGlobals "letters_ahead"=some (some (.ref aj)))
 (pQ:K.lookup aj=some ⟨Gv,Gq,.func (W.fnOf "letters_ahead" "letters_ahead" (au kD) (aq kD) (ae kD) .none Wn Yr Ks kl Nf Yx),Qn⟩)
 (JP:W.codeIn K Nf "letters_ahead"=true)
 (KR:W.keepIn K (.ref aj)=true)
 (iT:W.nsIn K mainGlobals "unlettered"=some (some (.ref hj)))
 (YW:K.lookup hj=some ⟨Mr,fz,.func (W.fnOf "unlettered" "unlettered" (au ki) (aq ki) (ae ki) .none vm Px vx lm Bc dw),Vj⟩)
 (VL:W.codeIn K Bc "unlettered"=true)
 (ZK:W.keepIn K (.ref hj)=true)
 (QH:W.nsIn K mainGlobals "behind_groups"=some (some (.ref Lj)))
 (iI:K.lookup Lj=some ⟨Dr,Kz,.func (W.fnOf "behind_groups" "behind_groups" (au kW) (aq kW) (ae kW) .none pn To eu an52 lg Ju),Bz⟩)
 (fO:W.codeIn K lg "behind_groups"=true)
 (uJ:W.keepIn K (.ref Lj)=true)
 (zw:W.nsIn K mainGlobals "LetterWriter"=some (some (.ref fa)))
 (rR:W.plainGet K fa Str.empty=true)
 (sL:W.hasDictIn K fa=true)
 (si:W.plainOver K fa=true)
 (rF:W.findIn K (.ref fa) "__setattr__"=some (some (.builtin "object.__setattr__")))
 (y3:W.makesIn K fa=true)
 (zi:W.keepIn K (.ref fa)=true)
 (yj:W.findIn K (.ref fa) "__class__"=some (some (.builtin "object.__class__")))
 (x8:W.specialIn K (.builtin "object.__class__") "__get__"=some (some (.builtin "getset_descriptor.__get__")))
 (xP:W.takesIn K (.builtin "object.__class__")=some true)
 (cB:W.mroIn K fa (.type "object")=some true)
 (yO:W.findIn K (.ref fa) "ended"=some none)
 (yN:W.findIn K (.ref fa) "rest"=some none)
 (cR:W.findIn K (.ref fa) "__init__"=some (some (.ref Hf)))
 (CQ:W.isFn K (.ref Hf)=true)
 (YJ:K.lookup Hf=some ⟨Us,gm,.func (W.fnOf "__init__" "LetterWriter.__init__" (au mn) (aq mn) (ae mn) .none On nt cy Qr oi uo),ww⟩)
 (RN:W.codeIn K oi "LetterWriter.__init__"=true)
 (zH:W.keepIn K (.ref Hf)=true)
 (VM:W.findIn K (.ref fa) "over"=some (some (.ref Yc)))
 (gK:W.isFn K (.ref Yc)=true)
 (FQ:K.lookup Yc=some ⟨wm,Wu,.func (W.fnOf "over" "LetterWriter.over" (au nH) (aq nH) (ae nH) .none io Fk Ao Ww Yf KZ),ur⟩)
 (aN:W.codeIn K Yf "LetterWriter.over"=true)
 (CG:W.keepIn K (.ref Yc)=true)
 (nJ:W.findIn K (.ref fa) "feed"=some (some (.ref pg)))
 (pO:W.isFn K (.ref pg)=true)
 (qI:K.lookup pg=some ⟨Il,Vy,.func (W.fnOf "feed" "LetterWriter.feed" (au mo) (aq mo) (ae mo) .none uw cv Al Ft Rf Qs),lx⟩)
 (nQ:W.codeIn K Rf "LetterWriter.feed"=true)
 (gG:W.keepIn K (.ref pg)=true)
 (UV:W.findIn K (.ref fa) "end"=some (some (.ref kd)))
 (aV:W.isFn K (.ref kd)=true)
 (XH:K.lookup kd=some ⟨fl,it,.func (W.fnOf "end" "LetterWriter.end" (au mq) (aq mq) (ae mq) .none rz Hx jy fv li hq),lr⟩)
 (uW:W.codeIn K li "LetterWriter.end"=true)
 (iG:W.keepIn K (.ref kd)=true)
 (zx:W.nsIn K mainGlobals "LetterReader"=some (some (.ref da)))
 (rS:W.plainGet K da Str.empty=true)
 (sM:W.hasDictIn K da=true)
 (sj:W.plainOver K da=true)
 (rG:W.findIn K (.ref da) "__setattr__"=some (some (.builtin "object.__setattr__")))
 (y4:W.makesIn K da=true)
 (zj:W.keepIn K (.ref da)=true)
 (yk:W.findIn K (.ref da) "__class__"=some (some (.builtin "object.__class__")))
 (x9:W.specialIn K (.builtin "object.__class__") "__get__"=some (some (.builtin "getset_descriptor.__get__")))
 (xQ:W.takesIn K (.builtin "object.__class__")=some true)
 (fB:W.mroIn K da (.type "object")=some true)
 (yS:W.findIn K (.ref da) "ended"=some none)
 (yR:W.findIn K (.ref da) "many"=some none)
 (yQ:W.findIn K (.ref da) "rest"=some none)
 (yP:W.findIn K (.ref da) "wrong"=some none)
 (qW:W.findIn K (.ref da) "__init__"=some (some (.ref Mh)))
 (WW:W.isFn K (.ref Mh)=true)
 (uN:K.lookup Mh=some ⟨Wj,Iq,.func (W.fnOf "__init__" "LetterReader.__init__" (au mr) (aq mr) (ae mr) .none Km Gn gv qo Fc Pj),xw⟩)
 (LR:W.codeIn K Fc "LetterReader.__init__"=true)
 (zR:W.keepIn K (.ref Mh)=true)
 (bH:W.findIn K (.ref da) "bad"=some (some (.ref Ed)))
 (eU:W.isFn K (.ref Ed)=true)
 (oH:K.lookup Ed=some ⟨op,Ut,.func (W.fnOf "bad" "LetterReader.bad" (au mx) (aq mx) (ae mx) .none nw cn Em ln Sc Qk),cu⟩)
 (sJ:W.codeIn K Sc "LetterReader.bad"=true)
 (VG:W.keepIn K (.ref Ed)=true)
 (iJ:W.findIn K (.ref da) "feed"=some (some (.ref qf)))
 (QL:W.isFn K (.ref qf)=true)
 (qM:K.lookup qf=some ⟨Fq,em,.func (W.fnOf "feed" "LetterReader.feed" (au mv) (aq mv) (ae mv) .none vn ht iu Rr Mc RZ),pm⟩)
 (cJ:W.codeIn K Mc "LetterReader.feed"=true)
 (YF:W.keepIn K (.ref qf)=true)
 (XS:W.findIn K (.ref da) "end"=some (some (.ref Ah)))
 (MK:W.isFn K (.ref Ah)=true)
 (pI:K.lookup Ah=some ⟨ip,Zj,.func (W.fnOf "end" "LetterReader.end" (au mw) (aq mw) (ae mw) .none dk ik qv Np Qd ju),ro⟩)
 (zJ:W.codeIn K Qd "LetterReader.end"=true)
 (uG:W.keepIn K (.ref Ah)=true)
 (bK:W.nsIn K mainGlobals "begins"=some (some (.ref lj)))
 (uM:K.lookup lj=some ⟨fr,Cv,.func (W.fnOf "begins" "begins" (au kX) (aq kX) (ae kX) .none nu gu Gp Zw Qe Lv),Qy⟩)
 (oO:W.codeIn K Qe "begins"=true)
 (qO:W.keepIn K (.ref lj)=true)
 (jJ:W.nsIn K mainGlobals "units_of"=some (some (.ref Xi)))
 (mW:K.lookup Xi=some ⟨oc62,Ko,.func (W.fnOf "units_of" "units_of" (au kj) (aq kj) (ae kj) .none tt Lx Qj Au gg yn),Hz⟩)
 (uK:W.codeIn K gg "units_of"=true)
 (tL:W.keepIn K (.ref Xi)=true)
 (nW:W.nsIn K mainGlobals "sign_of"=some (some (.ref pj)))
 (UT:K.lookup pj=some ⟨Tk,rk,.func (W.fnOf "sign_of" "sign_of" (au kr) (aq kr) (ae kr) .none gw il Lu jz Dd Wl),Dq⟩)
 (jM:W.codeIn K Dd "sign_of"=true)
 (nR:W.keepIn K (.ref pj)=true)
 (zv:W.nsIn K mainGlobals "PairTongue"=some (some (.ref ea)))
 (rQ:W.plainGet K ea Str.empty=true)
 (sK:W.hasDictIn K ea=true)
 (sf:W.plainOver K ea=true)
 (rE:W.findIn K (.ref ea) "__setattr__"=some (some (.builtin "object.__setattr__")))
 (y1:W.makesIn K ea=true)
 (zh:W.keepIn K (.ref ea)=true)
 (yi:W.findIn K (.ref ea) "__class__"=some (some (.builtin "object.__class__")))
 (x6:W.specialIn K (.builtin "object.__class__") "__get__"=some (some (.builtin "getset_descriptor.__get__")))
 (xO:W.takesIn K (.builtin "object.__class__")=some true)
 (uB:W.mroIn K ea (.type "object")=some true)
 (yM:W.findIn K (.ref ea) "order"=some none)
 (sS:W.findIn K (.ref ea) "__init__"=some (some (.ref eh)))
 (zP:W.isFn K (.ref eh)=true)
 (wM:K.lookup eh=some ⟨Gy,Dk,.func (W.fnOf "__init__" "PairTongue.__init__" (au mh) (aq mh) (ae mh) (.ref ug) Cp ry uq Mx Vc Kp),Ro⟩)
 (cU:W.codeIn K Vc "PairTongue.__init__"=true)
 (MJ:W.keepIn K (.ref eh)=true)
 (XQ:K.lookup ug=some ⟨Mf,Ph,.seq ([.str "high" Va]:List Value).toArray Gc,Bd⟩)
 (bM:W.findIn K (.ref ea) "unit"=some (some (.ref Nh)))
 (QM:W.isFn K (.ref Nh)=true)
 (gU:K.lookup Nh=some ⟨vt,Hm,.func (W.fnOf "unit" "PairTongue.unit" (au ma) (aq ma) (ae ma) .none Gu oq hl Uo Di kq),xo⟩)
 (bR:W.codeIn K Di "PairTongue.unit"=true)
 (tG:W.keepIn K (.ref Nh)=true)
 (MT:W.findIn K (.ref ea) "turned"=some (some (.ref Sf)))
 (dH:W.isFn K (.ref Sf)=true)
 (RT:K.lookup Sf=some ⟨Wq,ir,.func (W.fnOf "turned" "PairTongue.turned" (au md) (aq md) (ae md) .none dr Yz Gx dm cf Xu),Fx⟩)
 (cM:W.codeIn K cf "PairTongue.turned"=true)
 (WF:W.keepIn K (.ref Sf)=true)
 (uP:W.findIn K (.ref ea) "row_of"=some (some (.ref wd)))
 (bU:W.isFn K (.ref wd)=true)
 (HJ:K.lookup wd=some ⟨El,Sq,.func (W.fnOf "row_of" "PairTongue.row_of" (au mf) (aq mf) (ae mf) .none us dl Ok ly Of wl),pk⟩)
 (VH:W.codeIn K Of "PairTongue.row_of"=true)
 (TG:W.keepIn K (.ref wd)=true)
 (oV:W.findIn K (.ref ea) "units_in"=some (some (.ref Rh)))
 (oR:W.isFn K (.ref Rh)=true)
 (nT:K.lookup Rh=some ⟨Xv,Rz,.func (W.fnOf "units_in" "PairTongue.units_in" (au jo) (aq jo) (ae jo) .none Bx Zp Vo No th Rn),Rq⟩)
 (pH:W.codeIn K th "PairTongue.units_in"=true)
 (dG:W.keepIn K (.ref Rh)=true)
 (WT:W.findIn K (.ref ea) "spell"=some (some (.ref ef)))
 (fV:W.isFn K (.ref ef)=true)
 (qJ:K.lookup ef=some ⟨Vl,nn,.func (W.fnOf "spell" "PairTongue.spell" (au me) (aq me) (ae me) (.ref qd) lk rr pt Ik af Dy),Ot⟩)
 (bO:W.codeIn K af "PairTongue.spell"=true)
 (ZF:W.keepIn K (.ref ef)=true)
 (FT:K.lookup qd=some ⟨Ac,fe,.seq ([.int 0 Za]:List Value).toArray di,Gh⟩)
 (PN:W.findIn K (.ref ea) "whole"=some (some (.ref mi)))
 (pR:W.isFn K (.ref mi)=true)
 (KN:K.lookup mi=some ⟨Uw,bs,.func (W.fnOf "whole" "PairTongue.whole" (au l9) (aq l9) (ae l9) (.ref uh) Gk rt Yy bz Zc Av),Hk⟩)
 (nM:W.codeIn K Zc "PairTongue.whole"=true)
 (ZG:W.keepIn K (.ref mi)=true)
 (gH:K.lookup uh=some ⟨Wc,wi,.seq ([.int 0 La]:List Value).toArray Me,Xg⟩)
 (jL:W.findIn K (.ref ea) "fill"=some (some (.ref Wf)))
 (sI:W.isFn K (.ref Wf)=true)
 (YL:K.lookup Wf=some ⟨ny,YZ,.func (W.fnOf "fill" "PairTongue.fill" (au mm) (aq mm) (ae mm) (.ref Ii) Is Zk Ap bk re os),Qt⟩)
 (wL:W.codeIn K re "PairTongue.fill"=true)
 (pG:W.keepIn K (.ref Wf)=true)
 (gP:K.lookup Ii=some ⟨Fd,Xf,.seq ([.int 0 db]:List Value).toArray ad,Gf⟩)
 (vW:W.nsIn K mainGlobals "mark_row"=some (some (.ref Hj)))
 (vH:K.lookup Hj=some ⟨fk,wu,.func (W.fnOf "mark_row" "mark_row" (au kB) (aq kB) (ae kB) .none tu Zu Jz es ah tl),bp⟩)
 (LK:W.codeIn K ah "mark_row"=true)
 (SQ:W.keepIn K (.ref Hj)=true)
 (zM:W.nsIn K mainGlobals "marked"=some (some (.ref Dj)))
 (xU:K.lookup Dj=some ⟨en,ey,.func (W.fnOf "marked" "marked" (au kz) (aq kz) (ae kz) (.ref ve) Fr Ep vq Cq Cf Ez),ek⟩)
 (QK:W.codeIn K Cf "marked"=true)
 (aQ:W.keepIn K (.ref Dj)=true)
 (nU:K.lookup ve=some ⟨Fe,Xc,.seq ([.str "high" hb]:List Value).toArray Kg,ni⟩)
 (mL:W.nsIn K mainGlobals "unmarked"=some (some (.ref qj)))
 (zT:K.lookup qj=some ⟨gr,to,.func (W.fnOf "unmarked" "unmarked" (au kh) (aq kh) (ae kh) .none qp Qx Cr Xl rf xm),qz⟩)
 (YK:W.codeIn K rf "unmarked"=true)
 (vR:W.keepIn K (.ref qj)=true)
 (ZP:W.nsIn K mainGlobals "read"=some (some (.ref Bj)))
 (XK:K.lookup Bj=some ⟨Ul,Mu,.func (W.fnOf "read" "read" (au kt) (aq kt) (ae kt) .none tp Pw Ly tq Ld Ml),Vx⟩)
 (fU:W.codeIn K Ld "read"=true)
 (fL:W.keepIn K (.ref Bj)=true)
 (WM:W.nsIn K mainGlobals "places_in"=some (some (.ref wj)))
 (HW:K.lookup wj=some ⟨Fo,Xy,.func (W.fnOf "places_in" "places_in" (au ku) (aq ku) (ae ku) .none ss Tr an sq Cc gs),vs⟩)
 (mQ:W.codeIn K Cc "places_in"=true)
 (YH:W.keepIn K (.ref wj)=true)
 (zq:W.nsIn K mainGlobals "ShiftTongue"=some (some (.ref aa)))
 (rM:W.plainGet K aa Str.empty=true)
 (sy:W.hasDictIn K aa=true)
 (r0:W.plainOver K aa=true)
 (rA:W.findIn K (.ref aa) "__setattr__"=some (some (.builtin "object.__setattr__")))
 (yX:W.makesIn K aa=true)
 (zd:W.keepIn K (.ref aa)=true)
 (ye:W.findIn K (.ref aa) "__class__"=some (some (.builtin "object.__class__")))
 (xX:W.specialIn K (.builtin "object.__class__") "__get__"=some (some (.builtin "getset_descriptor.__get__")))
 (xK:W.takesIn K (.builtin "object.__class__")=some true)
 (pB:W.mroIn K aa (.type "object")=some true)
 (yB:W.findIn K (.ref aa) "lists"=some none)
 (yA:W.findIn K (.ref aa) "places"=some none)
 (yy:W.findIn K (.ref aa) "shifted"=some none)
 (jQ:W.findIn K (.ref aa) "__init__"=some (some (.ref Nd)))
 (CT:W.isFn K (.ref Nd)=true)
 (cL:K.lookup Nd=some ⟨Rk,Gt,.func (W.fnOf "__init__" "ShiftTongue.__init__" (au lO) (aq lO) (ae lO) .none Iy rv Nk yz Lh Wo),hu⟩)
 (ZQ:W.codeIn K Lh "ShiftTongue.__init__"=true)
 (wI:W.keepIn K (.ref Nd)=true)
 (uO:W.findIn K (.ref aa) "row_beyond"=some (some (.ref Ee)))
 (HH:W.isFn K (.ref Ee)=true)
 (aP:K.lookup Ee=some ⟨qx,wn,.func (W.fnOf "row_beyond" "ShiftTongue.row_beyond" (au lN) (aq lN) (ae lN) .none Ln gn Jv Oj je Xp),kv⟩)
 (mR:W.codeIn K je "ShiftTongue.row_beyond"=true)
 (QG:W.keepIn K (.ref Ee)=true)
 (cV:W.findIn K (.ref aa) "spell"=some (some (.ref Ai)))
 (qH:W.isFn K (.ref Ai)=true)
 (NT:K.lookup Ai=some ⟨Bo,Xo,.func (W.fnOf "spell" "ShiftTongue.spell" (au lL) (aq lL) (ae lL) (.ref Bf) Rp ut Gz tz Ig Cx),nl⟩)
 (PL:W.codeIn K Ig "ShiftTongue.spell"=true)
 (bG:W.keepIn K (.ref Ai)=true)
 (pM:K.lookup Bf=some ⟨xf,sh,.seq ([.int 0 Qa]:List Value).toArray Xe,td⟩)
 (zL:W.findIn K (.ref aa) "sign_of"=some (some (.ref Kc)))
 (oW:W.isFn K (.ref Kc)=true)
 (CW:K.lookup Kc=some ⟨hz,Mp,.func (W.fnOf "sign_of" "ShiftTongue.sign_of" (au lM) (aq lM) (ae lM) .none Qp vv Vn Fw Sd Iw),Nr⟩)
 (eV:W.codeIn K Sd "ShiftTongue.sign_of"=true)
 (xG:W.keepIn K (.ref Kc)=true)
 (jN:W.findIn K (.ref aa) "whole"=some (some (.ref hd)))
 (bV:W.isFn K (.ref hd)=true)
 (qQ:K.lookup hd=some ⟨um,im,.func (W.fnOf "whole" "ShiftTongue.whole" (au lK) (aq lK) (ae lK) (.ref Uh) Hv Qq Zn bl Le Kv),Yw⟩)
 (jK:W.codeIn K Le "ShiftTongue.whole"=true)
 (aH:W.keepIn K (.ref hd)=true)
 (JS:K.lookup Uh=some ⟨Ae,Dg,.seq ([.int 0 bb]:List Value).toArray fd,vg⟩)
 (oN:W.findIn K (.ref aa) "fill"=some (some (.ref Gg)))
 (qL:W.isFn K (.ref Gg)=true)
 (ZV:K.lookup Gg=some ⟨dp,Gr,.func (W.fnOf "fill" "ShiftTongue.fill" (au lP) (aq lP) (ae lP) (.ref Df) gk rm bx Zz bi Zr),It⟩)
 (ZW:W.codeIn K bi "ShiftTongue.fill"=true)
 (JG:W.keepIn K (.ref Gg)=true)
 (DK:K.lookup Df=some ⟨De,hf,.seq ([.int 0 Ka]:List Value).toArray Zf,ii⟩)
 (aR:W.nsIn K mainGlobals "is_entry"=some (some (.ref Kj)))
 (dU:K.lookup Kj=some ⟨Nl,Bl,.func (W.fnOf "is_entry" "is_entry" (au kN) (aq kN) (ae kN) .none kV83 Xn js Sj Ge ty),zs⟩)
 (dR:W.codeIn K Ge "is_entry"=true)
 (JQ:W.keepIn K (.ref Kj)=true)
 (RP:W.nsIn K mainGlobals "collide"=some (some (.ref Mi)))
 (aO:K.lookup Mi=some ⟨Xw,hn,.func (W.fnOf "collide" "collide" (au kQ) (aq kQ) (ae kQ) .none tn fp bv pq Te sm),py⟩)
 (CP:W.codeIn K Te "collide"=true)
 (pW:W.keepIn K (.ref Mi)=true)
 (BW:W.nsIn K mainGlobals "check_table"=some (some (.ref Ti)))
 (oJ:K.lookup Ti=some ⟨Pm,Yl,.func (W.fnOf "check_table" "check_table" (au kR) (aq kR) (ae kR) .none Ts Ws Fp Ix Gd uu),Vv⟩)
 (oU:W.codeIn K Gd "check_table"=true)
 (ZJ:W.keepIn K (.ref Ti)=true)
 (zp:W.nsIn K mainGlobals "TableTongue"=some (some (.ref ca)))
 (rL:W.plainGet K ca Str.empty=true)
 (sx:W.hasDictIn K ca=true)
 (rZ:W.plainOver K ca=true)
 (rq:W.findIn K (.ref ca) "__setattr__"=some (some (.builtin "object.__setattr__")))
 (yW:W.makesIn K ca=true)
 (zc:W.keepIn K (.ref ca)=true)
 (yd:W.findIn K (.ref ca) "__class__"=some (some (.builtin "object.__class__")))
 (xW:W.specialIn K (.builtin "object.__class__") "__get__"=some (some (.builtin "getset_descriptor.__get__")))
 (xJ:W.takesIn K (.builtin "object.__class__")=some true)
 (jB:W.mroIn K ca (.type "object")=some true)
 (yx:W.findIn K (.ref ca) "rest_by_row"=some none)
 (yw:W.findIn K (.ref ca) "row_by_sign"=some none)
 (yu:W.findIn K (.ref ca) "sign_by_row"=some none)
 (zN:W.findIn K (.ref ca) "__init__"=some (some (.ref oe)))
 (RJ:W.isFn K (.ref oe)=true)
 (CV:K.lookup oe=some ⟨ts,JZ,.func (W.fnOf "__init__" "TableTongue.__init__" (au lH) (aq lH) (ae lH) .none Kk oy Ql sp Hh Ow),jw⟩)
 (vJ:W.codeIn K Hh "TableTongue.__init__"=true)
 (JT:W.keepIn K (.ref oe)=true)
 (WL:W.findIn K (.ref ca) "enter"=some (some (.ref Jf)))
 (sW:W.isFn K (.ref Jf)=true)
 (dM:K.lookup Jf=some ⟨Tt,Es,.func (W.fnOf "enter" "TableTongue.enter" (au lJ) (aq lJ) (ae lJ) .none Oy hx Nv Ry Ic Mm),lq⟩)
 (jR:W.codeIn K Ic "TableTongue.enter"=true)
 (UG:W.keepIn K (.ref Jf)=true)
 (rI:W.findIn K (.ref ca) "spell"=some (some (.ref Be)))
 (TQ:W.isFn K (.ref Be)=true)
 (wH:K.lookup Be=some ⟨Xs,Yo,.func (W.fnOf "spell" "TableTongue.spell" (au lG) (aq lG) (ae lG) (.ref Ch) wk pp Nn du Jd Kt),Rw⟩)
 (aJ:W.codeIn K Jd "TableTongue.spell"=true)
 (TF:W.keepIn K (.ref Be)=true)
 (TP:K.lookup Ch=some ⟨Tg,qh,.seq ([.int 0 Wa]:List Value).toArray Je,sg⟩)
 (JV:W.findIn K (.ref ca) "whole"=some (some (.ref Ze)))
 (cO:W.isFn K (.ref Ze)=true)
 (xH:K.lookup Ze=some ⟨Vs,Ou,.func (W.fnOf "whole" "TableTongue.whole" (au lF) (aq lF) (ae lF) (.ref ig) Lt Vq Kl ou Vh lo),Uq⟩)
 (fP:W.codeIn K Vh "TableTongue.whole"=true)
 (vG:W.keepIn K (.ref Ze)=true)
 (DW:K.lookup ig=some ⟨bd,Kf,.seq ([.int 0 ab]:List Value).toArray fi,gi⟩)
 (tK:W.findIn K (.ref ca) "fill"=some (some (.ref eg)))
 (RK:W.isFn K (.ref eg)=true)
 (JH:K.lookup eg=some ⟨al,Go,.func (W.fnOf "fill" "TableTongue.fill" (au lI) (aq lI) (ae lI) (.ref Ag) Xt Dt Yv Dl cg Cn),An⟩)
 (aW:W.codeIn K cg "TableTongue.fill"=true)
 (eG:W.keepIn K (.ref eg)=true)
 (jT:K.lookup Ag=some ⟨de,df,.seq ([.int 0 Pa]:List Value).toArray Sh,Oh⟩)
 (uI:W.nsIn K mainGlobals "_law_pick"=some (some (.ref Vi)))
 (VN:K.lookup Vi=some ⟨Xx,Yn,.func (W.fnOf "_law_pick" "_law_pick" (au j6) (aq j6) (ae j6) .none Su Sy Xm iq If ep),cw⟩)
 (wJ:W.codeIn K If "_law_pick"=true)
 (PP:W.keepIn K (.ref Vi)=true)
 (KQ:W.nsIn K mainGlobals "_law_sign"=some (some (.ref xj)))
 (FJ:K.lookup xj=some ⟨Jo,kn,.func (W.fnOf "_law_sign" "_law_sign" (au jY) (aq jY) (ae jY) .none Lw eo ap xr xe Yq),Am⟩)
 (PJ:W.codeIn K xe "_law_sign"=true)
 (nP:W.keepIn K (.ref xj)=true)
 (iM:W.nsIn K mainGlobals "_law_pool"=some (some (.ref cj)))
 (NQ:K.lookup cj=some ⟨gz,ax,.func (W.fnOf "_law_pool" "_law_pool" (au j3) (aq j3) (ae j3) .none iv Hr px Ex hh Rs),hk⟩)
 (IW:W.codeIn K hh "_law_pool"=true)
 (vK:W.keepIn K (.ref cj)=true)
 (CJ:W.nsIn K mainGlobals "_law_digits"=some (some (.ref mj)))
 (BV:K.lookup mj=some ⟨Hn,Hp,.func (W.fnOf "_law_digits" "_law_digits" (au ka) (aq ka) (ae ka) .none Fy Bw xl go xi Xj),tx⟩)
 (ZS:W.codeIn K xi "_law_digits"=true)
 (dK:W.keepIn K (.ref mj)=true)
 (PT:W.nsIn K mainGlobals "_law_plan"=some (some (.ref vj)))
 (KH:K.lookup vj=some ⟨gy,Im,.func (W.fnOf "_law_plan" "_law_plan" (au j4) (aq j4) (ae j4) .none Dw Ir Uz Qv xg Dn),jr⟩)
 (BR:W.codeIn K xg "_law_plan"=true)
 (vQ:W.keepIn K (.ref vj)=true)
 (VJ:W.nsIn K mainGlobals "_law_made"=some (some (.ref bj)))
 (zO:K.lookup bj=some ⟨bw,Jl,.func (W.fnOf "_law_made" "_law_made" (au j8) (aq j8) (ae j8) .none Rj ZZ Pt Zy Jh Uv),Sz⟩)
 (WQ:W.codeIn K Jh "_law_made"=true)
 (wU:W.keepIn K (.ref bj)=true)
 (NK:W.nsIn K mainGlobals "_law_lead"=some (some (.ref oj)))
 (tM:K.lookup oj=some ⟨Lq,nr,.func (W.fnOf "_law_lead" "_law_lead" (au j9) (aq j9) (ae j9) .none Rx Vk St Ol Pg bo),Pk⟩)
 (JR:W.codeIn K Pg "_law_lead"=true)
 (wR:W.keepIn K (.ref oj)=true)
 (HR:W.nsIn K mainGlobals "_law_units"=some (some (.ref Wi)))
 (JW:K.lookup Wi=some ⟨Qw,Qo,.func (W.fnOf "_law_units" "_law_units" (au jW) (aq jW) (ae jW) .none Dx Du Co ix dd vl),Vt⟩)
 (aL:W.codeIn K dd "_law_units"=true)
 (JM:W.keepIn K (.ref Wi)=true)
 (sU:W.nsIn K mainGlobals "_law_shifted"=some (some (.ref dj)))
 (dJ:K.lookup dj=some ⟨cr,Tu,.func (W.fnOf "_law_shifted" "_law_shifted" (au jZ) (aq jZ) (ae jZ) .none rx Sw ms ml Hc Sv),ct⟩)
 (ZR:W.codeIn K Hc "_law_shifted"=true)
 (dO:W.keepIn K (.ref dj)=true)
 (xF:W.nsIn K mainGlobals "_law_spelled"=some (some (.ref sb)))
 (uE:K.lookup sb=some ⟨bh,se,.func (W.fnOf "_law_spelled" "_law_spelled" (au ji) (aq ji) (ae ji) .none vi Oe ff Hg Zb Ce),Pf⟩)
 (tE:W.codeIn K Zb "_law_spelled"=true)
 (pF:W.keepIn K (.ref sb)=true)
 (jF:W.nsIn K mainGlobals "_law_written"=some (some (.ref Kb)))
 (JF:K.lookup Kb=some ⟨ih,Id,.func (W.fnOf "_law_written" "_law_written" (au jV) (aq jV) (ae jV) .none Og Gi Lg Qf Wb Fg),Wg⟩)
 (eE:W.codeIn K Wb "_law_written"=true)
 (cF:W.keepIn K (.ref Kb)=true)
 (wF:W.nsIn K mainGlobals "_law_pieces"=some (some (.ref ub)))
 (ZD:K.lookup ub=some ⟨Kh,Qg,.func (W.fnOf "_law_pieces" "_law_pieces" (au j5) (aq j5) (ae j5) .none ag ue Ud oh Ub Od),Xh⟩)
 (GF:W.codeIn K Ub "_law_pieces"=true)
 (qF:W.keepIn K (.ref ub)=true)
 (eF:W.nsIn K mainGlobals "_law_through"=some (some (.ref Tb)))
 (bF:K.lookup Tb=some ⟨be,nd,.func (W.fnOf "_law_through" "_law_through" (au jX) (aq jX) (ae jX) .none Vf tf ee Ef Xb ch),vf⟩)
 (HF:W.codeIn K Xb "_law_through"=true)
 (zE:W.keepIn K (.ref Tb)=true)
 (HD:W.nsIn K mainGlobals "_law_marked"=some (some (.ref Cb)))
 (GD:K.lookup Cb=some ⟨Rd,Jc,.func (W.fnOf "_law_marked" "_law_marked" (au j7) (aq j7) (ae j7) .none pe Af ph we cc Wh),Dc⟩)
 (jE:W.codeIn K cc "_law_marked"=true)
 (JD:W.keepIn K (.ref Cb)=true)
 (nF:W.nsIn K mainGlobals "_law_clean"=some (some (.ref tb)))
 (mF:K.lookup tb=some ⟨fg,Xd,.func (W.fnOf "_law_clean" "_law_clean" (au kc) (aq kc) (ae kc) .none Se qi Tf Ec Vb gd),Zg⟩)
 (RD:W.codeIn K Vb "_law_clean"=true)
 (XD:W.keepIn K (.ref tb)=true)
 (uF:W.nsIn K mainGlobals "law"=some (some (.ref Db)))
 (dF:K.lookup Db=some ⟨Uc,qe,.func (W.fnOf "law" "law" (au fS) (aq fS) (ae fS) .none xd Lc Ue Pe Yb og),hi⟩)
 (oE:W.codeIn K Yb "law"=true)
 (OD:W.keepIn K (.ref Db)=true)
 (cA:W.findIn K (.ref ba) "faults"=some (some (.ref a1)))
 (nA:W.findIn K (.ref ba) "feed"=some (some (.ref a2)))
 (zA:W.findIn K (.ref ba) "end"=some (some (.ref a3)))
 (uA:W.findIn K (.ref ba) "take"=some (some (.ref a4)))
 (aA:W.findIn K (.ref ba) "look_at_begun"=some (some (.ref a5)))
 (bA:W.findIn K (.ref ba) "meet_none"=some (some (.ref a6)))
 (oA:W.findIn K (.ref ba) "note"=some (some (.ref a8)))
 (aB:W.findIn K (.ref ea) "look"=some (some (.ref bc)))
 (vA:W.findIn K (.ref aa) "unit"=some (some (.ref dc)))
 (pA:W.findIn K (.ref aa) "look"=some (some (.ref bc)))
 (wA:W.findIn K (.ref ca) "unit"=some (some (.ref dc)))
 (gA:W.findIn K (.ref ca) "look"=some (some (.ref bc)))
 (zn:W.nsIn K mainGlobals "Writer"=some (some (.ref na)))
 (zF:W.specialIn K (.ref na) "__getattribute__"=some (some (.builtin "type.__getattribute__")))
 (zG:W.readsIn K na (.type "type")=true)
 (zI:W.findCls K (.ref na) (.type "type") "__init__"=some (.val (.ref Ki)))
 (k0:W.nsIn K mainGlobals "BITS"=some (some (.int 6 u0)))
 (k1:W.nsIn K mainGlobals "BYTE_BITS"=some (some (.int 8 u1)))
 (k2:W.nsIn K mainGlobals "FILLS"=some (some (.ref Ui)))
 (wZ:K.lookup Ui=some ⟨.type "dict",none,.dict es2 ep2,#[]⟩)
 (nZ:iZ es2.toList=some [(pb,("high" : Str),kb),(ob,("low" : Str),nb)])
 (XX:(Ui == sysModules)=false)
 (YD:pb=hashStr w "high")
 (gF:ob=hashStr w "low")
 (QD:K.lookup kb=some ⟨.type "tuple",none,.seq mb Hi,jd⟩)
 (oF:gM mb.toList=some [qa,za,ua,ta,Aa])
 (WD:Nat.ble mb.size 1000=true)
 (JB:K.lookup qa=some ⟨.type "tuple",none,.seq va Sb,Lb⟩)
 (qC:cH ([]:f6) va.toList=true)
 (iC:Nat.ble va.size 1000=true)
 (YB:K.lookup za=some ⟨.type "tuple",none,.seq Ga Eb,Ob⟩)
 (XC:cH ([0]:f6) Ga.toList=true)
 (wC:Nat.ble Ga.size 1000=true)
 (KC:K.lookup ua=some ⟨.type "tuple",none,.seq wa Fb,Rb⟩)
 (RC:cH ([0,0]:f6) wa.toList=true)
 (fC:Nat.ble wa.size 1000=true)
 (RB:K.lookup ta=some ⟨.type "tuple",none,.seq sa Jb,vb⟩)
 (tC:cH ([220,0]:f6) sa.toList=true)
 (YC:Nat.ble sa.size 1000=true)
 (HB:K.lookup Aa=some ⟨.type "tuple",none,.seq Ea xb,Mb⟩)
 (cC:cH ([0,220,0]:f6) Ea.toList=true)
 (gC:Nat.ble Ea.size 1000=true)
 (MF:K.lookup nb=some ⟨.type "tuple",none,.seq lb ri,Qh⟩)
 (KD:gM lb.toList=some [Fa,Da,xa,Ia,Ha])
 (VD:Nat.ble lb.size 1000=true)
 (uC:K.lookup Fa=some ⟨.type "tuple",none,.seq pa qb,Gb⟩)
 (GC:cH ([]:f6) pa.toList=true)
 (NB:Nat.ble pa.size 1000=true)
 (QC:K.lookup Da=some ⟨.type "tuple",none,.seq oa Hb,Qb⟩)
 (nC:cH ([0]:f6) oa.toList=true)
 (jC:Nat.ble oa.size 1000=true)
 (vC:K.lookup xa=some ⟨.type "tuple",none,.seq Ba Pb,Ib⟩)
 (pC:cH ([220]:f6) Ba.toList=true)
 (VB:Nat.ble Ba.size 1000=true)
 (QB:K.lookup Ia=some ⟨.type "tuple",none,.seq Ca rb,Ab⟩)
 (PB:cH ([0,0]:f6) Ca.toList=true)
 (aC:Nat.ble Ca.size 1000=true)
 (JC:K.lookup Ha=some ⟨.type "tuple",none,.seq ra wb,Bb⟩)
 (LC:cH ([0,220]:f6) ra.toList=true)
 (dC:Nat.ble ra.size 1000=true)
 (k3:W.nsIn K mainGlobals "FIRST_BEHIND"=some (some (.int 128 u3)))
 (k4:W.nsIn K mainGlobals "FIRST_HEAD"=some (some (.int 55296 u4)))
 (k5:W.nsIn K mainGlobals "FIRST_SEEN"=some (some (.int 61184 u5)))
 (k6:W.nsIn K mainGlobals "FIRST_TAIL"=some (some (.int 56320 u6)))
 (k7:W.nsIn K mainGlobals "FIRST_WIDE"=some (some (.int 65536 u7)))
 (k8:W.nsIn K mainGlobals "GROUP_BYTES"=some (some (.int 3 u8)))
 (k9:W.nsIn K mainGlobals "GROUP_LETTERS"=some (some (.int 4 u9)))
 (fY:W.nsIn K mainGlobals "HALF_BITS"=some (some (.int 10 u10)))
 (nY:W.nsIn K mainGlobals "LAST_BEHIND"=some (some (.int 191 u11)))
 (qY:W.nsIn K mainGlobals "LAST_BYTE"=some (some (.int 255 u12)))
 (uY:W.nsIn K mainGlobals "LAST_SEEN"=some (some (.int 61439 u13)))
 (dY:W.nsIn K mainGlobals "LAST_SIGN"=some (some (.int 1114111 u14)))
 (k15:W.nsIn K mainGlobals "LAST_TAIL"=some (some (.int 57343 u15)))
 (WX:W.nsIn K mainGlobals "LEADS"=some (some (.ref tc)))
 (aG:K.lookup tc=some ⟨.type "tuple",none,.seq jc Gm,Qm⟩)
 (wW:cH ([0,0,192,224,240]:f6) jc.toList=true)
 (YS:Nat.ble jc.size 1000=true)
 (tZ:W.nsIn K mainGlobals "LETTERS"=some (some (.ref mc)))
 (YG:K.lookup mc=some ⟨.type "tuple",none,.seq gc Pz,Zv⟩)
 (aM:cH ([45,48,49,50,51,52,53,54,55,56,57,65,66,67,68,69,70,71,72,73,74,75,76,77,78,79,80,81,82,83,84,85,86,87,88,89,90,95,97,98,99,100,101,102,103,104,105,106,107,108,109,110,111,112,113,114,115,116,117,118,119,120,121,122]:f6) gc.toList=true)
 (RM:Nat.ble gc.size 1000=true)
 (KY:W.nsIn K mainGlobals "LETTER_BITS"=some (some (.int 6 u18)))
 (WY:W.nsIn K mainGlobals "MARK"=some (some (.int 65279 u19)))
 (qZ:W.nsIn K mainGlobals "MOST_BYTES"=some (some (.int 6 u20)))
 (gZ:W.nsIn K mainGlobals "MOST_SIGNS"=some (some (.int 250 u21)))
 (mZ:W.nsIn K mainGlobals "MOST_TUPLES"=some (some (.int 64 u22)))
 (PX:W.nsIn K mainGlobals "ORDERS"=some (some (.ref fc)))
 (XR:K.lookup fc=some ⟨.type "tuple",none,.seq uc dn,ts23⟩)
 (SM:iH ["high", "low"] uc.toList=true)
 (IK:Nat.ble uc.size 1000=true)
 (mY:W.nsIn K mainGlobals "SECONDS"=some (some (.ref Nb)))
 (WP:K.lookup Nb=some ⟨.type "dict",none,.dict Ye Cl,#[]⟩)
 (BK:jA Ye.toList=some [(224,Ma),(237,cb),(238,ib),(240,Ta),(244,Oa)])
 (dN:(Nb == sysModules)=false)
 (bD:K.lookup Ma=some ⟨.type "tuple",none,.seq Ja wc,oc⟩)
 (dD:cH ([160,191]:f6) Ja.toList=true)
 (jD:Nat.ble Ja.size 1000=true)
 (cD:K.lookup cb=some ⟨.type "tuple",none,.seq Ua lc,hc⟩)
 (pD:cH ([128,159]:f6) Ua.toList=true)
 (qD:Nat.ble Ua.size 1000=true)
 (iD:K.lookup ib=some ⟨.type "tuple",none,.seq Na ec,rc⟩)
 (nD:cH ([128,187]:f6) Na.toList=true)
 (gD:Nat.ble Na.size 1000=true)
 (fD:K.lookup Ta=some ⟨.type "tuple",none,.seq Xa qc,nc⟩)
 (mD:cH ([144,191]:f6) Xa.toList=true)
 (aD:Nat.ble Xa.size 1000=true)
 (ZC:K.lookup Oa=some ⟨.type "tuple",none,.seq fb vc,ic⟩)
 (lD:cH ([128,143]:f6) fb.toList=true)
 (tD:Nat.ble fb.size 1000=true)
 (pY:W.nsIn K mainGlobals "SHIFTS"=some (some (.ref sc)))
 (wG:K.lookup sc=some ⟨.type "tuple",none,.seq pc Zm,Zo⟩)
 (gQ:cH ([254,255]:f6) pc.toList=true)
 (bN:Nat.ble pc.size 1000=true)
 (z0:W.nsIn K mainGlobals "all"=some none)
 (z1:W.nsIn K mainGlobals "bool"=some none)
 (z2:W.nsIn K mainGlobals "enumerate"=some none)
 (z3:W.nsIn K mainGlobals "int"=some none)
 (z4:W.nsIn K mainGlobals "isinstance"=some none)
 (z5:W.nsIn K mainGlobals "len"=some none)
 (z6:W.nsIn K mainGlobals "list"=some none)
 (z7:W.nsIn K mainGlobals "range"=some none)
 (z8:W.nsIn K mainGlobals "reversed"=some none)
 (z9:W.nsIn K mainGlobals "str"=some none)
 (uZ:W.nsIn K mainGlobals "sum"=some none)
 (QX:W.nsIn K mainGlobals "tuple"=some none):∃t,Txt w K mg t:=by
  have F0:=dI (st:=lY) oZ EY tY BZ;have bd0:=F0.binds (ps:=["self", "tongue", "place"]) (ds:=[.int 0 jb]) (λ_ _ _ _ _ _ _=>Yg λ_ _=>⟨_,rfl,rfl⟩);have b0:=F0.binds (ps:=["self", "tongue", "place"]) (ds:=[]) (λ_ _ _ _ _ _ _=>Yh λ_ _ _=>⟨_,rfl,rfl⟩);have F1:=aK (st:=l5) pZ cY mX;have b1:=F1.binds (ps:=["self"]) (λ_ _ _ _ _ _=>bC λ_=>rfl);have F2:=aK (st:=lZ) TY eY uX;have b2:=F2.binds (ps:=["self", "row"]) (λ_ _ _ _ _ _=>bB λ_ _=>rfl);have F3:=aK (st:=l7) sZ DY tX;have b3:=F3.binds (ps:=["self"]) (λ_ _ _ _ _ _=>bC λ_=>rfl);have F4:=aK (st:=lU) fZ iY sX;have b4:=F4.binds (ps:=["self", "byte"]) (λ_ _ _ _ _ _=>bB λ_ _=>rfl);have F5:=aK (st:=lX) YX wY qX;have b5:=F5.binds (ps:=["self"]) (λ_ _ _ _ _ _=>bC λ_=>rfl);have F6:=aK (st:=lV) HY gY oX;have b6:=F6.binds (ps:=["self"]) (λ_ _ _ _ _ _=>bC λ_=>rfl);have F7:=aK (st:=lW) oY zY GX;have b7:=F7.binds (ps:=["self", "length", "kind"]) (λ_ _ _ _ _ _=>cz λ_ _ _=>rfl);have F8:=aK (st:=nG) sY bZ pX;have b8:=F8.binds (ps:=["self", "length", "kind"]) (λ_ _ _ _ _ _=>cz λ_ _ _=>rfl);have F9:=aK (st:=kL) vZ aZ zZ;have b9:=F9.binds (ps:=["thing"]) (λ_ _ _ _ _ _=>bC λ_=>rfl);have F10:=aK (st:=kO) lR wQ IV;have b10:=F10.binds (ps:=["thing"]) (λ_ _ _ _ _ _=>bC λ_=>rfl);have F11:=aK (st:=kM) zQ nO wV;have b11:=F11.binds (ps:=["number"]) (λ_ _ _ _ _ _=>bC λ_=>rfl);have F12:=aK (st:=kH) UL aX ZL;have b12:=F12.binds (ps:=["number"]) (λ_ _ _ _ _ _=>bC λ_=>rfl);have F13:=aK (st:=kK) rU wK RQ;have b13:=F13.binds (ps:=["thing"]) (λ_ _ _ _ _ _=>bC λ_=>rfl);have F14:=aK (st:=kJ) RW qU CN;have b14:=F14.binds (ps:=["thing"]) (λ_ _ _ _ _ _=>bC λ_=>rfl);have F15:=aK (st:=jk) eH eX DP;have b15:=F15.binds (ps:=["thing"]) (λ_ _ _ _ _ _=>bC λ_=>rfl);have np:=dI (st:=mC) FN zV LQ WR;have tm:=np.binds (ps:=["self", "tongue", "way", "place"]) (ds:=[.int 0 Sa]) (λ_ _ _ _ _ _ _=>Yh λ_ _ _=>⟨_,rfl,rfl⟩);have b16:=np.binds (ps:=["self", "tongue", "way", "place"]) (ds:=[]) (λ_ _ _ _ _ _ _=>Yi λ_ _ _ _=>⟨_,rfl,rfl⟩);have F17:=aK (st:=kf) TJ uR ZM;have b17:=F17.binds (ps:=["tongue", "text", "page"]) (λ_ _ _ _ _ _=>cz λ_ _ _=>rfl);have F18:=aK (st:=kg) fX RL bQ;have b18:=F18.binds (ps:=["tongue", "text"]) (λ_ _ _ _ _ _=>bB λ_ _=>rfl);have F19:=aK (st:=lT) NP iW jH;have b19:=F19.binds (ps:=["self", "tongue"]) (λ_ _ _ _ _ _=>bB λ_ _=>rfl);have F20:=aK (st:=lS) zU tU RG;have b20:=F20.binds (ps:=["self", "sign", "page"]) (λ_ _ _ _ _ _=>cz λ_ _ _=>rfl);have F21:=aK (st:=kY) JL QJ HN;have b21:=F21.binds (ps:=["self", "tongue"]) (λ_ _ _ _ _ _=>bB λ_ _=>rfl);have F22:=aK (st:=lQ) PQ VP MP;have b22:=F22.binds (ps:=["self", "tongue"]) (λ_ _ _ _ _ _=>bB λ_ _=>rfl);have F23:=aK (st:=kZ) tO aU VF;have b23:=F23.binds (ps:=["self", "text"]) (λ_ _ _ _ _ _=>bB λ_ _=>rfl);have uk:=dI (st:=lv) jP qR vM gW;have Uy:=uk.binds (ps:=["self", "source", "goal", "way", "instead"]) (ds:=[.none,.none]) (λ_ _ _ _ _ _ _=>Yh λ_ _ _=>⟨_,rfl,rfl⟩);have b24:=uk.binds (ps:=["self", "source", "goal", "way", "instead"]) (ds:=[]) (λ_ _ _ _ _ _ _=>Yj λ_ _ _ _ _=>⟨_,rfl,rfl⟩);have F25:=aK (st:=ls) VK fW QF;have b25:=F25.binds (ps:=["self"]) (λ_ _ _ _ _ _=>bC λ_=>rfl);have F26:=aK (st:=lA) PK eO XF;have b26:=F26.binds (ps:=["self"]) (λ_ _ _ _ _ _=>bC λ_=>rfl);have F27:=aK (st:=lz) UW qN cG;have b27:=F27.binds (ps:=["self", "row"]) (λ_ _ _ _ _ _=>bB λ_ _=>rfl);have F28:=aK (st:=lB) tQ pP jG;have b28:=F28.binds (ps:=["self"]) (λ_ _ _ _ _ _=>bC λ_=>rfl);have F29:=aK (st:=lh) fM uT DG;have b29:=F29.binds (ps:=["self", "things"]) (λ_ _ _ _ _ _=>bB λ_ _=>rfl);have F30:=aK (st:=lf) cI vP fG;have b30:=F30.binds (ps:=["self", "thing"]) (λ_ _ _ _ _ _=>bB λ_ _=>rfl);have F31:=aK (st:=kS) XM DQ iK;have b31:=F31.binds (ps:=["number", "bits"]) (λ_ _ _ _ _ _=>bB λ_ _=>rfl);have F32:=aK (st:=kx) QV SJ jU;have b32:=F32.binds (ps:=["number", "bits", "many"]) (λ_ _ _ _ _ _=>cz λ_ _ _=>rfl);have F33:=aK (st:=ko) BL bT dW;have b33:=F33.binds (ps:=["parts", "bits"]) (λ_ _ _ _ _ _=>bB λ_ _=>rfl);have F34:=aK (st:=kF) mU kI iQ;have b34:=F34.binds (ps:=["sign"]) (λ_ _ _ _ _ _=>bC λ_=>rfl);have F35:=aK (st:=jj) pJ pL QW;have b35:=F35.binds (ps:=["sign"]) (λ_ _ _ _ _ _=>bC λ_=>rfl);have F36:=aK (st:=kG) bW GR uQ;have b36:=F36.binds (ps:=["first"]) (λ_ _ _ _ _ _=>bC λ_=>rfl);have F37:=aK (st:=kU) eN bI tH;have b37:=F37.binds (ps:=["row", "place"]) (λ_ _ _ _ _ _=>bB λ_ _=>rfl);have F38:=aK (st:=kP) WN CK xT;have b38:=F38.binds (ps:=["row"]) (λ_ _ _ _ _ _=>bC λ_=>rfl);have F39:=aK (st:=ky) qT YT GP;have b39:=F39.binds (ps:=["row"]) (λ_ _ _ _ _ _=>bC λ_=>rfl);have F40:=aK (st:=jn) FP QS gR;have b40:=F40.binds (ps:=["row"]) (λ_ _ _ _ _ _=>bC λ_=>rfl);have Vz:=dI (st:=mz) sV QT qG GK;have kp:=Vz.binds (ps:=["self", "sign", "page"]) (ds:=[.int 0 Ra]) (λ_ _ _ _ _ _ _=>Yg λ_ _=>⟨_,rfl,rfl⟩);have b41:=Vz.binds (ps:=["self", "sign", "page"]) (ds:=[]) (λ_ _ _ _ _ _ _=>Yh λ_ _ _=>⟨_,rfl,rfl⟩);have ex:=dI (st:=my) jO dX oG pN;have tr:=ex.binds (ps:=["self", "row", "page"]) (ds:=[.int 0 eb]) (λ_ _ _ _ _ _ _=>Yg λ_ _=>⟨_,rfl,rfl⟩);have b42:=ex.binds (ps:=["self", "row", "page"]) (ds:=[]) (λ_ _ _ _ _ _ _=>Yh λ_ _ _=>⟨_,rfl,rfl⟩);have pl:=dI (st:=jp) BJ wN mG gV;have cp:=pl.binds (ps:=["self", "row", "page"]) (ds:=[.int 0 gb]) (λ_ _ _ _ _ _ _=>Yg λ_ _=>⟨_,rfl,rfl⟩);have b43:=pl.binds (ps:=["self", "row", "page"]) (ds:=[]) (λ_ _ _ _ _ _ _=>Yh λ_ _ _=>⟨_,rfl,rfl⟩);have F44:=aK (st:=lC) cW TV vD;have b44:=F44.binds (ps:=["self"]) (λ_ _ _ _ _ _=>bC λ_=>rfl);have qy:=dI (st:=lE) rW vL uD pU;have Zs:=qy.binds (ps:=["self", "begun", "page"]) (ds:=[.int 0 Ya]) (λ_ _ _ _ _ _ _=>Yg λ_ _=>⟨_,rfl,rfl⟩);have b45:=qy.binds (ps:=["self", "begun", "page"]) (ds:=[]) (λ_ _ _ _ _ _ _=>Yh λ_ _ _=>⟨_,rfl,rfl⟩);have F46:=aK (st:=jl) SN UJ bL;have b46:=F46.binds (ps:=["row"]) (λ_ _ _ _ _ _=>bC λ_=>rfl);have F47:=aK (st:=kE) OJ cX wO;have b47:=F47.binds (ps:=["row"]) (λ_ _ _ _ _ _=>bC λ_=>rfl);have F48:=aK (st:=jm) oM zW XJ;have b48:=F48.binds (ps:=["letters"]) (λ_ _ _ _ _ _=>bC λ_=>rfl);have F49:=aK (st:=kT) iU JN vU;have b49:=F49.binds (ps:=["letters"]) (λ_ _ _ _ _ _=>bC λ_=>rfl);have F50:=aK (st:=kD) pQ JP KR;have b50:=F50.binds (ps:=["row"]) (λ_ _ _ _ _ _=>bC λ_=>rfl);have F51:=aK (st:=ki) YW VL ZK;have b51:=F51.binds (ps:=["row"]) (λ_ _ _ _ _ _=>bC λ_=>rfl);have F52:=aK (st:=kW) iI fO uJ;have b52:=F52.binds (ps:=["things", "size"]) (λ_ _ _ _ _ _=>bB λ_ _=>rfl);have F53:=aK (st:=mn) YJ RN zH;have b53:=F53.binds (ps:=["self"]) (λ_ _ _ _ _ _=>bC λ_=>rfl);have F54:=aK (st:=nH) FQ aN CG;have b54:=F54.binds (ps:=["self"]) (λ_ _ _ _ _ _=>bC λ_=>rfl);have F55:=aK (st:=mo) qI nQ gG;have b55:=F55.binds (ps:=["self", "row"]) (λ_ _ _ _ _ _=>bB λ_ _=>rfl);have F56:=aK (st:=mq) XH uW iG;have b56:=F56.binds (ps:=["self"]) (λ_ _ _ _ _ _=>bC λ_=>rfl);have F57:=aK (st:=mr) uN LR zR;have b57:=F57.binds (ps:=["self"]) (λ_ _ _ _ _ _=>bC λ_=>rfl);have F58:=aK (st:=mx) oH sJ VG;have b58:=F58.binds (ps:=["self"]) (λ_ _ _ _ _ _=>bC λ_=>rfl);have F59:=aK (st:=mv) qM cJ YF;have b59:=F59.binds (ps:=["self", "row"]) (λ_ _ _ _ _ _=>bB λ_ _=>rfl);have F60:=aK (st:=mw) pI zJ uG;have b60:=F60.binds (ps:=["self"]) (λ_ _ _ _ _ _=>bC λ_=>rfl);have F61:=aK (st:=kX) uM oO qO;have b61:=F61.binds (ps:=["one", "other"]) (λ_ _ _ _ _ _=>bB λ_ _=>rfl);have F62:=aK (st:=kj) mW uK tL;have b62:=F62.binds (ps:=["sign"]) (λ_ _ _ _ _ _=>bC λ_=>rfl);have F63:=aK (st:=kr) UT jM nR;have b63:=F63.binds (ps:=["units"]) (λ_ _ _ _ _ _=>bC λ_=>rfl);have co:=dI (st:=mh) wM cU MJ XQ;have Rv:=co.binds (ps:=["self", "order"]) (ds:=[.str "high" Va]) (λ_ _ _ _ _ _ _=>Yk λ_=>⟨_,rfl,rfl⟩);have b64:=co.binds (ps:=["self", "order"]) (ds:=[]) (λ_ _ _ _ _ _ _=>Yg λ_ _=>⟨_,rfl,rfl⟩);have F65:=aK (st:=ma) gU bR tG;have b65:=F65.binds (ps:=["self"]) (λ_ _ _ _ _ _=>bC λ_=>rfl);have F66:=aK (st:=md) RT cM WF;have b66:=F66.binds (ps:=["self", "pair"]) (λ_ _ _ _ _ _=>bB λ_ _=>rfl);have F67:=aK (st:=mf) HJ VH TG;have b67:=F67.binds (ps:=["self", "units"]) (λ_ _ _ _ _ _=>bB λ_ _=>rfl);have F68:=aK (st:=jo) nT pH dG;have b68:=F68.binds (ps:=["self", "row"]) (λ_ _ _ _ _ _=>bB λ_ _=>rfl);have Wm:=dI (st:=me) qJ bO ZF FT;have wv:=Wm.binds (ps:=["self", "sign", "page"]) (ds:=[.int 0 Za]) (λ_ _ _ _ _ _ _=>Yg λ_ _=>⟨_,rfl,rfl⟩);have b69:=Wm.binds (ps:=["self", "sign", "page"]) (ds:=[]) (λ_ _ _ _ _ _ _=>Yh λ_ _ _=>⟨_,rfl,rfl⟩);have QZ:=dI (st:=l9) KN nM ZG gH;have Cs:=QZ.binds (ps:=["self", "row", "page"]) (ds:=[.int 0 La]) (λ_ _ _ _ _ _ _=>Yg λ_ _=>⟨_,rfl,rfl⟩);have b70:=QZ.binds (ps:=["self", "row", "page"]) (ds:=[]) (λ_ _ _ _ _ _ _=>Yh λ_ _ _=>⟨_,rfl,rfl⟩);have Om:=dI (st:=mm) YL wL pG gP;have Nz:=Om.binds (ps:=["self", "row", "page"]) (ds:=[.int 0 db]) (λ_ _ _ _ _ _ _=>Yg λ_ _=>⟨_,rfl,rfl⟩);have b71:=Om.binds (ps:=["self", "row", "page"]) (ds:=[]) (λ_ _ _ _ _ _ _=>Yh λ_ _ _=>⟨_,rfl,rfl⟩);have F72:=aK (st:=kB) vH LK SQ;have b72:=F72.binds (ps:=["tongue"]) (λ_ _ _ _ _ _=>bC λ_=>rfl);have Wk:=dI (st:=kz) xU QK aQ nU;have Lp:=Wk.binds (ps:=["text", "order"]) (ds:=[.str "high" hb]) (λ_ _ _ _ _ _ _=>Yk λ_=>⟨_,rfl,rfl⟩);have b73:=Wk.binds (ps:=["text", "order"]) (ds:=[]) (λ_ _ _ _ _ _ _=>Yg λ_ _=>⟨_,rfl,rfl⟩);have F74:=aK (st:=kh) zT YK vR;have b74:=F74.binds (ps:=["row"]) (λ_ _ _ _ _ _=>bC λ_=>rfl);have F75:=aK (st:=kt) XK fU fL;have b75:=F75.binds (ps:=["tongue", "row"]) (λ_ _ _ _ _ _=>bB λ_ _=>rfl);have F76:=aK (st:=ku) HW mQ YH;have b76:=F76.binds (ps:=["signs", "which"]) (λ_ _ _ _ _ _=>bB λ_ _=>rfl);have F77:=aK (st:=lO) cL ZQ wI;have b77:=F77.binds (ps:=["self", "first", "second"]) (λ_ _ _ _ _ _=>cz λ_ _ _=>rfl);have F78:=aK (st:=lN) aP mR QG;have b78:=F78.binds (ps:=["self", "page"]) (λ_ _ _ _ _ _=>bB λ_ _=>rfl);have Zx:=dI (st:=lL) NT PL bG pM;have lw:=Zx.binds (ps:=["self", "sign", "page"]) (ds:=[.int 0 Qa]) (λ_ _ _ _ _ _ _=>Yg λ_ _=>⟨_,rfl,rfl⟩);have b79:=Zx.binds (ps:=["self", "sign", "page"]) (ds:=[]) (λ_ _ _ _ _ _ _=>Yh λ_ _ _=>⟨_,rfl,rfl⟩);have F80:=aK (st:=lM) CW eV xG;have b80:=F80.binds (ps:=["self", "byte", "page"]) (λ_ _ _ _ _ _=>cz λ_ _ _=>rfl);have Xq:=dI (st:=lK) qQ jK aH JS;have ak:=Xq.binds (ps:=["self", "row", "page"]) (ds:=[.int 0 bb]) (λ_ _ _ _ _ _ _=>Yg λ_ _=>⟨_,rfl,rfl⟩);have b81:=Xq.binds (ps:=["self", "row", "page"]) (ds:=[]) (λ_ _ _ _ _ _ _=>Yh λ_ _ _=>⟨_,rfl,rfl⟩);have vu:=dI (st:=lP) ZV ZW JG DK;have hy:=vu.binds (ps:=["self", "row", "page"]) (ds:=[.int 0 Ka]) (λ_ _ _ _ _ _ _=>Yg λ_ _=>⟨_,rfl,rfl⟩);have b82:=vu.binds (ps:=["self", "row", "page"]) (ds:=[]) (λ_ _ _ _ _ _ _=>Yh λ_ _ _=>⟨_,rfl,rfl⟩);have F83:=aK (st:=kN) dU dR JQ;have b83:=F83.binds (ps:=["thing"]) (λ_ _ _ _ _ _=>bC λ_=>rfl);have F84:=aK (st:=kQ) aO CP pW;have b84:=F84.binds (ps:=["one", "other"]) (λ_ _ _ _ _ _=>bB λ_ _=>rfl);have F85:=aK (st:=kR) oJ oU ZJ;have b85:=F85.binds (ps:=["rows"]) (λ_ _ _ _ _ _=>bC λ_=>rfl);have F86:=aK (st:=lH) CV vJ JT;have b86:=F86.binds (ps:=["self", "rows"]) (λ_ _ _ _ _ _=>bB λ_ _=>rfl);have F87:=aK (st:=lJ) dM jR UG;have b87:=F87.binds (ps:=["self", "sign", "row"]) (λ_ _ _ _ _ _=>cz λ_ _ _=>rfl);have Nw:=dI (st:=lG) wH aJ TF TP;have jq:=Nw.binds (ps:=["self", "sign", "page"]) (ds:=[.int 0 Wa]) (λ_ _ _ _ _ _ _=>Yg λ_ _=>⟨_,rfl,rfl⟩);have b88:=Nw.binds (ps:=["self", "sign", "page"]) (ds:=[]) (λ_ _ _ _ _ _ _=>Yh λ_ _ _=>⟨_,rfl,rfl⟩);have Ar:=dI (st:=lF) xH fP vG DW;have km:=Ar.binds (ps:=["self", "row", "page"]) (ds:=[.int 0 ab]) (λ_ _ _ _ _ _ _=>Yg λ_ _=>⟨_,rfl,rfl⟩);have b89:=Ar.binds (ps:=["self", "row", "page"]) (ds:=[]) (λ_ _ _ _ _ _ _=>Yh λ_ _ _=>⟨_,rfl,rfl⟩);have Qz:=dI (st:=lI) JH aW eG jT;have Pn:=Qz.binds (ps:=["self", "row", "page"]) (ds:=[.int 0 Pa]) (λ_ _ _ _ _ _ _=>Yg λ_ _=>⟨_,rfl,rfl⟩);have b90:=Qz.binds (ps:=["self", "row", "page"]) (ds:=[]) (λ_ _ _ _ _ _ _=>Yh λ_ _ _=>⟨_,rfl,rfl⟩);have F91:=aK (st:=j6) VN wJ PP;have b91:=F91.binds (ps:=["_law_script", "_law_k"]) (λ_ _ _ _ _ _=>bB λ_ _=>rfl);have F92:=aK (st:=jY) FJ PJ nP;have b92:=F92.binds (ps:=["_law_number"]) (λ_ _ _ _ _ _=>bC λ_=>rfl);have F93:=aK (st:=j3) NQ IW vK;have b93:=F93.binds (ps:=["_law_script"]) (λ_ _ _ _ _ _=>bC λ_=>rfl);have F94:=aK (st:=ka) BV ZS dK;have b94:=F94.binds (ps:=["_law_script", "_law_at", "_law_many", "_law_most"]) (λ_ _ _ _ _ _=>nV λ_ _ _ _=>rfl);have F95:=aK (st:=j4) KH BR vQ;have b95:=F95.binds (ps:=["_law_number", "_law_pool_here"]) (λ_ _ _ _ _ _=>bB λ_ _=>rfl);have F96:=aK (st:=j8) zO WQ wU;have b96:=F96.binds (ps:=["_law_plan_here"]) (λ_ _ _ _ _ _=>bC λ_=>rfl);have F97:=aK (st:=j9) tM JR wR;have b97:=F97.binds (ps:=["_law_sign_here"]) (λ_ _ _ _ _ _=>bC λ_=>rfl);have F98:=aK (st:=jW) JW aL JM;have b98:=F98.binds (ps:=["_law_sign_here", "_law_order"]) (λ_ _ _ _ _ _=>bB λ_ _=>rfl);have F99:=aK (st:=jZ) dJ ZR dO;have b99:=F99.binds (ps:=["_law_plan_here", "_law_sign_here", "_law_page"]) (λ_ _ _ _ _ _=>cz λ_ _ _=>rfl);have cd:=aK (st:=ji) uE tE pF;have bu:=cd.binds (ps:=["_law_plan_here", "_law_sign_here", "_law_page"]) (λ_ _ _ _ _ _=>cz λ_ _ _=>rfl);have Eh:=aK (st:=jV) JF eE cF;have Hl:=Eh.binds (ps:=["_law_plan_here", "_law_text"]) (λ_ _ _ _ _ _=>bB λ_ _=>rfl);have Mg:=aK (st:=j5) ZD GF qF;have Sm:=Mg.binds (ps:=["_law_row", "_law_cells"]) (λ_ _ _ _ _ _=>bB λ_ _=>rfl);have tg:=aK (st:=jX) bF HF zE;have Uu:=tg.binds (ps:=["_law_data", "_law_turners", "_law_told", "_law_over"]) (λ_ _ _ _ _ _=>nV λ_ _ _ _=>rfl);have ui:=aK (st:=j7) GD jE JD;have fu:=ui.binds (ps:=["_law_text", "_law_order"]) (λ_ _ _ _ _ _=>bB λ_ _=>rfl);have pf:=aK (st:=kc) mF RD XD;have b105:=pf.binds (ps:=["_law_turners", "_law_told", "_law_plans", "_law_text"]) (λ_ _ _ _ _ _=>nV λ_ _ _ _=>rfl);have Hd:=aK (st:=fS) dF oE OD;have At:=Hd.binds (ps:=["_law_script"]) (λ_ _ _ _ _ _=>bC λ_=>rfl)
  exact⟨⟨a0,_,jb,a1,_,a2,_,a3,_,a4,_,a5,_,a6,_,a7,_,a8,_,a9,_,Gj,_,ej,_,tj,_,nj,_,uj,_,Ej,_,nf,_,Sa,Jj,_,rj,_,ti,_,ei,_,Ki,_,bf,_,Ke,_,fh,_,Ji,_,wh,_,Sg,_,nh,_,od,_,Dh,_,ij,_,Cj,_,Si,_,Ni,_,Zi,_,Ri,_,Aj,_,Qi,_,gj,_,Ij,_,Rg,_,Ra,We,_,eb,he,_,gb,dc,_,bc,_,Ya,Oi,_,fj,_,Li,_,Fj,_,aj,_,hj,_,Lj,_,Hf,_,Yc,_,pg,_,kd,_,Mh,_,Ed,_,qf,_,Ah,_,lj,_,Xi,_,pj,_,eh,_,Va,Nh,_,Sf,_,wd,_,Rh,_,ef,_,Za,mi,_,La,Wf,_,db,Hj,_,Dj,_,hb,qj,_,Bj,_,wj,_,Nd,_,Ee,_,Ai,_,Qa,Kc,_,hd,_,bb,Gg,_,Ka,Kj,_,Mi,_,Ti,_,oe,_,Jf,_,Be,_,Wa,Ze,_,ab,eg,_,Pa,Vi,_,xj,_,cj,_,mj,_,vj,_,bj,_,oj,_,Wi,_,dj,_,sb,_,Kb,_,ub,_,Tb,_,Cb,_,tb,_,Db,_,ha,ba,ia,ja,la,ga,fa,da,ea,aa,ca,na,u0,u1,Ui,pb,kb,qa,za,ua,ta,Aa,ob,nb,Fa,Da,xa,Ia,Ha,u3,u4,u5,u6,u7,u8,u9,u10,u11,u12,u13,u14,u15,tc,mc,u18,u19,u20,u21,u22,fc,Nb,Ma,cb,ib,Ta,Oa,sc⟩,⟨F0,bd0,b0,F1,b1,F2,b2,F3,b3,F4,b4,F5,b5,F6,b6,F7,b7,F8,b8,F9,b9,W.mg_of X G eZ,F10,b10,W.mg_of X G gO,F11,b11,W.mg_of X G cT,F12,b12,W.mg_of X G XN,F13,b13,W.mg_of X G YM,F14,b14,W.mg_of X G mH,F15,b15,W.mg_of X G mO,np,tm,b16,F17,b17,W.mg_of X G tR,F18,b18,W.mg_of X G fJ,F19,b19,F20,b20,F21,b21,F22,b22,F23,b23,uk,Uy,b24,F25,b25,F26,b26,F27,b27,F28,b28,F29,b29,F30,b30,F31,b31,W.mg_of X G tW,F32,b32,W.mg_of X G VR,F33,b33,W.mg_of X G FW,F34,b34,W.mg_of X G qP,F35,b35,W.mg_of X G QQ,F36,b36,W.mg_of X G fK,F37,b37,W.mg_of X G BP,F38,b38,W.mg_of X G HQ,F39,b39,W.mg_of X G bJ,F40,b40,W.mg_of X G QR,Vz,kp,b41,ex,tr,b42,pl,cp,b43,F44,b44,qy,Zs,b45,F46,b46,W.mg_of X G oK,F47,b47,W.mg_of X G uH,F48,b48,W.mg_of X G eQ,F49,b49,W.mg_of X G KJ,F50,b50,W.mg_of X G qK,F51,b51,W.mg_of X G iT,F52,b52,W.mg_of X G QH,F53,b53,F54,b54,F55,b55,F56,b56,F57,b57,F58,b58,F59,b59,F60,b60,F61,b61,W.mg_of X G bK,F62,b62,W.mg_of X G jJ,F63,b63,W.mg_of X G nW,co,Rv,b64,F65,b65,F66,b66,F67,b67,F68,b68,Wm,wv,b69,QZ,Cs,b70,Om,Nz,b71,F72,b72,W.mg_of X G vW,Wk,Lp,b73,W.mg_of X G zM,F74,b74,W.mg_of X G mL,F75,b75,W.mg_of X G ZP,F76,b76,W.mg_of X G WM,F77,b77,F78,b78,Zx,lw,b79,F80,b80,Xq,ak,b81,vu,hy,b82,F83,b83,W.mg_of X G aR,F84,b84,W.mg_of X G RP,F85,b85,W.mg_of X G BW,F86,b86,F87,b87,Nw,jq,b88,Ar,km,b89,Qz,Pn,b90,F91,b91,W.mg_of X G uI,F92,b92,W.mg_of X G KQ,F93,b93,W.mg_of X G iM,F94,b94,W.mg_of X G CJ,F95,b95,W.mg_of X G PT,F96,b96,W.mg_of X G VJ,F97,b97,W.mg_of X G NK,F98,b98,W.mg_of X G HR,F99,b99,W.mg_of X G sU,cd,bu,W.mg_of X G xF,Eh,Hl,W.mg_of X G jF,Mg,Sm,W.mg_of X G wF,tg,Uu,W.mg_of X G eF,ui,fu,W.mg_of X G HD,pf,b105,W.mg_of X G nF,Hd,At,W.mg_of X G uF,W.mg_of X G zu,⟨rP,sH,sd,rD⟩,⟨y0,TX,bY,zg⟩,⟨ZX,BX,mX⟩,⟨SX,DX,uX⟩,⟨RX,CX,tX⟩,⟨dZ,zX,sX⟩,⟨CZ,vX,qX⟩,⟨aY,HX,oX⟩,⟨JX,vY,GX⟩,⟨cZ,wX,pX⟩,yL,yK,yJ,yI,yH,yG,yF,λH a dx fs e=>.ins e ⟨rP,sH,sd,rD⟩ yh x5 xN wB,W.mg_of X G zz,⟨rV,sO,so,rJ⟩,⟨y7,GJ,mJ,zl⟩,⟨cA,BX,mX⟩,⟨nA,DX,uX⟩,⟨zA,CX,tX⟩,⟨uA,zX,sX⟩,⟨aA,vX,qX⟩,⟨bA,HX,oX⟩,⟨oA,wX,pX⟩,yU,yT,λH a dx fs e=>.ins e ⟨rV,sO,so,rJ⟩ ym yb xS gB,W.mg_of X G zt,⟨rO,sG,r9,rC⟩,⟨yZ,uU,VV,zf⟩,⟨tV,MN,RG⟩,yE,λH a dx fs e=>.ins e ⟨rO,sG,r9,rC⟩ yg xZ xM iB,W.mg_of X G zr,⟨rN,sE,r6,rB⟩,⟨yY,YQ,cN,ze⟩,⟨vI,mV,VF⟩,yD,yC,λH a dx fs e=>.ins e ⟨rN,sE,r6,rB⟩ yf xY xL tB,W.mg_of X G zo,⟨rK,sw,rY,rp⟩,⟨yV,WK,zK,zb⟩,⟨gJ,cP,QF⟩,⟨vV,vN,XF⟩,⟨uV,fH,cG⟩,⟨GQ,uL,jG⟩,⟨fQ,RV,DG⟩,⟨JK,DN,fG⟩,yt,yr,yq,yp,yo,λH a dx fs e=>.ins e ⟨rK,sw,rY,rp⟩ yc xV xI zB,W.mg_of X G zy,⟨rT,sN,sk,rH⟩,⟨y6,zm,zk⟩,⟨pK,iR,qG⟩,⟨HS,DR,oG⟩,⟨cQ,iV,mG⟩,⟨mK,aF,vD⟩,⟨vO,wD,uD⟩,λH a dx fs e=>.ins e ⟨rT,sN,sk,rH⟩ yl ya xR vB,W.mg_of X G zw,⟨rR,sL,si,rF⟩,⟨y3,cR,CQ,zi⟩,⟨VM,gK,CG⟩,⟨nJ,pO,gG⟩,⟨UV,aV,iG⟩,yO,yN,λH a dx fs e=>.ins e ⟨rR,sL,si,rF⟩ yj x8 xP cB,W.mg_of X G zx,⟨rS,sM,sj,rG⟩,⟨y4,qW,WW,zj⟩,⟨bH,eU,VG⟩,⟨iJ,QL,YF⟩,⟨XS,MK,uG⟩,yS,yR,yQ,yP,λH a dx fs e=>.ins e ⟨rS,sM,sj,rG⟩ yk x9 xQ fB,W.mg_of X G zv,⟨rQ,sK,sf,rE⟩,⟨y1,sS,zP,zh⟩,⟨bM,QM,tG⟩,⟨MT,dH,WF⟩,⟨uP,bU,TG⟩,⟨oV,oR,dG⟩,⟨WT,fV,ZF⟩,⟨PN,pR,ZG⟩,⟨jL,sI,pG⟩,⟨aB,wD,uD⟩,yM,λH a dx fs e=>.ins e ⟨rQ,sK,sf,rE⟩ yi x6 xO uB,W.mg_of X G zq,⟨rM,sy,r0,rA⟩,⟨yX,jQ,CT,zd⟩,⟨uO,HH,QG⟩,⟨cV,qH,bG⟩,⟨zL,oW,xG⟩,⟨jN,bV,aH⟩,⟨oN,qL,JG⟩,⟨vA,aF,vD⟩,⟨pA,wD,uD⟩,yB,yA,yy,λH a dx fs e=>.ins e ⟨rM,sy,r0,rA⟩ ye xX xK pB,W.mg_of X G zp,⟨rL,sx,rZ,rq⟩,⟨yW,zN,RJ,zc⟩,⟨WL,sW,UG⟩,⟨rI,TQ,TF⟩,⟨JV,cO,vG⟩,⟨tK,RK,eG⟩,⟨wA,aF,vD⟩,⟨gA,wD,uD⟩,yx,yw,yu,λH a dx fs e=>.ins e ⟨rL,sx,rZ,rq⟩ yd xW xJ jB,W.mg_of X G zn,⟨zF,zG,zI⟩,W.mg_of X G k0,W.mg_of X G k1,W.mg_of X G k2,⟨⟨_,_,wZ,nZ⟩,a2x.mpr ⟨YD,a2x.mpr ⟨gF,λ_ z=>nomatch z⟩⟩,(show List.Nodup (["high", "low"]:List Str) by decide +kernel),XX⟩,BD QD oF (YI WD),dB JB qC (YI iC),dB YB XC (YI wC),dB KC RC (YI fC),dB RB tC (YI YC),dB HB cC (YI gC),BD MF KD (YI VD),dB uC GC (YI NB),dB QC nC (YI jC),dB vC pC (YI VB),dB QB PB (YI aC),dB JC LC (YI dC),W.mg_of X G k3,W.mg_of X G k4,W.mg_of X G k5,W.mg_of X G k6,W.mg_of X G k7,W.mg_of X G k8,W.mg_of X G k9,W.mg_of X G fY,W.mg_of X G nY,W.mg_of X G qY,W.mg_of X G uY,W.mg_of X G dY,W.mg_of X G k15,W.mg_of X G WX,dB aG wW (YI YS),⟨_,aG,rfl,rfl⟩,W.mg_of X G tZ,dB YG aM (YI RM),⟨_,YG,rfl,rfl⟩,W.mg_of X G KY,W.mg_of X G WY,W.mg_of X G qZ,W.mg_of X G gZ,W.mg_of X G mZ,W.mg_of X G PX,IB XR SM (YI IK),W.mg_of X G mY,⟨⟨_,_,WP,BK⟩,(show List.Nodup ([224,237,238,240,244]:f6) by decide),dN⟩,dB bD dD (YI jD),dB cD pD (YI qD),dB iD nD (YI gD),dB fD mD (YI aD),dB ZC lD (YI tD),W.mg_of X G pY,dB wG gQ (YI bN),⟨_,wG,rfl,rfl⟩,W.mg_none_of X G z0,W.mg_none_of X G z1,W.mg_none_of X G z2,W.mg_none_of X G z3,W.mg_none_of X G z4,W.mg_none_of X G z5,W.mg_none_of X G z6,W.mg_none_of X G z7,W.mg_none_of X G z8,W.mg_none_of X G z9,W.mg_none_of X G uZ,W.mg_none_of X G QX⟩⟩
def walk {l:PySem.W.OpenLaw} {q:Program} {b:List Str} {B:(Str->Option Value)->Heap->Prop} {j:World->Heap->Prop} {d:DefRec} {K:Params->PySem.W.Frag} (m:l.most=some 63) (g:d.params.defaults=[]) (i:d.name = "law")
 (hY:∀(w:World) (h:Heap),j w h->(K w.params).In h)
 (F:∀(w:World) (mg:Str->Option Value) (h:Heap),(K w.params).In h->h.Ns mainGlobals mg->∃t,Txt w (K w.params) mg t) :
 PySem.W.WalkO q b B j l.row.toRowW d [] (λf vs=>PySem.call f vs):=by
 refine L2.walk_of (n:=63) (k:=14) (x := "_law_script") (CX:=λ_=>bO) (sp:=λw=>uo (K w.params)) m (by decide) g ⟨rfl,by decide,by decide⟩ hY (λw mg I h v G c=>?_) (λ_ _ a ns hl _ hS=>⟨a,rfl,ns,hS,hl,λ_=>rfl⟩) λ_ _ _ _ _ z=>z;obtain⟨t,T⟩:=F w mg h v G;rw[i]at c;have e:=c.symm.trans T.E7;cases e;obtain⟨L,J,kV,p,D,M,o,ct,y,C,lk,r⟩:=T.Bo.ex;refine⟨t.qZ,λs u=>?_,λbase _ _=>(Qn (P:=l.prog) (w:=w) (base:=base) T).ok⟩;rw[C];exact .of_eq rfl
end My
theorem PySem.W.Fast.tw1001592210335160307:True:=⟨⟩
theorem PySem.W.Fast.tw10018157172716085317:True:=⟨⟩
theorem PySem.W.Fast.tw10026647572868521268:True:=⟨⟩
theorem PySem.W.Fast.tw10057879846310280409:True:=⟨⟩
theorem PySem.W.Fast.tw10070568764563216398:True:=⟨⟩
theorem PySem.W.Fast.tw10101006572115965724:True:=⟨⟩
theorem PySem.W.Fast.tw10108232110737846930:True:=⟨⟩
theorem PySem.W.Fast.tw10151873551443995223:True:=⟨⟩
theorem PySem.W.Fast.tw10154258858107202441:True:=⟨⟩
theorem PySem.W.Fast.tw10158326500190462010:True:=⟨⟩
theorem PySem.W.Fast.tw10216510584386044222:True:=⟨⟩
theorem PySem.W.Fast.tw10221258704838577499:True:=⟨⟩
theorem PySem.W.Fast.tw10272032433085811074:True:=⟨⟩
theorem PySem.W.Fast.tw10310769716200152413:True:=⟨⟩
theorem PySem.W.Fast.tw10315095725804685421:True:=⟨⟩
theorem PySem.W.Fast.tw1031717619531414750:True:=⟨⟩
theorem PySem.W.Fast.tw10371171764612375941:True:=⟨⟩
theorem PySem.W.Fast.tw10384092302942672422:True:=⟨⟩
theorem PySem.W.Fast.tw10390193146465779376:True:=⟨⟩
theorem PySem.W.Fast.tw10390604090380370683:True:=⟨⟩
theorem PySem.W.Fast.tw10391779285657856555:True:=⟨⟩
theorem PySem.W.Fast.tw10418488068737050224:True:=⟨⟩
theorem PySem.W.Fast.tw10429854527277297437:True:=⟨⟩
theorem PySem.W.Fast.tw1043009104839453121:True:=⟨⟩
theorem PySem.W.Fast.tw10453977514562499253:True:=⟨⟩
theorem PySem.W.Fast.tw10480422591866329402:True:=⟨⟩
theorem PySem.W.Fast.tw10491121943495529807:True:=⟨⟩
theorem PySem.W.Fast.tw10508027468210585952:True:=⟨⟩
theorem PySem.W.Fast.tw10516890695316760444:True:=⟨⟩
theorem PySem.W.Fast.tw1053483604529669620:True:=⟨⟩
theorem PySem.W.Fast.tw10544229290762016911:True:=⟨⟩
theorem PySem.W.Fast.tw1055275651338740479:True:=⟨⟩
theorem PySem.W.Fast.tw10568052920476055243:True:=⟨⟩
theorem PySem.W.Fast.tw10601579577386403964:True:=⟨⟩
theorem PySem.W.Fast.tw10695569524708282668:True:=⟨⟩
theorem PySem.W.Fast.tw10697215492226290523:True:=⟨⟩
theorem PySem.W.Fast.tw10718311637305033814:True:=⟨⟩
theorem PySem.W.Fast.tw10740109827855541989:True:=⟨⟩
theorem PySem.W.Fast.tw10740639525490496510:True:=⟨⟩
theorem PySem.W.Fast.tw10756681368142441535:True:=⟨⟩
theorem PySem.W.Fast.tw10760561195278213086:True:=⟨⟩
theorem PySem.W.Fast.tw10805492831715070690:True:=⟨⟩
theorem PySem.W.Fast.tw10806247525374959528:True:=⟨⟩
theorem PySem.W.Fast.tw10835982211024699138:True:=⟨⟩
theorem PySem.W.Fast.tw10852189620320097164:True:=⟨⟩
theorem PySem.W.Fast.tw10910317991893166816:True:=⟨⟩
theorem PySem.W.Fast.tw10910671623188314342:True:=⟨⟩
theorem PySem.W.Fast.tw10969508525920451539:True:=⟨⟩
theorem PySem.W.Fast.tw11023525226379884961:True:=⟨⟩
theorem PySem.W.Fast.tw11025451212635418996:True:=⟨⟩
theorem PySem.W.Fast.tw11048824668223926742:True:=⟨⟩
theorem PySem.W.Fast.tw11084582931979509915:True:=⟨⟩
theorem PySem.W.Fast.tw11125067049004949094:True:=⟨⟩
theorem PySem.W.Fast.tw1112525644525785470:True:=⟨⟩
theorem PySem.W.Fast.tw11130522158607495928:True:=⟨⟩
theorem PySem.W.Fast.tw11145144789947315129:True:=⟨⟩
theorem PySem.W.Fast.tw11153986786842961227:True:=⟨⟩
theorem PySem.W.Fast.tw11222412500837260525:True:=⟨⟩
theorem PySem.W.Fast.tw1123532999681609761:True:=⟨⟩
theorem PySem.W.Fast.tw11348077935405702951:True:=⟨⟩
theorem PySem.W.Fast.tw11415258505570531208:True:=⟨⟩
theorem PySem.W.Fast.tw1145154836259227102:True:=⟨⟩
theorem PySem.W.Fast.tw11485166626770264407:True:=⟨⟩
theorem PySem.W.Fast.tw11535953363477086078:True:=⟨⟩
theorem PySem.W.Fast.tw11547483587818104740:True:=⟨⟩
theorem PySem.W.Fast.tw11582362162428529016:True:=⟨⟩
theorem PySem.W.Fast.tw11605395111290493351:True:=⟨⟩
theorem PySem.W.Fast.tw11624053057027309704:True:=⟨⟩
theorem PySem.W.Fast.tw11638135820882018050:True:=⟨⟩
theorem PySem.W.Fast.tw11638582034939318126:True:=⟨⟩
theorem PySem.W.Fast.tw11683129488246828540:True:=⟨⟩
theorem PySem.W.Fast.tw11707522348912739451:True:=⟨⟩
theorem PySem.W.Fast.tw11717587337907083688:True:=⟨⟩
theorem PySem.W.Fast.tw11719633085576825970:True:=⟨⟩
theorem PySem.W.Fast.tw1172321065231841235:True:=⟨⟩
theorem PySem.W.Fast.tw11753589802541967837:True:=⟨⟩
theorem PySem.W.Fast.tw11786065058872899679:True:=⟨⟩
theorem PySem.W.Fast.tw11788612776684080580:True:=⟨⟩
theorem PySem.W.Fast.tw11860545973211508627:True:=⟨⟩
theorem PySem.W.Fast.tw11870151111824959136:True:=⟨⟩
theorem PySem.W.Fast.tw11931453830896035606:True:=⟨⟩
theorem PySem.W.Fast.tw11947802767620677396:True:=⟨⟩
theorem PySem.W.Fast.tw11953030076132750826:True:=⟨⟩
theorem PySem.W.Fast.tw11965891087143837378:True:=⟨⟩
theorem PySem.W.Fast.tw11997280990964876559:True:=⟨⟩
theorem PySem.W.Fast.tw12027329918832377740:True:=⟨⟩
theorem PySem.W.Fast.tw12030836633230206781:True:=⟨⟩
theorem PySem.W.Fast.tw12187594752411636317:True:=⟨⟩
theorem PySem.W.Fast.tw12238101238538871002:True:=⟨⟩
theorem PySem.W.Fast.tw12253348935999092897:True:=⟨⟩
theorem PySem.W.Fast.tw12291694220516065031:True:=⟨⟩
theorem PySem.W.Fast.tw12313491268818983362:True:=⟨⟩
theorem PySem.W.Fast.tw12329590817469920412:True:=⟨⟩
theorem PySem.W.Fast.tw12346222189640951495:True:=⟨⟩
theorem PySem.W.Fast.tw12365462738788371443:True:=⟨⟩
theorem PySem.W.Fast.tw12402860117203478387:True:=⟨⟩
theorem PySem.W.Fast.tw12408190602243847816:True:=⟨⟩
theorem PySem.W.Fast.tw12446348488352792266:True:=⟨⟩
theorem PySem.W.Fast.tw12456083448654659843:True:=⟨⟩
theorem PySem.W.Fast.tw12484643453381184976:True:=⟨⟩
theorem PySem.W.Fast.tw12505422049402812231:True:=⟨⟩
theorem PySem.W.Fast.tw12511347702140802360:True:=⟨⟩
theorem PySem.W.Fast.tw12512243000035219351:True:=⟨⟩
theorem PySem.W.Fast.tw12520273183725632248:True:=⟨⟩
theorem PySem.W.Fast.tw12562235214890419621:True:=⟨⟩
theorem PySem.W.Fast.tw12582925067358808055:True:=⟨⟩
theorem PySem.W.Fast.tw1258717569449670477:True:=⟨⟩
theorem PySem.W.Fast.tw12600713502743090004:True:=⟨⟩
theorem PySem.W.Fast.tw12634499685522945726:True:=⟨⟩
theorem PySem.W.Fast.tw12705399049183230830:True:=⟨⟩
theorem PySem.W.Fast.tw12715234667751734435:True:=⟨⟩
theorem PySem.W.Fast.tw12722808589947945423:True:=⟨⟩
theorem PySem.W.Fast.tw12725372694829647317:True:=⟨⟩
theorem PySem.W.Fast.tw12733120881115661570:True:=⟨⟩
theorem PySem.W.Fast.tw12746119141487733794:True:=⟨⟩
theorem PySem.W.Fast.tw12766730478976795029:True:=⟨⟩
theorem PySem.W.Fast.tw12782744852563188645:True:=⟨⟩
theorem PySem.W.Fast.tw12801228295436327479:True:=⟨⟩
theorem PySem.W.Fast.tw12829174211837043565:True:=⟨⟩
theorem PySem.W.Fast.tw12839568489397469446:True:=⟨⟩
theorem PySem.W.Fast.tw1285036922715432646:True:=⟨⟩
theorem PySem.W.Fast.tw12867769171248076863:True:=⟨⟩
theorem PySem.W.Fast.tw12903023713861292618:True:=⟨⟩
theorem PySem.W.Fast.tw12920010560486911410:True:=⟨⟩
theorem PySem.W.Fast.tw12923713561948397454:True:=⟨⟩
theorem PySem.W.Fast.tw12958602845942188519:True:=⟨⟩
theorem PySem.W.Fast.tw1295956063298199929:True:=⟨⟩
theorem PySem.W.Fast.tw1297067934283039864:True:=⟨⟩
theorem PySem.W.Fast.tw13013789232029304873:True:=⟨⟩
theorem PySem.W.Fast.tw13051835475173318661:True:=⟨⟩
theorem PySem.W.Fast.tw13093985249516116276:True:=⟨⟩
theorem PySem.W.Fast.tw13108864524944823472:True:=⟨⟩
theorem PySem.W.Fast.tw13232166499567005633:True:=⟨⟩
theorem PySem.W.Fast.tw13236614370063833759:True:=⟨⟩
theorem PySem.W.Fast.tw13241127873159599421:True:=⟨⟩
theorem PySem.W.Fast.tw13258533284223563230:True:=⟨⟩
theorem PySem.W.Fast.tw13259309548677325181:True:=⟨⟩
theorem PySem.W.Fast.tw13271089018555785699:True:=⟨⟩
theorem PySem.W.Fast.tw1327914667815631018:True:=⟨⟩
theorem PySem.W.Fast.tw13280046742024385117:True:=⟨⟩
theorem PySem.W.Fast.tw13335502310569185592:True:=⟨⟩
theorem PySem.W.Fast.tw13336435801871733546:True:=⟨⟩
theorem PySem.W.Fast.tw13397271845517896258:True:=⟨⟩
theorem PySem.W.Fast.tw13409531563764819210:True:=⟨⟩
theorem PySem.W.Fast.tw13412280729884540919:True:=⟨⟩
theorem PySem.W.Fast.tw13459284370306380019:True:=⟨⟩
theorem PySem.W.Fast.tw13462187864115841209:True:=⟨⟩
theorem PySem.W.Fast.tw13466857979990958233:True:=⟨⟩
theorem PySem.W.Fast.tw13490274744397737741:True:=⟨⟩
theorem PySem.W.Fast.tw13493173533434823559:True:=⟨⟩
theorem PySem.W.Fast.tw13560729555861784558:True:=⟨⟩
theorem PySem.W.Fast.tw13561243453335049928:True:=⟨⟩
theorem PySem.W.Fast.tw13564417882298252471:True:=⟨⟩
theorem PySem.W.Fast.tw13570202528713989606:True:=⟨⟩
theorem PySem.W.Fast.tw13571975798384685828:True:=⟨⟩
theorem PySem.W.Fast.tw13610460311934795459:True:=⟨⟩
theorem PySem.W.Fast.tw13632528706364970886:True:=⟨⟩
theorem PySem.W.Fast.tw13677100099617728628:True:=⟨⟩
theorem PySem.W.Fast.tw13706048150316445408:True:=⟨⟩
theorem PySem.W.Fast.tw13715183271300711803:True:=⟨⟩
theorem PySem.W.Fast.tw13767803313033466990:True:=⟨⟩
theorem PySem.W.Fast.tw13769102103942578344:True:=⟨⟩
theorem PySem.W.Fast.tw13794553242366908013:True:=⟨⟩
theorem PySem.W.Fast.tw13850726088758333576:True:=⟨⟩
theorem PySem.W.Fast.tw13909497017073087545:True:=⟨⟩
theorem PySem.W.Fast.tw13967030403791478739:True:=⟨⟩
theorem PySem.W.Fast.tw13984634731221324691:True:=⟨⟩
theorem PySem.W.Fast.tw14062534920201846574:True:=⟨⟩
theorem PySem.W.Fast.tw14078399967958824307:True:=⟨⟩
theorem PySem.W.Fast.tw14079757273001687370:True:=⟨⟩
theorem PySem.W.Fast.tw14131362551045088306:True:=⟨⟩
theorem PySem.W.Fast.tw14144962016257391222:True:=⟨⟩
theorem PySem.W.Fast.tw14153308888912286482:True:=⟨⟩
theorem PySem.W.Fast.tw14165550135660353194:True:=⟨⟩
theorem PySem.W.Fast.tw1419153952879606653:True:=⟨⟩
theorem PySem.W.Fast.tw14232142341270408093:True:=⟨⟩
theorem PySem.W.Fast.tw14241809932016457608:True:=⟨⟩
theorem PySem.W.Fast.tw14261473220827262419:True:=⟨⟩
theorem PySem.W.Fast.tw14270281345496618117:True:=⟨⟩
theorem PySem.W.Fast.tw14303408252543965295:True:=⟨⟩
theorem PySem.W.Fast.tw14310366514824513082:True:=⟨⟩
theorem PySem.W.Fast.tw14314730211590286005:True:=⟨⟩
theorem PySem.W.Fast.tw14338303638819530810:True:=⟨⟩
theorem PySem.W.Fast.tw1434179938260478349:True:=⟨⟩
theorem PySem.W.Fast.tw14406001455158991400:True:=⟨⟩
theorem PySem.W.Fast.tw14409934569278072729:True:=⟨⟩
theorem PySem.W.Fast.tw14460028712638426768:True:=⟨⟩
theorem PySem.W.Fast.tw14465434231661159334:True:=⟨⟩
theorem PySem.W.Fast.tw14473283335464007491:True:=⟨⟩
theorem PySem.W.Fast.tw14553901951541724556:True:=⟨⟩
theorem PySem.W.Fast.tw14557810342403064542:True:=⟨⟩
theorem PySem.W.Fast.tw1456875739421586411:True:=⟨⟩
theorem PySem.W.Fast.tw14572521211937535328:True:=⟨⟩
theorem PySem.W.Fast.tw14605970457426136071:True:=⟨⟩
theorem PySem.W.Fast.tw14608800839863075530:True:=⟨⟩
theorem PySem.W.Fast.tw14625030091596823782:True:=⟨⟩
theorem PySem.W.Fast.tw14638813591891195354:True:=⟨⟩
theorem PySem.W.Fast.tw1464811611325204885:True:=⟨⟩
theorem PySem.W.Fast.tw14655229583445869216:True:=⟨⟩
theorem PySem.W.Fast.tw14716998108843322629:True:=⟨⟩
theorem PySem.W.Fast.tw14724282802195583329:True:=⟨⟩
theorem PySem.W.Fast.tw14745736579571402884:True:=⟨⟩
theorem PySem.W.Fast.tw14779618797604631454:True:=⟨⟩
theorem PySem.W.Fast.tw14790422491317547671:True:=⟨⟩
theorem PySem.W.Fast.tw14791812126947193079:True:=⟨⟩
theorem PySem.W.Fast.tw14797540372802434857:True:=⟨⟩
theorem PySem.W.Fast.tw14812730505390256879:True:=⟨⟩
theorem PySem.W.Fast.tw14819233069295080040:True:=⟨⟩
theorem PySem.W.Fast.tw14826866363627928224:True:=⟨⟩
theorem PySem.W.Fast.tw14845792421554987204:True:=⟨⟩
theorem PySem.W.Fast.tw14867032172157457025:True:=⟨⟩
theorem PySem.W.Fast.tw14879571462736564268:True:=⟨⟩
theorem PySem.W.Fast.tw1499643541179917984:True:=⟨⟩
theorem PySem.W.Fast.tw15007406334846248028:True:=⟨⟩
theorem PySem.W.Fast.tw15024449753836207426:True:=⟨⟩
theorem PySem.W.Fast.tw15064072192320890133:True:=⟨⟩
theorem PySem.W.Fast.tw15065562841222947270:True:=⟨⟩
theorem PySem.W.Fast.tw15082878361758904585:True:=⟨⟩
theorem PySem.W.Fast.tw15087253664095305311:True:=⟨⟩
theorem PySem.W.Fast.tw15117933339746323818:True:=⟨⟩
theorem PySem.W.Fast.tw15130891347931091106:True:=⟨⟩
theorem PySem.W.Fast.tw1514043280316867626:True:=⟨⟩
theorem PySem.W.Fast.tw15141850451234923068:True:=⟨⟩
theorem PySem.W.Fast.tw15175442993490610522:True:=⟨⟩
theorem PySem.W.Fast.tw15191718760203650452:True:=⟨⟩
theorem PySem.W.Fast.tw15200880998096108480:True:=⟨⟩
theorem PySem.W.Fast.tw1520992925729884041:True:=⟨⟩
theorem PySem.W.Fast.tw15227331443859937818:True:=⟨⟩
theorem PySem.W.Fast.tw1530085237720412963:True:=⟨⟩
theorem PySem.W.Fast.tw15308718564447386937:True:=⟨⟩
theorem PySem.W.Fast.tw15309681723594857511:True:=⟨⟩
theorem PySem.W.Fast.tw15314462184095273084:True:=⟨⟩
theorem PySem.W.Fast.tw1533065937246972507:True:=⟨⟩
theorem PySem.W.Fast.tw15346092118758511369:True:=⟨⟩
theorem PySem.W.Fast.tw15362136280984910989:True:=⟨⟩
theorem PySem.W.Fast.tw15389987601531562314:True:=⟨⟩
theorem PySem.W.Fast.tw15390345326822403579:True:=⟨⟩
theorem PySem.W.Fast.tw15391783033595127814:True:=⟨⟩
theorem PySem.W.Fast.tw15406899687257551597:True:=⟨⟩
theorem PySem.W.Fast.tw15474653493397464439:True:=⟨⟩
theorem PySem.W.Fast.tw15479426438289149358:True:=⟨⟩
theorem PySem.W.Fast.tw15490627442461116639:True:=⟨⟩
theorem PySem.W.Fast.tw15503570422575997652:True:=⟨⟩
theorem PySem.W.Fast.tw15524793367715780569:True:=⟨⟩
theorem PySem.W.Fast.tw15548431870330441440:True:=⟨⟩
theorem PySem.W.Fast.tw15551496196708690772:True:=⟨⟩
theorem PySem.W.Fast.tw15554578869703250990:True:=⟨⟩
theorem PySem.W.Fast.tw15561855823369798431:True:=⟨⟩
theorem PySem.W.Fast.tw15590544358883665496:True:=⟨⟩
theorem PySem.W.Fast.tw15633211429296423660:True:=⟨⟩
theorem PySem.W.Fast.tw15637846437573560566:True:=⟨⟩
theorem PySem.W.Fast.tw15652400793589589184:True:=⟨⟩
theorem PySem.W.Fast.tw15684556050651235548:True:=⟨⟩
theorem PySem.W.Fast.tw15686062137674408454:True:=⟨⟩
theorem PySem.W.Fast.tw15715899502304308737:True:=⟨⟩
theorem PySem.W.Fast.tw15727726852011139485:True:=⟨⟩
theorem PySem.W.Fast.tw1574692414129254348:True:=⟨⟩
theorem PySem.W.Fast.tw15766091283490528805:True:=⟨⟩
theorem PySem.W.Fast.tw15768791873436040740:True:=⟨⟩
theorem PySem.W.Fast.tw15768840925644469131:True:=⟨⟩
theorem PySem.W.Fast.tw15772936812646973087:True:=⟨⟩
theorem PySem.W.Fast.tw15803975672872691345:True:=⟨⟩
theorem PySem.W.Fast.tw15822244981512478505:True:=⟨⟩
theorem PySem.W.Fast.tw15880290436783171296:True:=⟨⟩
theorem PySem.W.Fast.tw15890635934830467485:True:=⟨⟩
theorem PySem.W.Fast.tw15908372604070513605:True:=⟨⟩
theorem PySem.W.Fast.tw15944969802122993242:True:=⟨⟩
theorem PySem.W.Fast.tw15948433494116768871:True:=⟨⟩
theorem PySem.W.Fast.tw15948951089222612554:True:=⟨⟩
theorem PySem.W.Fast.tw15954029400200877456:True:=⟨⟩
theorem PySem.W.Fast.tw15959385921788408290:True:=⟨⟩
theorem PySem.W.Fast.tw15969671376100984051:True:=⟨⟩
theorem PySem.W.Fast.tw15975355988001415470:True:=⟨⟩
theorem PySem.W.Fast.tw16025625597791070740:True:=⟨⟩
theorem PySem.W.Fast.tw16033431760074218780:True:=⟨⟩
theorem PySem.W.Fast.tw16147994696190774878:True:=⟨⟩
theorem PySem.W.Fast.tw16155304555964710870:True:=⟨⟩
theorem PySem.W.Fast.tw16170931656795375244:True:=⟨⟩
theorem PySem.W.Fast.tw1622371183034670598:True:=⟨⟩
theorem PySem.W.Fast.tw16231603403692661088:True:=⟨⟩
theorem PySem.W.Fast.tw16243356844061143304:True:=⟨⟩
theorem PySem.W.Fast.tw16300078752414583436:True:=⟨⟩
theorem PySem.W.Fast.tw16335508783630755754:True:=⟨⟩
theorem PySem.W.Fast.tw16384025668804397329:True:=⟨⟩
theorem PySem.W.Fast.tw16400126440536766791:True:=⟨⟩
theorem PySem.W.Fast.tw16414121713219662590:True:=⟨⟩
theorem PySem.W.Fast.tw16440729264496488173:True:=⟨⟩
theorem PySem.W.Fast.tw16446067386455258653:True:=⟨⟩
theorem PySem.W.Fast.tw16495079417196331675:True:=⟨⟩
theorem PySem.W.Fast.tw16503114580170607779:True:=⟨⟩
theorem PySem.W.Fast.tw16535162517203868172:True:=⟨⟩
theorem PySem.W.Fast.tw1653986165714989458:True:=⟨⟩
theorem PySem.W.Fast.tw16560910097888485555:True:=⟨⟩
theorem PySem.W.Fast.tw16562724224179517586:True:=⟨⟩
theorem PySem.W.Fast.tw16578232748664173680:True:=⟨⟩
theorem PySem.W.Fast.tw16596287676842278712:True:=⟨⟩
theorem PySem.W.Fast.tw16600279172474409310:True:=⟨⟩
theorem PySem.W.Fast.tw16601510643429145835:True:=⟨⟩
theorem PySem.W.Fast.tw16608666044392886871:True:=⟨⟩
theorem PySem.W.Fast.tw1662216781944534416:True:=⟨⟩
theorem PySem.W.Fast.tw16624678962050861017:True:=⟨⟩
theorem PySem.W.Fast.tw1662766780401664910:True:=⟨⟩
theorem PySem.W.Fast.tw166334259758843931:True:=⟨⟩
theorem PySem.W.Fast.tw16641219150722342683:True:=⟨⟩
theorem PySem.W.Fast.tw16651994811196672182:True:=⟨⟩
theorem PySem.W.Fast.tw16661433897689886685:True:=⟨⟩
theorem PySem.W.Fast.tw16709429164367815063:True:=⟨⟩
theorem PySem.W.Fast.tw16720840748026298705:True:=⟨⟩
theorem PySem.W.Fast.tw16733530439652555758:True:=⟨⟩
theorem PySem.W.Fast.tw16770445185037690846:True:=⟨⟩
theorem PySem.W.Fast.tw16781344339865661539:True:=⟨⟩
theorem PySem.W.Fast.tw16785065950591797965:True:=⟨⟩
theorem PySem.W.Fast.tw16841613640251331073:True:=⟨⟩
theorem PySem.W.Fast.tw16853420897913888172:True:=⟨⟩
theorem PySem.W.Fast.tw16875056742678032195:True:=⟨⟩
theorem PySem.W.Fast.tw16901393066751483856:True:=⟨⟩
theorem PySem.W.Fast.tw1690691569425779025:True:=⟨⟩
theorem PySem.W.Fast.tw16940432849652522022:True:=⟨⟩
theorem PySem.W.Fast.tw1703843427349083403:True:=⟨⟩
theorem PySem.W.Fast.tw1706457139648899053:True:=⟨⟩
theorem PySem.W.Fast.tw17094556029179381413:True:=⟨⟩
theorem PySem.W.Fast.tw17096409780952112475:True:=⟨⟩
theorem PySem.W.Fast.tw17105892473745289208:True:=⟨⟩
theorem PySem.W.Fast.tw17119277558590630975:True:=⟨⟩
theorem PySem.W.Fast.tw17130887981916848573:True:=⟨⟩
theorem PySem.W.Fast.tw17139831650043925305:True:=⟨⟩
theorem PySem.W.Fast.tw17152202812900209235:True:=⟨⟩
theorem PySem.W.Fast.tw1716250804116031187:True:=⟨⟩
theorem PySem.W.Fast.tw17194497083225532323:True:=⟨⟩
theorem PySem.W.Fast.tw17204949943083424492:True:=⟨⟩
theorem PySem.W.Fast.tw17211776067738978174:True:=⟨⟩
theorem PySem.W.Fast.tw17213127636148829203:True:=⟨⟩
theorem PySem.W.Fast.tw17244816146027944326:True:=⟨⟩
theorem PySem.W.Fast.tw17255749860639530576:True:=⟨⟩
theorem PySem.W.Fast.tw17256517747080997948:True:=⟨⟩
theorem PySem.W.Fast.tw17274822481978442527:True:=⟨⟩
theorem PySem.W.Fast.tw17320610043446771961:True:=⟨⟩
theorem PySem.W.Fast.tw17323597173835558211:True:=⟨⟩
theorem PySem.W.Fast.tw17328396291310006923:True:=⟨⟩
theorem PySem.W.Fast.tw17349798076207262821:True:=⟨⟩
theorem PySem.W.Fast.tw17377445486870593508:True:=⟨⟩
theorem PySem.W.Fast.tw17402598492351342797:True:=⟨⟩
theorem PySem.W.Fast.tw17433801704338261229:True:=⟨⟩
theorem PySem.W.Fast.tw1747014130427978100:True:=⟨⟩
theorem PySem.W.Fast.tw17479940967697964892:True:=⟨⟩
theorem PySem.W.Fast.tw17480122813307762920:True:=⟨⟩
theorem PySem.W.Fast.tw17490572663830998025:True:=⟨⟩
theorem PySem.W.Fast.tw17502898522934206993:True:=⟨⟩
theorem PySem.W.Fast.tw17505152463484358754:True:=⟨⟩
theorem PySem.W.Fast.tw17509895001284330067:True:=⟨⟩
theorem PySem.W.Fast.tw17571579579052274016:True:=⟨⟩
theorem PySem.W.Fast.tw17606170255654299159:True:=⟨⟩
theorem PySem.W.Fast.tw17628365438545004222:True:=⟨⟩
theorem PySem.W.Fast.tw1764041328674570778:True:=⟨⟩
theorem PySem.W.Fast.tw17642879034868617341:True:=⟨⟩
theorem PySem.W.Fast.tw17712542669332082661:True:=⟨⟩
theorem PySem.W.Fast.tw17722213523823574407:True:=⟨⟩
theorem PySem.W.Fast.tw1780413211527432958:True:=⟨⟩
theorem PySem.W.Fast.tw17855188136907106496:True:=⟨⟩
theorem PySem.W.Fast.tw17860180766125683366:True:=⟨⟩
theorem PySem.W.Fast.tw17902102596748820936:True:=⟨⟩
theorem PySem.W.Fast.tw17919196686248552257:True:=⟨⟩
theorem PySem.W.Fast.tw17945317660388055044:True:=⟨⟩
theorem PySem.W.Fast.tw18088849711941432907:True:=⟨⟩
theorem PySem.W.Fast.tw18114880866386224884:True:=⟨⟩
theorem PySem.W.Fast.tw1813605759858999976:True:=⟨⟩
theorem PySem.W.Fast.tw18232923792498655194:True:=⟨⟩
theorem PySem.W.Fast.tw1827163408514455017:True:=⟨⟩
theorem PySem.W.Fast.tw18297928123901314626:True:=⟨⟩
theorem PySem.W.Fast.tw18340630082592027329:True:=⟨⟩
theorem PySem.W.Fast.tw18392492862146113058:True:=⟨⟩
theorem PySem.W.Fast.tw18399956129757246707:True:=⟨⟩
theorem PySem.W.Fast.tw1874416204956648378:True:=⟨⟩
theorem PySem.W.Fast.tw1891348824493500231:True:=⟨⟩
theorem PySem.W.Fast.tw1897408280025169282:True:=⟨⟩
theorem PySem.W.Fast.tw190060430376302602:True:=⟨⟩
theorem PySem.W.Fast.tw1931925911475093220:True:=⟨⟩
theorem PySem.W.Fast.tw1948997412886356622:True:=⟨⟩
theorem PySem.W.Fast.tw1969025818299078645:True:=⟨⟩
theorem PySem.W.Fast.tw1972505682745892830:True:=⟨⟩
theorem PySem.W.Fast.tw1988651651938833098:True:=⟨⟩
theorem PySem.W.Fast.tw1993813189479862673:True:=⟨⟩
theorem PySem.W.Fast.tw200936122841109815:True:=⟨⟩
theorem PySem.W.Fast.tw2022735810832518059:True:=⟨⟩
theorem PySem.W.Fast.tw2032834683063477851:True:=⟨⟩
theorem PySem.W.Fast.tw2078128584748955859:True:=⟨⟩
theorem PySem.W.Fast.tw2118050529912364831:True:=⟨⟩
theorem PySem.W.Fast.tw212998056943332018:True:=⟨⟩
theorem PySem.W.Fast.tw2157835545089623619:True:=⟨⟩
theorem PySem.W.Fast.tw2184171606272397150:True:=⟨⟩
theorem PySem.W.Fast.tw2184716836857036806:True:=⟨⟩
theorem PySem.W.Fast.tw2244019116407626977:True:=⟨⟩
theorem PySem.W.Fast.tw2268012707574177695:True:=⟨⟩
theorem PySem.W.Fast.tw2271144784652110118:True:=⟨⟩
theorem PySem.W.Fast.tw2293135346891119449:True:=⟨⟩
theorem PySem.W.Fast.tw2305200343677687731:True:=⟨⟩
theorem PySem.W.Fast.tw2360383705161933514:True:=⟨⟩
theorem PySem.W.Fast.tw2424965142185444833:True:=⟨⟩
theorem PySem.W.Fast.tw2434001901670188161:True:=⟨⟩
theorem PySem.W.Fast.tw2437873309095308750:True:=⟨⟩
theorem PySem.W.Fast.tw2488863494369268200:True:=⟨⟩
theorem PySem.W.Fast.tw2499675285686841751:True:=⟨⟩
theorem PySem.W.Fast.tw2553277887534859414:True:=⟨⟩
theorem PySem.W.Fast.tw2657770070047686401:True:=⟨⟩
theorem PySem.W.Fast.tw2730025637012378129:True:=⟨⟩
theorem PySem.W.Fast.tw2730704938850723268:True:=⟨⟩
theorem PySem.W.Fast.tw275978497154187237:True:=⟨⟩
theorem PySem.W.Fast.tw2792788334111750677:True:=⟨⟩
theorem PySem.W.Fast.tw2796460078518113585:True:=⟨⟩
theorem PySem.W.Fast.tw2813981008276490417:True:=⟨⟩
theorem PySem.W.Fast.tw2826858238636857464:True:=⟨⟩
theorem PySem.W.Fast.tw2842590838377953644:True:=⟨⟩
theorem PySem.W.Fast.tw2846787755761255475:True:=⟨⟩
theorem PySem.W.Fast.tw2880249392529673046:True:=⟨⟩
theorem PySem.W.Fast.tw2887797758763555053:True:=⟨⟩
theorem PySem.W.Fast.tw2889205207868073817:True:=⟨⟩
theorem PySem.W.Fast.tw2890499861754813809:True:=⟨⟩
theorem PySem.W.Fast.tw2893073167645313433:True:=⟨⟩
theorem PySem.W.Fast.tw2902150119094597232:True:=⟨⟩
theorem PySem.W.Fast.tw2903532155308506478:True:=⟨⟩
theorem PySem.W.Fast.tw2924378386805537155:True:=⟨⟩
theorem PySem.W.Fast.tw2936610130444331350:True:=⟨⟩
theorem PySem.W.Fast.tw2950777522491965400:True:=⟨⟩
theorem PySem.W.Fast.tw29573558223248891:True:=⟨⟩
theorem PySem.W.Fast.tw2964268961852923048:True:=⟨⟩
theorem PySem.W.Fast.tw2971550275780856684:True:=⟨⟩
theorem PySem.W.Fast.tw2991237550908430776:True:=⟨⟩
theorem PySem.W.Fast.tw3052449666069141086:True:=⟨⟩
theorem PySem.W.Fast.tw3060653331321607498:True:=⟨⟩
theorem PySem.W.Fast.tw314616930838829616:True:=⟨⟩
theorem PySem.W.Fast.tw3159255875477984649:True:=⟨⟩
theorem PySem.W.Fast.tw3190530971127470517:True:=⟨⟩
theorem PySem.W.Fast.tw3223302444256121351:True:=⟨⟩
theorem PySem.W.Fast.tw3252379873286142012:True:=⟨⟩
theorem PySem.W.Fast.tw3263645377328009088:True:=⟨⟩
theorem PySem.W.Fast.tw3272233477985130100:True:=⟨⟩
theorem PySem.W.Fast.tw3278852169093282836:True:=⟨⟩
theorem PySem.W.Fast.tw3313672940203909203:True:=⟨⟩
theorem PySem.W.Fast.tw3322022733742332320:True:=⟨⟩
theorem PySem.W.Fast.tw3330292466958247185:True:=⟨⟩
theorem PySem.W.Fast.tw3333902399247699917:True:=⟨⟩
theorem PySem.W.Fast.tw333399767077060180:True:=⟨⟩
theorem PySem.W.Fast.tw3378825382510187372:True:=⟨⟩
theorem PySem.W.Fast.tw3380537851964833864:True:=⟨⟩
theorem PySem.W.Fast.tw3386753033184685794:True:=⟨⟩
theorem PySem.W.Fast.tw340288582505154941:True:=⟨⟩
theorem PySem.W.Fast.tw3406369447570031931:True:=⟨⟩
theorem PySem.W.Fast.tw3406490498284048606:True:=⟨⟩
theorem PySem.W.Fast.tw3452484213219170985:True:=⟨⟩
theorem PySem.W.Fast.tw3468007592902404409:True:=⟨⟩
theorem PySem.W.Fast.tw3475190226310653932:True:=⟨⟩
theorem PySem.W.Fast.tw3504641076528822723:True:=⟨⟩
theorem PySem.W.Fast.tw351345482466734814:True:=⟨⟩
theorem PySem.W.Fast.tw3531853214231083870:True:=⟨⟩
theorem PySem.W.Fast.tw3535545404441858339:True:=⟨⟩
theorem PySem.W.Fast.tw3540230754669797938:True:=⟨⟩
theorem PySem.W.Fast.tw3569902626231626036:True:=⟨⟩
theorem PySem.W.Fast.tw3619264381223902657:True:=⟨⟩
theorem PySem.W.Fast.tw3620108952653950287:True:=⟨⟩
theorem PySem.W.Fast.tw3631919918047032482:True:=⟨⟩
theorem PySem.W.Fast.tw3647917913258930446:True:=⟨⟩
theorem PySem.W.Fast.tw3658901442092593788:True:=⟨⟩
theorem PySem.W.Fast.tw367376680904218650:True:=⟨⟩
theorem PySem.W.Fast.tw3678333721069048724:True:=⟨⟩
theorem PySem.W.Fast.tw3735530814783525502:True:=⟨⟩
theorem PySem.W.Fast.tw3741158371337523747:True:=⟨⟩
theorem PySem.W.Fast.tw3741379440957591600:True:=⟨⟩
theorem PySem.W.Fast.tw3752303975412192887:True:=⟨⟩
theorem PySem.W.Fast.tw3769086889802073739:True:=⟨⟩
theorem PySem.W.Fast.tw3787164196834981811:True:=⟨⟩
theorem PySem.W.Fast.tw3804698637961212812:True:=⟨⟩
theorem PySem.W.Fast.tw3805365233986028937:True:=⟨⟩
theorem PySem.W.Fast.tw3827832916899902734:True:=⟨⟩
theorem PySem.W.Fast.tw3839311324160561044:True:=⟨⟩
theorem PySem.W.Fast.tw3853724922920625088:True:=⟨⟩
theorem PySem.W.Fast.tw3864839390975477928:True:=⟨⟩
theorem PySem.W.Fast.tw3910466486006002467:True:=⟨⟩
theorem PySem.W.Fast.tw3926046880610965724:True:=⟨⟩
theorem PySem.W.Fast.tw3955832456029102204:True:=⟨⟩
theorem PySem.W.Fast.tw3980326461853022718:True:=⟨⟩
theorem PySem.W.Fast.tw3999143515699093328:True:=⟨⟩
theorem PySem.W.Fast.tw4009594293427750650:True:=⟨⟩
theorem PySem.W.Fast.tw4048684873508526473:True:=⟨⟩
theorem PySem.W.Fast.tw4050166104346422282:True:=⟨⟩
theorem PySem.W.Fast.tw4063769185822496117:True:=⟨⟩
theorem PySem.W.Fast.tw4065057575697087416:True:=⟨⟩
theorem PySem.W.Fast.tw4083278680965798856:True:=⟨⟩
theorem PySem.W.Fast.tw4144056836170135281:True:=⟨⟩
theorem PySem.W.Fast.tw4145104393230855911:True:=⟨⟩
theorem PySem.W.Fast.tw4192771198311136729:True:=⟨⟩
theorem PySem.W.Fast.tw4193528671633331923:True:=⟨⟩
theorem PySem.W.Fast.tw4195680666234262565:True:=⟨⟩
theorem PySem.W.Fast.tw4206609848662265595:True:=⟨⟩
theorem PySem.W.Fast.tw4221808156332681482:True:=⟨⟩
theorem PySem.W.Fast.tw4239794098006807036:True:=⟨⟩
theorem PySem.W.Fast.tw4240671544908288141:True:=⟨⟩
theorem PySem.W.Fast.tw4245612854910723091:True:=⟨⟩
theorem PySem.W.Fast.tw4298697334837986840:True:=⟨⟩
theorem PySem.W.Fast.tw4301982912882184778:True:=⟨⟩
theorem PySem.W.Fast.tw4339101356066566384:True:=⟨⟩
theorem PySem.W.Fast.tw4359987056338836383:True:=⟨⟩
theorem PySem.W.Fast.tw4360352245115732899:True:=⟨⟩
theorem PySem.W.Fast.tw4392329160680531947:True:=⟨⟩
theorem PySem.W.Fast.tw4472579463149023662:True:=⟨⟩
theorem PySem.W.Fast.tw4490500589314446835:True:=⟨⟩
theorem PySem.W.Fast.tw4496420159769880926:True:=⟨⟩
theorem PySem.W.Fast.tw4516935637808057887:True:=⟨⟩
theorem PySem.W.Fast.tw4519166063204138006:True:=⟨⟩
theorem PySem.W.Fast.tw4533503036711748725:True:=⟨⟩
theorem PySem.W.Fast.tw456006017104887380:True:=⟨⟩
theorem PySem.W.Fast.tw4600133733471845574:True:=⟨⟩
theorem PySem.W.Fast.tw462701114420374936:True:=⟨⟩
theorem PySem.W.Fast.tw463048075338935001:True:=⟨⟩
theorem PySem.W.Fast.tw466706186619797115:True:=⟨⟩
theorem PySem.W.Fast.tw4671218155894549977:True:=⟨⟩
theorem PySem.W.Fast.tw470065483533595178:True:=⟨⟩
theorem PySem.W.Fast.tw4715294512796163035:True:=⟨⟩
theorem PySem.W.Fast.tw473251656309992906:True:=⟨⟩
theorem PySem.W.Fast.tw4743846785890774056:True:=⟨⟩
theorem PySem.W.Fast.tw4751791567653771356:True:=⟨⟩
theorem PySem.W.Fast.tw4752189151683546198:True:=⟨⟩
theorem PySem.W.Fast.tw476918706814696097:True:=⟨⟩
theorem PySem.W.Fast.tw4778499480412507762:True:=⟨⟩
theorem PySem.W.Fast.tw4789835016136736793:True:=⟨⟩
theorem PySem.W.Fast.tw4804114523337800197:True:=⟨⟩
theorem PySem.W.Fast.tw4805039143502469402:True:=⟨⟩
theorem PySem.W.Fast.tw4805581942654296325:True:=⟨⟩
theorem PySem.W.Fast.tw4814051401930901212:True:=⟨⟩
theorem PySem.W.Fast.tw4841668836799634333:True:=⟨⟩
theorem PySem.W.Fast.tw484247368658485801:True:=⟨⟩
theorem PySem.W.Fast.tw4850193619268376725:True:=⟨⟩
theorem PySem.W.Fast.tw4905441503341309294:True:=⟨⟩
theorem PySem.W.Fast.tw4935885284704865923:True:=⟨⟩
theorem PySem.W.Fast.tw4949939514709542168:True:=⟨⟩
theorem PySem.W.Fast.tw4954921113556820402:True:=⟨⟩
theorem PySem.W.Fast.tw4960974490157989788:True:=⟨⟩
theorem PySem.W.Fast.tw5015118089199570405:True:=⟨⟩
theorem PySem.W.Fast.tw5028209879800431438:True:=⟨⟩
theorem PySem.W.Fast.tw5100025872954137391:True:=⟨⟩
theorem PySem.W.Fast.tw514491166519767118:True:=⟨⟩
theorem PySem.W.Fast.tw5147434588062350189:True:=⟨⟩
theorem PySem.W.Fast.tw5167633851487998119:True:=⟨⟩
theorem PySem.W.Fast.tw5179175037976626990:True:=⟨⟩
theorem PySem.W.Fast.tw5183178561923764989:True:=⟨⟩
theorem PySem.W.Fast.tw5263921689794502654:True:=⟨⟩
theorem PySem.W.Fast.tw527617200490987025:True:=⟨⟩
theorem PySem.W.Fast.tw5308977350730813669:True:=⟨⟩
theorem PySem.W.Fast.tw5349730161558502695:True:=⟨⟩
theorem PySem.W.Fast.tw5363131159244480968:True:=⟨⟩
theorem PySem.W.Fast.tw536557362909530815:True:=⟨⟩
theorem PySem.W.Fast.tw5367565221526119896:True:=⟨⟩
theorem PySem.W.Fast.tw5374171830567755217:True:=⟨⟩
theorem PySem.W.Fast.tw5382393023065624421:True:=⟨⟩
theorem PySem.W.Fast.tw5461446581618146317:True:=⟨⟩
theorem PySem.W.Fast.tw5472128287765255007:True:=⟨⟩
theorem PySem.W.Fast.tw5566132810973231385:True:=⟨⟩
theorem PySem.W.Fast.tw5614327919738880329:True:=⟨⟩
theorem PySem.W.Fast.tw5646699352227333841:True:=⟨⟩
theorem PySem.W.Fast.tw570445286650085820:True:=⟨⟩
theorem PySem.W.Fast.tw57255397255349405:True:=⟨⟩
theorem PySem.W.Fast.tw5760053637371986223:True:=⟨⟩
theorem PySem.W.Fast.tw5763508712536169303:True:=⟨⟩
theorem PySem.W.Fast.tw5797042827913675597:True:=⟨⟩
theorem PySem.W.Fast.tw5865244377764013051:True:=⟨⟩
theorem PySem.W.Fast.tw5882973471946219428:True:=⟨⟩
theorem PySem.W.Fast.tw5896058814840855535:True:=⟨⟩
theorem PySem.W.Fast.tw5897445701890483934:True:=⟨⟩
theorem PySem.W.Fast.tw5898636672037590642:True:=⟨⟩
theorem PySem.W.Fast.tw5905443947466460673:True:=⟨⟩
theorem PySem.W.Fast.tw5922553388707083599:True:=⟨⟩
theorem PySem.W.Fast.tw5940728853520275221:True:=⟨⟩
theorem PySem.W.Fast.tw5952716488862058799:True:=⟨⟩
theorem PySem.W.Fast.tw5988471645602320100:True:=⟨⟩
theorem PySem.W.Fast.tw6009834339711344160:True:=⟨⟩
theorem PySem.W.Fast.tw6032953276146343487:True:=⟨⟩
theorem PySem.W.Fast.tw6067113183602337913:True:=⟨⟩
theorem PySem.W.Fast.tw6080693455822829237:True:=⟨⟩
theorem PySem.W.Fast.tw611617964594695057:True:=⟨⟩
theorem PySem.W.Fast.tw6160322164439904510:True:=⟨⟩
theorem PySem.W.Fast.tw6182353272434684959:True:=⟨⟩
theorem PySem.W.Fast.tw6212081245861736689:True:=⟨⟩
theorem PySem.W.Fast.tw6241338705986258320:True:=⟨⟩
theorem PySem.W.Fast.tw6251612350753251456:True:=⟨⟩
theorem PySem.W.Fast.tw6263298077805829633:True:=⟨⟩
theorem PySem.W.Fast.tw6267687371248377661:True:=⟨⟩
theorem PySem.W.Fast.tw6269208030627337845:True:=⟨⟩
theorem PySem.W.Fast.tw6277433910863307712:True:=⟨⟩
theorem PySem.W.Fast.tw6284508352793048038:True:=⟨⟩
theorem PySem.W.Fast.tw6296220860567218643:True:=⟨⟩
theorem PySem.W.Fast.tw6297352241034402429:True:=⟨⟩
theorem PySem.W.Fast.tw631154464156803183:True:=⟨⟩
theorem PySem.W.Fast.tw6339501162135293726:True:=⟨⟩
theorem PySem.W.Fast.tw6370732203429844547:True:=⟨⟩
theorem PySem.W.Fast.tw6382376974680173064:True:=⟨⟩
theorem PySem.W.Fast.tw6400981439683641348:True:=⟨⟩
theorem PySem.W.Fast.tw6418594914140694751:True:=⟨⟩
theorem PySem.W.Fast.tw6516133596999710563:True:=⟨⟩
theorem PySem.W.Fast.tw654425431153988325:True:=⟨⟩
theorem PySem.W.Fast.tw6560523520703201573:True:=⟨⟩
theorem PySem.W.Fast.tw6580121721983968180:True:=⟨⟩
theorem PySem.W.Fast.tw6589542407619743764:True:=⟨⟩
theorem PySem.W.Fast.tw6614658526983143399:True:=⟨⟩
theorem PySem.W.Fast.tw6630991253072372514:True:=⟨⟩
theorem PySem.W.Fast.tw6646722621007388670:True:=⟨⟩
theorem PySem.W.Fast.tw6657306175293325286:True:=⟨⟩
theorem PySem.W.Fast.tw6659297175975269829:True:=⟨⟩
theorem PySem.W.Fast.tw6676348446370359951:True:=⟨⟩
theorem PySem.W.Fast.tw6677293629655989840:True:=⟨⟩
theorem PySem.W.Fast.tw6680957859472344956:True:=⟨⟩
theorem PySem.W.Fast.tw6779875100701018289:True:=⟨⟩
theorem PySem.W.Fast.tw6798045866413171472:True:=⟨⟩
theorem PySem.W.Fast.tw6801554657098840059:True:=⟨⟩
theorem PySem.W.Fast.tw6818238417575877039:True:=⟨⟩
theorem PySem.W.Fast.tw6831762121892688759:True:=⟨⟩
theorem PySem.W.Fast.tw6833769620204234786:True:=⟨⟩
theorem PySem.W.Fast.tw683660906269714632:True:=⟨⟩
theorem PySem.W.Fast.tw6838973871219890456:True:=⟨⟩
theorem PySem.W.Fast.tw6856705139982838438:True:=⟨⟩
theorem PySem.W.Fast.tw6873660147020268325:True:=⟨⟩
theorem PySem.W.Fast.tw6887331211699970650:True:=⟨⟩
theorem PySem.W.Fast.tw6900491717264126848:True:=⟨⟩
theorem PySem.W.Fast.tw6911369524530533863:True:=⟨⟩
theorem PySem.W.Fast.tw6965097340745166936:True:=⟨⟩
theorem PySem.W.Fast.tw699771748558030005:True:=⟨⟩
theorem PySem.W.Fast.tw7017856606238730224:True:=⟨⟩
theorem PySem.W.Fast.tw7031418775171586551:True:=⟨⟩
theorem PySem.W.Fast.tw7047182839336706801:True:=⟨⟩
theorem PySem.W.Fast.tw7083994070894014325:True:=⟨⟩
theorem PySem.W.Fast.tw7118662884877619988:True:=⟨⟩
theorem PySem.W.Fast.tw7150722875961276768:True:=⟨⟩
theorem PySem.W.Fast.tw7166817560792458088:True:=⟨⟩
theorem PySem.W.Fast.tw7182892156292152839:True:=⟨⟩
theorem PySem.W.Fast.tw7208080414955488212:True:=⟨⟩
theorem PySem.W.Fast.tw7303939887537542003:True:=⟨⟩
theorem PySem.W.Fast.tw7322083590788089948:True:=⟨⟩
theorem PySem.W.Fast.tw7324844033214760609:True:=⟨⟩
theorem PySem.W.Fast.tw7434044244811279767:True:=⟨⟩
theorem PySem.W.Fast.tw7438315317983953843:True:=⟨⟩
theorem PySem.W.Fast.tw7442595079028930961:True:=⟨⟩
theorem PySem.W.Fast.tw7480039053115536999:True:=⟨⟩
theorem PySem.W.Fast.tw7494621171715434282:True:=⟨⟩
theorem PySem.W.Fast.tw7511457333832504581:True:=⟨⟩
theorem PySem.W.Fast.tw7521110597075487225:True:=⟨⟩
theorem PySem.W.Fast.tw7524444317423531605:True:=⟨⟩
theorem PySem.W.Fast.tw7563361560818227376:True:=⟨⟩
theorem PySem.W.Fast.tw7567435600130484261:True:=⟨⟩
theorem PySem.W.Fast.tw7595698275646685398:True:=⟨⟩
theorem PySem.W.Fast.tw7609062072088716396:True:=⟨⟩
theorem PySem.W.Fast.tw7614224636189552417:True:=⟨⟩
theorem PySem.W.Fast.tw7654698149283964384:True:=⟨⟩
theorem PySem.W.Fast.tw7660912001385800852:True:=⟨⟩
theorem PySem.W.Fast.tw7667515304403968967:True:=⟨⟩
theorem PySem.W.Fast.tw7707440613219752478:True:=⟨⟩
theorem PySem.W.Fast.tw7718168282451793681:True:=⟨⟩
theorem PySem.W.Fast.tw7719795317608935765:True:=⟨⟩
theorem PySem.W.Fast.tw7725575662971213848:True:=⟨⟩
theorem PySem.W.Fast.tw772833877998833075:True:=⟨⟩
theorem PySem.W.Fast.tw7730345465509388655:True:=⟨⟩
theorem PySem.W.Fast.tw7753364418293339001:True:=⟨⟩
theorem PySem.W.Fast.tw7776554647734269225:True:=⟨⟩
theorem PySem.W.Fast.tw7788049777178825733:True:=⟨⟩
theorem PySem.W.Fast.tw7812460825983204442:True:=⟨⟩
theorem PySem.W.Fast.tw7826009146517460473:True:=⟨⟩
theorem PySem.W.Fast.tw7876902114403071001:True:=⟨⟩
theorem PySem.W.Fast.tw7884463711241077671:True:=⟨⟩
theorem PySem.W.Fast.tw7935945940423020185:True:=⟨⟩
theorem PySem.W.Fast.tw7969049076849421639:True:=⟨⟩
theorem PySem.W.Fast.tw7980742184696925941:True:=⟨⟩
theorem PySem.W.Fast.tw8011522417044076718:True:=⟨⟩
theorem PySem.W.Fast.tw802813735218096074:True:=⟨⟩
theorem PySem.W.Fast.tw803203049944527378:True:=⟨⟩
theorem PySem.W.Fast.tw805311825041310343:True:=⟨⟩
theorem PySem.W.Fast.tw805449924385153242:True:=⟨⟩
theorem PySem.W.Fast.tw8096095889359208319:True:=⟨⟩
theorem PySem.W.Fast.tw8096509249290047616:True:=⟨⟩
theorem PySem.W.Fast.tw8129650704021990692:True:=⟨⟩
theorem PySem.W.Fast.tw816376426113052818:True:=⟨⟩
theorem PySem.W.Fast.tw8174540578991027733:True:=⟨⟩
theorem PySem.W.Fast.tw8219228773895229691:True:=⟨⟩
theorem PySem.W.Fast.tw8255272364836198987:True:=⟨⟩
theorem PySem.W.Fast.tw8304943352356223888:True:=⟨⟩
theorem PySem.W.Fast.tw8325104836267729708:True:=⟨⟩
theorem PySem.W.Fast.tw8355523148460625630:True:=⟨⟩
theorem PySem.W.Fast.tw8363927428253262176:True:=⟨⟩
theorem PySem.W.Fast.tw838441792071793578:True:=⟨⟩
theorem PySem.W.Fast.tw8390802423461497988:True:=⟨⟩
theorem PySem.W.Fast.tw840127761250589522:True:=⟨⟩
theorem PySem.W.Fast.tw8421673927271593984:True:=⟨⟩
theorem PySem.W.Fast.tw8467875685689749504:True:=⟨⟩
theorem PySem.W.Fast.tw8481938133981625215:True:=⟨⟩
theorem PySem.W.Fast.tw8496799895968022834:True:=⟨⟩
theorem PySem.W.Fast.tw8522918409141278483:True:=⟨⟩
theorem PySem.W.Fast.tw8560313874734110613:True:=⟨⟩
theorem PySem.W.Fast.tw8573435871054775053:True:=⟨⟩
theorem PySem.W.Fast.tw8583632151573220370:True:=⟨⟩
theorem PySem.W.Fast.tw860547385940008210:True:=⟨⟩
theorem PySem.W.Fast.tw861663486361253832:True:=⟨⟩
theorem PySem.W.Fast.tw8623176335973380718:True:=⟨⟩
theorem PySem.W.Fast.tw8624209511970764580:True:=⟨⟩
theorem PySem.W.Fast.tw8631253438542779828:True:=⟨⟩
theorem PySem.W.Fast.tw8631425053628483118:True:=⟨⟩
theorem PySem.W.Fast.tw8638049676885830284:True:=⟨⟩
theorem PySem.W.Fast.tw8676003747512765971:True:=⟨⟩
theorem PySem.W.Fast.tw8698430505377264865:True:=⟨⟩
theorem PySem.W.Fast.tw8748103745376096996:True:=⟨⟩
theorem PySem.W.Fast.tw8771208030229270667:True:=⟨⟩
theorem PySem.W.Fast.tw8787270482706567226:True:=⟨⟩
theorem PySem.W.Fast.tw8853012645389233434:True:=⟨⟩
theorem PySem.W.Fast.tw886546808143241244:True:=⟨⟩
theorem PySem.W.Fast.tw8875428077318103935:True:=⟨⟩
theorem PySem.W.Fast.tw8889228065164532573:True:=⟨⟩
theorem PySem.W.Fast.tw88957903310238983:True:=⟨⟩
theorem PySem.W.Fast.tw8908058208938439405:True:=⟨⟩
theorem PySem.W.Fast.tw8929651320917359517:True:=⟨⟩
theorem PySem.W.Fast.tw8943567915799190701:True:=⟨⟩
theorem PySem.W.Fast.tw9004835075956606162:True:=⟨⟩
theorem PySem.W.Fast.tw9021396633337108388:True:=⟨⟩
theorem PySem.W.Fast.tw9023645341327170953:True:=⟨⟩
theorem PySem.W.Fast.tw9048019770377497257:True:=⟨⟩
theorem PySem.W.Fast.tw9049954566253436002:True:=⟨⟩
theorem PySem.W.Fast.tw9053862944109528632:True:=⟨⟩
theorem PySem.W.Fast.tw9055168328808649334:True:=⟨⟩
theorem PySem.W.Fast.tw9108720607217812087:True:=⟨⟩
theorem PySem.W.Fast.tw9133779973103970543:True:=⟨⟩
theorem PySem.W.Fast.tw9144995616132165906:True:=⟨⟩
theorem PySem.W.Fast.tw9154408629355288486:True:=⟨⟩
theorem PySem.W.Fast.tw9156804305481702263:True:=⟨⟩
theorem PySem.W.Fast.tw917383745091342110:True:=⟨⟩
theorem PySem.W.Fast.tw9187595748447310192:True:=⟨⟩
theorem PySem.W.Fast.tw9188041971348461706:True:=⟨⟩
theorem PySem.W.Fast.tw9241893526689107831:True:=⟨⟩
theorem PySem.W.Fast.tw9252752476339995347:True:=⟨⟩
theorem PySem.W.Fast.tw9268594755313917886:True:=⟨⟩
theorem PySem.W.Fast.tw927940494202647794:True:=⟨⟩
theorem PySem.W.Fast.tw9325597383994910540:True:=⟨⟩
theorem PySem.W.Fast.tw9356598113234479086:True:=⟨⟩
theorem PySem.W.Fast.tw9368497632284397758:True:=⟨⟩
theorem PySem.W.Fast.tw942225894641905464:True:=⟨⟩
theorem PySem.W.Fast.tw9429826654734661586:True:=⟨⟩
theorem PySem.W.Fast.tw9474364368986349537:True:=⟨⟩
theorem PySem.W.Fast.tw9487617079218466354:True:=⟨⟩
theorem PySem.W.Fast.tw9511416651963958207:True:=⟨⟩
theorem PySem.W.Fast.tw9525877845201708364:True:=⟨⟩
theorem PySem.W.Fast.tw9555646512522459971:True:=⟨⟩
theorem PySem.W.Fast.tw9584990020890882030:True:=⟨⟩
theorem PySem.W.Fast.tw9647633981466371961:True:=⟨⟩
theorem PySem.W.Fast.tw9666484380319523167:True:=⟨⟩
theorem PySem.W.Fast.tw9667693786372247293:True:=⟨⟩
theorem PySem.W.Fast.tw9687060357560880157:True:=⟨⟩
theorem PySem.W.Fast.tw9705200516953254929:True:=⟨⟩
theorem PySem.W.Fast.tw9707844897062710054:True:=⟨⟩
theorem PySem.W.Fast.tw9713064031731653253:True:=⟨⟩
theorem PySem.W.Fast.tw9733410823772974582:True:=⟨⟩
theorem PySem.W.Fast.tw9744063967715178031:True:=⟨⟩
theorem PySem.W.Fast.tw974457918978239785:True:=⟨⟩
theorem PySem.W.Fast.tw9749235365125317323:True:=⟨⟩
theorem PySem.W.Fast.tw9767905073944433072:True:=⟨⟩
theorem PySem.W.Fast.tw9796328735066506048:True:=⟨⟩
theorem PySem.W.Fast.tw9812755374308937214:True:=⟨⟩
theorem PySem.W.Fast.tw9839054713482043691:True:=⟨⟩
theorem PySem.W.Fast.tw9847181597875696097:True:=⟨⟩
theorem PySem.W.Fast.tw9855089301217498792:True:=⟨⟩
theorem PySem.W.Fast.tw9908391784947106759:True:=⟨⟩
theorem PySem.W.Fast.tw9930444444642513111:True:=⟨⟩
theorem PySem.W.Fast.tw9952874686875265321:True:=⟨⟩
namespace My
theorem cu_look{x y z d:Type}{f:x->z}{g:y->z}{as:List x}{ks:List y}{n:Nat}{u v:d}(h:((as.take n).map f,u)=((ks.take n).map g,v))(k:u=v->(as.drop n).map f=(ks.drop n).map g):as.map f=ks.map g:=by
  have e1:=(Prod.mk.inj h).1
  have e2:=k (Prod.mk.inj h).2
  have a:=congrArg (List.map f) (List.take_append_drop n as)
  have b:=congrArg (List.map g) (List.take_append_drop n ks)
  rw [List.map_append] at a b
  rw [<-a,<-b,e1,e2]
end My
open PySem PySem.W PyProof.Rows
local macro_rules
  | `(tactic| refine $f ($n1 := $a1) ($n2 := $a2) ($n3 := $a3) ($n4 := $a4) ($n5 := $o ($h $k $a $e)) ($n6 := $a6) ($n7 := $a7) ($n8 := $a8) $hl $of $r*) => `(tactic| refine $f ($n1 := $a1) ($n2 := $a2) ($n3 := $a3) ($n4 := $a4) ($n5 := fun s=>((List.take 100 $a).map s.heap.get?,(List.take 100 (List.drop 100 $a)).map s.heap.get?,(List.take 100 (List.drop 100 (List.drop 100 $a))).map s.heap.get?,(List.take 100 (List.drop 100 (List.drop 100 (List.drop 100 $a)))).map s.heap.get?,(List.take 100 (List.drop 100 (List.drop 100 (List.drop 100 (List.drop 100 $a))))).map s.heap.get?,(List.take 100 (List.drop 100 (List.drop 100 (List.drop 100 (List.drop 100 (List.drop 100 $a)))))).map s.heap.get?,(List.take 100 (List.drop 100 (List.drop 100 (List.drop 100 (List.drop 100 (List.drop 100 (List.drop 100 $a))))))).map s.heap.get?,(List.take 100 (List.drop 100 (List.drop 100 (List.drop 100 (List.drop 100 (List.drop 100 (List.drop 100 (List.drop 100 $a)))))))).map s.heap.get?,(List.drop 100 (List.drop 100 (List.drop 100 (List.drop 100 (List.drop 100 (List.drop 100 (List.drop 100 (List.drop 100 $a)))))))).map s.heap.get?)) ($n6 := fun w=>((List.take 100 ($k w.params)).map (fun p=>some p.2),(List.take 100 (List.drop 100 ($k w.params))).map (fun p=>some p.2),(List.take 100 (List.drop 100 (List.drop 100 ($k w.params)))).map (fun p=>some p.2),(List.take 100 (List.drop 100 (List.drop 100 (List.drop 100 ($k w.params))))).map (fun p=>some p.2),(List.take 100 (List.drop 100 (List.drop 100 (List.drop 100 (List.drop 100 ($k w.params)))))).map (fun p=>some p.2),(List.take 100 (List.drop 100 (List.drop 100 (List.drop 100 (List.drop 100 (List.drop 100 ($k w.params))))))).map (fun p=>some p.2),(List.take 100 (List.drop 100 (List.drop 100 (List.drop 100 (List.drop 100 (List.drop 100 (List.drop 100 ($k w.params)))))))).map (fun p=>some p.2),(List.take 100 (List.drop 100 (List.drop 100 (List.drop 100 (List.drop 100 (List.drop 100 (List.drop 100 (List.drop 100 ($k w.params))))))))).map (fun p=>some p.2),(List.drop 100 (List.drop 100 (List.drop 100 (List.drop 100 (List.drop 100 (List.drop 100 (List.drop 100 (List.drop 100 ($k w.params))))))))).map (fun p=>some p.2))) ($n7 := $a7) ($n8 := $a8) $hl (fun w s h=>$of w s (My.cu_look h fun h=>My.cu_look h fun h=>My.cu_look h fun h=>My.cu_look h fun h=>My.cu_look h fun h=>My.cu_look h fun h=>My.cu_look h fun h=>My.cu_look h fun h=>h)) $r*)
set_option maxRecDepth 100000 in
set_option maxHeartbeats 0 in
theorem PySem.Challenge.cw_bytetongue_k94_whole_one_text_through_al_holds : PySem.Challenge.rw_bytetongue_k94_whole_one_text_through_al.Holds := by
 w_on;o_law;k_head;(case hw=>w_witness2)
 k_fill
 refine My.walk (l:=PySem.Challenge.rw_bytetongue_k94_whole_one_text_through_al) rfl rfl rfl (λw h Y=>PySem.W.kIn_of Y) ?F
 case F =>
  intro w mg h KX G
  refine' My.txt_mk KX G ?zu ?rP ?sH ?sd ?rD ?y0 ?zg ?yh ?x5 ?xN ?wB ?yL ?yK ?yJ ?yI ?yH ?yG ?yF ?TX ?bY ?oZ ?EY ?tY ?BZ ?ZX ?BX ?pZ ?cY ?mX ?SX ?DX ?TY ?eY ?uX ?RX ?CX ?sZ ?DY ?tX ?dZ ?zX ?fZ ?iY ?sX ?CZ ?vX ?YX ?wY ?qX ?aY ?HX ?HY ?gY ?oX ?JX ?vY ?oY ?zY ?GX ?cZ ?wX ?sY ?bZ ?pX ?eZ ?vZ ?aZ ?zZ ?gO ?lR ?wQ ?IV ?cT ?zQ ?nO ?wV ?XN ?UL ?aX ?ZL ?YM ?rU ?wK ?RQ ?mH ?RW ?qU ?CN ?mO ?eH ?eX ?DP ?zz ?rV ?sO ?so ?rJ ?y7 ?zl ?ym ?yb ?xS ?gB ?yU ?yT ?GJ ?mJ ?FN ?zV ?LQ ?WR ?tR ?TJ ?uR ?ZM ?fJ ?fX ?RL ?bQ ?zt ?rO ?sG ?r9 ?rC ?yZ ?zf ?yg ?xZ ?xM ?iB ?yE ?uU ?VV ?NP ?iW ?jH ?tV ?MN ?zU ?tU ?RG ?JL ?QJ ?HN ?zr ?rN ?sE ?r6 ?rB ?yY ?ze ?yf ?xY ?xL ?tB ?yD ?yC ?YQ ?cN ?PQ ?VP ?MP ?vI ?mV ?tO ?aU ?VF ?zo ?rK ?sw ?rY ?rp ?yV ?zb ?yc ?xV ?xI ?zB ?yt ?yr ?yq ?yp ?yo ?WK ?zK ?jP ?qR ?vM ?gW ?gJ ?cP ?VK ?fW ?QF ?vV ?vN ?PK ?eO ?XF ?uV ?fH ?UW ?qN ?cG ?GQ ?uL ?tQ ?pP ?jG ?fQ ?RV ?fM ?uT ?DG ?JK ?DN ?cI ?vP ?fG ?tW ?XM ?DQ ?iK ?VR ?QV ?SJ ?jU ?FW ?BL ?bT ?dW ?qP ?mU ?kI ?iQ ?QQ ?pJ ?pL ?QW ?fK ?bW ?GR ?uQ ?BP ?eN ?bI ?tH ?HQ ?WN ?CK ?xT ?bJ ?qT ?YT ?GP ?QR ?FP ?QS ?gR ?zy ?rT ?sN ?sk ?rH ?y6 ?zk ?zm ?yl ?ya ?xR ?vB ?pK ?iR ?sV ?QT ?qG ?GK ?HS ?DR ?jO ?dX ?oG ?pN ?cQ ?iV ?BJ ?wN ?mG ?gV ?mK ?aF ?cW ?TV ?vD ?vO ?wD ?rW ?vL ?uD ?pU ?oK ?SN ?UJ ?bL ?uH ?OJ ?cX ?wO ?eQ ?oM ?zW ?XJ ?KJ ?iU ?JN ?vU ?qK ?pQ ?JP ?KR ?iT ?YW ?VL ?ZK ?QH ?iI ?fO ?uJ ?zw ?rR ?sL ?si ?rF ?y3 ?zi ?yj ?x8 ?xP ?cB ?yO ?yN ?cR ?CQ ?YJ ?RN ?zH ?VM ?gK ?FQ ?aN ?CG ?nJ ?pO ?qI ?nQ ?gG ?UV ?aV ?XH ?uW ?iG ?zx ?rS ?sM ?sj ?rG ?y4 ?zj ?yk ?x9 ?xQ ?fB ?yS ?yR ?yQ ?yP ?qW ?WW ?uN ?LR ?zR ?bH ?eU ?oH ?sJ ?VG ?iJ ?QL ?qM ?cJ ?YF ?XS ?MK ?pI ?zJ ?uG ?bK ?uM ?oO ?qO ?jJ ?mW ?uK ?tL ?nW ?UT ?jM ?nR ?zv ?rQ ?sK ?sf ?rE ?y1 ?zh ?yi ?x6 ?xO ?uB ?yM ?sS ?zP ?wM ?cU ?MJ ?XQ ?bM ?QM ?gU ?bR ?tG ?MT ?dH ?RT ?cM ?WF ?uP ?bU ?HJ ?VH ?TG ?oV ?oR ?nT ?pH ?dG ?WT ?fV ?qJ ?bO ?ZF ?FT ?PN ?pR ?KN ?nM ?ZG ?gH ?jL ?sI ?YL ?wL ?pG ?gP ?vW ?vH ?LK ?SQ ?zM ?xU ?QK ?aQ ?nU ?mL ?zT ?YK ?vR ?ZP ?XK ?fU ?fL ?WM ?HW ?mQ ?YH ?zq ?rM ?sy ?r0 ?rA ?yX ?zd ?ye ?xX ?xK ?pB ?yB ?yA ?yy ?jQ ?CT ?cL ?ZQ ?wI ?uO ?HH ?aP ?mR ?QG ?cV ?qH ?NT ?PL ?bG ?pM ?zL ?oW ?CW ?eV ?xG ?jN ?bV ?qQ ?jK ?aH ?JS ?oN ?qL ?ZV ?ZW ?JG ?DK ?aR ?dU ?dR ?JQ ?RP ?aO ?CP ?pW ?BW ?oJ ?oU ?ZJ ?zp ?rL ?sx ?rZ ?rq ?yW ?zc ?yd ?xW ?xJ ?jB ?yx ?yw ?yu ?zN ?RJ ?CV ?vJ ?JT ?WL ?sW ?dM ?jR ?UG ?rI ?TQ ?wH ?aJ ?TF ?TP ?JV ?cO ?xH ?fP ?vG ?DW ?tK ?RK ?JH ?aW ?eG ?jT ?uI ?VN ?wJ ?PP ?KQ ?FJ ?PJ ?nP ?iM ?NQ ?IW ?vK ?CJ ?BV ?ZS ?dK ?PT ?KH ?BR ?vQ ?VJ ?zO ?WQ ?wU ?NK ?tM ?JR ?wR ?HR ?JW ?aL ?JM ?sU ?dJ ?ZR ?dO ?xF ?uE ?tE ?pF ?jF ?JF ?eE ?cF ?wF ?ZD ?GF ?qF ?eF ?bF ?HF ?zE ?HD ?GD ?jE ?JD ?nF ?mF ?RD ?XD ?uF ?dF ?oE ?OD ?cA ?nA ?zA ?uA ?aA ?bA ?oA ?aB ?vA ?pA ?wA ?gA ?zn ?zF ?zG ?zI ?k0 ?k1 ?k2 ?wZ ?nZ ?XX ?YD ?gF ?QD ?oF ?WD ?JB ?qC ?iC ?YB ?XC ?wC ?KC ?RC ?fC ?RB ?tC ?YC ?HB ?cC ?gC ?MF ?KD ?VD ?uC ?GC ?NB ?QC ?nC ?jC ?vC ?pC ?VB ?QB ?PB ?aC ?JC ?LC ?dC ?k3 ?k4 ?k5 ?k6 ?k7 ?k8 ?k9 ?fY ?nY ?qY ?uY ?dY ?k15 ?WX ?aG ?wW ?YS ?tZ ?YG ?aM ?RM ?KY ?WY ?qZ ?gZ ?mZ ?PX ?XR ?SM ?IK ?mY ?WP ?BK ?dN ?bD ?dD ?jD ?cD ?pD ?qD ?iD ?nD ?gD ?fD ?mD ?aD ?ZC ?lD ?tD ?pY ?wG ?gQ ?bN ?z0 ?z1 ?z2 ?z3 ?z4 ?z5 ?z6 ?z7 ?z8 ?z9 ?uZ ?QX
  case zn|zF|zG|zI|zu|rP|sH|sd|rD|y0|zg|yh|x5|xN|wB|yL|yK|yJ|yI|yH|yG|yF|TX|bY|oZ|EY|tY|BZ|ZX|BX|pZ|cY|mX|SX|DX|TY|eY|uX|RX|CX|sZ|DY|tX|dZ|zX|fZ|iY|sX|CZ|vX|YX|wY|qX|aY|HX|HY|gY|oX|JX|vY=>k_is
  case oY|zY|GX|cZ|wX|sY|bZ|pX|eZ|vZ|aZ|zZ|gO|lR|wQ|IV|cT|zQ|nO|wV|XN|UL|aX|ZL|YM|rU|wK|RQ|mH|RW|qU|CN|mO|eH|eX|DP|zz|rV|sO|so|rJ|y7|zl|ym|yb|xS|gB|yU|yT|GJ|mJ|FN|zV|LQ|WR|tR|TJ|uR|ZM|fJ=>k_is
  case fX|RL|bQ|zt|rO|sG|r9|rC|yZ|zf|yg|xZ|xM|iB|yE|uU|VV|NP|iW|jH|tV|MN|zU|tU|RG|JL|QJ|HN|zr|rN|sE|r6|rB|yY|ze|yf|xY|xL|tB|yD|yC|YQ|cN|PQ|VP|MP|vI|mV|tO|aU|VF|zo|rK|sw|rY|rp|yV|zb|yc|xV=>k_is
  case xI|zB|yt|yr|yq|yp|yo|WK|zK|jP|qR|vM|gW|gJ|cP|VK|fW|QF|vV|vN|PK|eO|XF|uV|fH|UW|qN|cG|GQ|uL|tQ|pP|jG|fQ|RV|fM|uT|DG|JK|DN|cI|vP|fG|tW|XM|DQ|iK|VR|QV|SJ|jU|FW|BL|bT|dW|qP|mU|kI|iQ|QQ=>k_is
  case pJ|pL|QW|fK|bW|GR|uQ|BP|eN|bI|tH|HQ|WN|CK|xT|bJ|qT|YT|GP|QR|FP|QS|gR|zy|rT|sN|sk|rH|y6|zk|zm|yl|ya|xR|vB|pK|iR|sV|QT|qG|GK|HS|DR|jO|dX|oG|pN|cQ|iV|BJ|wN|mG|gV|mK|aF|cW|TV|vD|vO|wD=>k_is
  case rW|vL|uD|pU|oK|SN|UJ|bL|uH|OJ|cX|wO|eQ|oM|zW|XJ|KJ|iU|JN|vU|qK|pQ|JP|KR|iT|YW|VL|ZK|QH|iI|fO|uJ|zw|rR|sL|si|rF|y3|zi|yj|x8|xP|cB|yO|yN|cR|CQ|YJ|RN|zH|VM|gK|FQ|aN|CG|nJ|pO|qI|nQ|gG=>k_is
  case UV|aV|XH|uW|iG|zx|rS|sM|sj|rG|y4|zj|yk|x9|xQ|fB|yS|yR|yQ|yP|qW|WW|uN|LR|zR|bH|eU|oH|sJ|VG|iJ|QL|qM|cJ|YF|XS|MK|pI|zJ|uG|bK|uM|oO|qO|jJ|mW|uK|tL|nW|UT|jM|nR|zv|rQ|sK|sf|rE|y1|zh|yi=>k_is
  case x6|xO|uB|yM|sS|zP|wM|cU|MJ|XQ|bM|QM|gU|bR|tG|MT|dH|RT|cM|WF|uP|bU|HJ|VH|TG|oV|oR|nT|pH|dG|WT|fV|qJ|bO|ZF|FT|PN|pR|KN|nM|ZG|gH|jL|sI|YL|wL|pG|gP|vW|vH|LK|SQ|zM|xU|QK|aQ|nU|mL|zT|YK=>k_is
  case vR|ZP|XK|fU|fL|WM|HW|mQ|YH|zq|rM|sy|r0|rA|yX|zd|ye|xX|xK|pB|yB|yA|yy|jQ|CT|cL|ZQ|wI|uO|HH|aP|mR|QG|cV|qH|NT|PL|bG|pM|zL|oW|CW|eV|xG|jN|bV|qQ|jK|aH|JS|oN|qL|ZV|ZW|JG|DK|aR|dU|dR|JQ=>k_is
  case RP|aO|CP|pW|BW|oJ|oU|ZJ|zp|rL|sx|rZ|rq|yW|zc|yd|xW|xJ|jB|yx|yw|yu|zN|RJ|CV|vJ|JT|WL|sW|dM|jR|UG|rI|TQ|wH|aJ|TF|TP|JV|cO|xH|fP|vG|DW|tK|RK|JH|aW|eG|jT|uI|VN|wJ|PP|KQ|FJ|PJ|nP|iM|NQ=>k_is
  case IW|vK|CJ|BV|ZS|dK|PT|KH|BR|vQ|VJ|zO|WQ|wU|NK|tM|JR|wR|HR|JW|aL|JM|sU|dJ|ZR|dO|xF|uE|tE|pF|jF|JF|eE|cF|wF|ZD|GF|qF|eF|bF|HF|zE|HD|GD|jE|JD|nF|mF|RD|XD|uF|dF|oE|OD|cA|nA|zA|uA|aA|bA=>k_is
  case oA|aB|vA|pA|wA|gA|k0|k1|k2|wZ=>k_is
  (case nZ=>rfl)
  (case XX=>rfl)
  (case YD=>rfl)
  (case gF=>rfl)
  case QD=>k_is
  (case oF=>rfl)
  (case WD=>rfl)
  case JB=>k_is
  (case qC=>rfl)
  (case iC=>rfl)
  case YB=>k_is
  (case XC=>rfl)
  (case wC=>rfl)
  case KC=>k_is
  (case RC=>rfl)
  (case fC=>rfl)
  case RB=>k_is
  (case tC=>rfl)
  (case YC=>rfl)
  case HB=>k_is
  (case cC=>rfl)
  (case gC=>rfl)
  case MF=>k_is
  (case KD=>rfl)
  (case VD=>rfl)
  case uC=>k_is
  (case GC=>rfl)
  (case NB=>rfl)
  case QC=>k_is
  (case nC=>rfl)
  (case jC=>rfl)
  case vC=>k_is
  (case pC=>rfl)
  (case VB=>rfl)
  case QB=>k_is
  (case PB=>rfl)
  (case aC=>rfl)
  case JC=>k_is
  (case LC=>rfl)
  (case dC=>rfl)
  case k3|k4|k5|k6|k7|k8|k9|fY|nY|qY|uY|dY|k15|WX|aG=>k_is
  (case wW=>rfl)
  (case YS=>rfl)
  case tZ|YG=>k_is
  (case aM=>rfl)
  (case RM=>rfl)
  case KY|WY|qZ|gZ|mZ|PX|XR=>k_is
  (case SM=>rfl)
  (case IK=>rfl)
  case mY|WP=>k_is
  (case BK=>rfl)
  (case dN=>rfl)
  case bD=>k_is
  (case dD=>rfl)
  (case jD=>rfl)
  case cD=>k_is
  (case pD=>rfl)
  (case qD=>rfl)
  case iD=>k_is
  (case nD=>rfl)
  (case gD=>rfl)
  case fD=>k_is
  (case mD=>rfl)
  (case aD=>rfl)
  case ZC=>k_is
  (case lD=>rfl)
  (case tD=>rfl)
  case pY|wG=>k_is
  (case gQ=>rfl)
  (case bN=>rfl)
  case z0|z1|z2|z3|z4|z5|z6|z7|z8|z9|uZ|QX=>k_is
