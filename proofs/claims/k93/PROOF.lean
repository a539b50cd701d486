import PyProof.Rows.All
import Wide.All
import OpenK.AllK
import Wide.FinOn
import PySem.Challenge.RW_floatforge_k93_desk_refusals
set_option Elab.async false
set_option linter.all false
set_option maxRecDepth 100000
def VN:=@PySem.wpAny_mono
def VP:=@if_pos
def VQ:=@if_neg
def VR:=@Bool.and_eq_true
def VS:=@List.getElem?_eq_some_iff
def VT:=@List.length_cons
def VU:=@Nat.le_refl
def VV:=@List.length_append
def VW:=@PySem.Heap.get?_push_of_some
def VX:=@decide_eq_true
def VY:=@Int.mul_assoc
def VZ:=@List.map_cons
def V0:=@PySem.wpAny_bind
def V3:=@decide_eq_false
def V4:=@List.getElem?_set_ne
def V5:=@List.length_map
def V6:=@List.mem_cons_of_mem
def V7:=@Int.mul_le_mul_of_nonneg_right
def V8:=@PySem.Heap.lt_size
def V9:=@List.getElem?_eq_getElem
def Wa:=@List.lookup_cons
def Wb:=@List.getElem?_append_left
def Wc:=@Nat.lt_of_lt_of_le
def We:=@List.mem_append_right
def Wf:=@List.mem_cons_self
def Wg:=@List.getElem?_set_self
def Wh:=@Nat.le_trans
def Wi:=@PySem.Heap.get?_push_size
def Wj:=@List.append_nil
def Wk:=@Int.mul_comm
def Wl:=@List.size_toArray
def Wm:=@List.getElem?_append_right
def Wn:=@Int.le_of_lt
def Wo:=@beq_iff_eq
def Wq:=@Int.mul_lt_mul_of_pos_right
def Wr:=@beq_eq_false_iff_ne
def Ws:=@PySem.wpAny_pure
def Wt:=@List.getElem?_map
def Wv:=@of_decide_eq_true
def Ww:=@List.all_eq_true
def Wx:=@List.mem_singleton
def Wy:=@Int.emod_nonneg
def Wz:=@Nat.ne_of_lt
def WA:=@PySem.Calls.spliced_cons
def WB:=@Bool.false_eq_true
def WC:=@Decidable.byContradiction
def WD:=@List.mem_cons
def WE:=@Int.emod_lt_of_pos
def WG:=@Int.mul_left_comm
def WH:=@Int.ediv_nonneg
def WI:=@List.length_range
def WJ:=@PySem.wpAny_Call_Name_kw
def WK:=@Int.mul_nonneg
def WL:=@Option.some.inj
def WM:=@beq_self_eq_true
def WN:=@PySem.W.methodCall_KW
def WO:=@List.contains_iff_mem
def WQ:=@List.getElem?_eq_none
def WR:=@PySem.wpAny_truthy_bool
def WS:=@PySem.boot_len
def WT:=@PySem.wpAny_passesOwn
def WU:=@List.mem_map
def WV:=@Bool.and_eq_true_iff
def WW:=@Int.ediv_eq_zero_of_lt
def WX:=@Int.mul_le_mul_of_nonneg_left
def WY:=@PySem.Calls.spliced_nil
def WZ:=@Bool.not_eq_true'
def W0:=@Bool.not_true
def W2:=@if_true
def W3:=@List.nodup_cons
def W4:=@Int.one_mul
def W5:=@Bool.false_ne_true
def W6:=@List.map_map
def W7:=@PySem.Calls.callWith_builtin
def W8:=@decide_eq_true_eq
def W9:=@List.map_congr_left
def Xa:=@List.nil_append
def Xb:=@Ne.symm
def Xc:=@List.map_nil
def Xd:=@PySem.W.callWith_K
def Xe:=@PySem.Calls.evalArgs_plain
def Xf:=@PySem.wpAny_execs_nil
def Xg:=@PySem.W.kia_one
def Xh:=@Int.add_mul_emod_self_right
def Xi:=@Bool.or_eq_true_iff
def Xj:=@Int.mul_one
def Xk:=@Nat.lt_irrefl
def Xl:=@List.all_cons
def Xm:=@PySem.W.mg_of
def Xn:=@List.cons_append
def Xo:=@Int.mul_ediv_add_emod
def Xp:=@Nat.zero_le
def Xq:=@congrArg
def Xr:=@if_false
def Xs:=@PyProof.Rows.callWith_builtin1
def Xt:=@List.append_assoc
def Xu:=@Int.toNat_natCast
def Xv:=@Int.emod_eq_of_lt
def Xw:=@List.any_cons
def Xx:=@List.getElem?_range
def Xy:=@Option.getD_some
def Xz:=@Int.mul_pos
def XA:=@Int.add_mul_ediv_right
def XB:=@Int.add_mul
def XC:=@PySem.codeAny_mono
def XD:=@Int.zero_mul
def XE:=@Int.zero_add
def XF:=@List.mem_append
def XG:=@PySem.wpAny_isTrue_Compare1
def XH:=@PySem.F.excBase_ValueError
def XI:=@List.getD_eq_getElem?_getD
def XJ:=@Int.lt_of_mul_lt_mul_right
def XM:=@Int.eq_of_mul_eq_mul_right
def XN:=@Int.le_of_mul_le_mul_right
def XO:=@List.getElem?_set
def XQ:=@PySem.wpAny_assign_Name
def XR:=@List.mem_of_getElem?
def XS:=@PySem.wpAny_call
def XT:=@List.drop_eq_getElem_cons
def XU:=@List.mem_range
def XW:=@Nat.lt_succ_self
def XX:=@PySem.wpAny_execs_cons
def XY:=@PySem.mem_of_lookup
def XZ:=@Int.eq_ofNat_of_zero_le
def X0:=@PySem.Calls.Constant_str
def X3:=@Bool.or_eq_true
def X4:=@List.map_append
def X5:=@decide_true
def X6:=@Nat.testBit_lt_two_pow
def X7:=@List.nodup_append
def X8:=@List.nodup_nil
def X9:=@Bool.not_false
def Ya:=@List.mem_append_left
def Yb:=@PySem.W.looks_findIn
def Yc:=@PySem.typeIs_str
def Yd:=@List.filter_cons
def Ye:=@List.not_mem_nil
def Yf:=@and_self
def Yg:=@PySem.Calls.Name_function_global
def Yh:=@PySem.wpAny_holding
def Yi:=@List.filterMap_cons
def Yj:=@PySem.SeqAt.EqAt.same
def Yk:=@List.find?_cons
def Yl:=@List.length_nil
def Ym:=@PySem.SeqAt.EqAt.int_str
def Yn:=@PySem.SeqAt.EqAt.str_int
def Yo:=@implies_true
def Yp:=@decide_false
def Yq:=@PySem.Heap.size_push
def Yr:=@PySem.call_meets
def Ys:=@List.getElem?_replicate
def Yt:=@decide_eq_false_iff_not
def Yu:=@PySem.wpAny_Assign_Name
def Yv:=@PySem.Heap.get?_update_other
def Yw:=@Int.le_ediv_iff_mul_le
def Yx:=@Bool.or_false
def Yy:=@Bool.and_self
def Yz:=@List.length_drop
def YA:=@List.drop_length
def YB:=@decide_eq_decide
def YC:=@Int.ediv_lt_of_lt_mul
def YD:=@PySem.wpAny_Name
def YE:=@PySem.SeqAt.EqAt.none_bool
def YF:=@PySem.SeqAt.EqAt.bool_none
def YG:=@PySem.SeqAt.EqAt.bool_bool
def YH:=@PySem.W.binds_K
def YI:=@List.foldl_cons
def YJ:=@List.length_set
def YK:=@Nat.sub_self
def YL:=@Option.map_some
def YM:=@Nat.pow_le_pow_right
def YN:=@Nat.eq_of_testBit_eq
def YO:=@PySem.W.plainGet_of
def YQ:=@PySem.SeqAt.EqAt.none_int
def YR:=@PySem.SeqAt.EqAt.none_str
def YS:=@PySem.SeqAt.EqAt.bool_int
def YT:=@PySem.SeqAt.EqAt.bool_str
def YU:=@PySem.SeqAt.EqAt.int_none
def YV:=@PySem.SeqAt.EqAt.int_bool
def YW:=@PySem.SeqAt.EqAt.str_none
def YX:=@PySem.SeqAt.EqAt.str_bool
def YY:=@ne_true_of_eq_false
def YZ:=@Int.toNat_of_nonneg
def Y0:=@Nat.testBit_two_pow
def Y1:=@Bool.and_false
def Y2:=@PySem.W.of_hideAll
def Y3:=@List.mem_filterMap
def Y4:=@PySem.SeqAt.EqAt.int_int
def Y5:=@PySem.SeqAt.EqAt.str_str
def Y6:=@PyProof.Rows.callWith_type1
def Y7:=@Nat.lt_of_le_of_lt
def Y8:=@PySem.F.args_str_split_2
def Y9:=@Int.fdiv_eq_ediv_of_nonneg
def Za:=@Array.getElem?_eq_some_iff
def Zb:=@List.sum_cons
def Zc:=@PySem.wpAny_Return_some
def Zd:=@PySem.F.entry_str_split
def Ze:=@not_true_eq_false
def Zf:=@List.getElem_inj
def Zg:=@Nat.ne_of_gt
def Zh:=@PySem.W.makes_of
def Zi:=@Option.isSome_iff_exists
def Zj:=@List.length_take
def Zk:=@List.getElem?_take_of_lt
def Zl:=@PySem.F.args_tuple_add_2
def Zm:=@Option.getD_none
def Zn:=@Bool.true_or
def Zo:=@PyProof.noPylong_of_log2
def Zp:=@Int.ediv_le_self
def Zq:=@Bool.or_true
def Zr:=@Nat.le_add_right
def Zs:=@PySem.W.nsMap_none_of_in
def Zt:=@PySem.wpAny_comprehension_free
def Zu:=@List.getElem_mem
def Zv:=@PySem.F.slot_str_split
def Zw:=@Array.toList_inj
def Zx:=@PySem.Calls.loadGlobal_global
def Zy:=@PySem.F.entry_tuple_add
def Zz:=@PySem.F.plainAttrs_dict
def ZA:=@List.getElem?_cons_zero
def ZC:=@List.getElem?_cons_succ
def ZD:=@List.of_mem_zip
def ZF:=@false_and
def ZG:=@Int.mul_eq_zero
def ZH:=@PySem.W.cellsFrom_some
def ZI:=@PySem.F.slot_tuple_add
def ZK:=@List.range_succ_eq_map
def ZQ:=@Option.map_eq_some_iff
def ZT:=@List.take_of_length_le
def ZU:=@List.drop_of_length_le
def ZV:=@Int.sub_mul
def ZW:=@Int.le_refl
def ZX:=@Bool.false_and
def ZY:=@List.length_singleton
def ZZ:=@PySem.F.slot_dict_pop
def Z1:=@List.drop_zero
def aaa:=@PySem.wpAny_Expr_any
def aac:=@List.set_append_right
def aad:=@PySem.W.KIN.str_trunc
def aae:=@PySem.F.slot_dict_get
def aaf:=@List.mem_iff_getElem?
def aag:=@Int.add_mul_ediv_left
def aar:=@Nat.not_succ_le_self
def aaw:=@Bool.true_and
def aaz:=@false_implies
def aaC:=@Int.ediv_self
def aaD:=@PySem.W.hideAll_get
def aaG:=@Array.length_toList
def aaR:=@PySem.evalArgs_none
def aaS:=@PySem.W.callWith_K0
def aaT:=@PySem.W.KIN.str_int
def aaU:=@PySem.W.KIN.str_idx
def aaW:=@Int.toNat_of_nonpos
def aaX:=@List.length_pos_iff
def aaY:=@Nat.le_of_lt
def aa3:=@Int.ediv_one
def abb:=@Nat.zero_add
def abo:=@Int.pow_pos
def abq:=@Nat.log2_lt
def abr:=@Nat.pow_add
namespace L2
open PySem PySem.Spec PyProof.Rows
abbrev Key:=Sum Int Str
noncomputable def kJ:Key->Value->Bool
  | .inl k,v=>Value.isInt k v
  | .inr x,v=>Value.isStrOf x v
noncomputable def uA(w:World):Key->Int
  | .inl k=>hashInt k
  | .inr x=>hashStr w x
theorem d5:∀{k:Key}{v:Value},kJ k v=true->(∃ i t,k=Sum.inl i/\v=Value.int i t)\/(∃ x t,k=Sum.inr x/\v=Value.str x t)
  | .inl i,v,h=>by
    obtain⟨t,e⟩:=Value.isInt_shape (k:=i) (v:=v) h;exact .inl ⟨i,t,rfl,e⟩
  | .inr x,v,h=>by
    obtain⟨t,e⟩:=Value.isStrOf_shape (x:=x) (v:=v) h;exact .inr ⟨x,t,rfl,e⟩
theorem Ai(i:Int)(t:Tok):kJ (.inl i) (.int i t)=true:=by simp[kJ,Value.isInt]
theorem Aj(x:Str)(t:Tok):kJ (.inr x) (.str x t)=true:=by simp[kJ,Value.isStrOf]
theorem HM(a b:Int):decide ((Sum.inl a:Key)=Sum.inl b)=(a == b):=by
  by_cases e:a=b
  . subst e;simp
  . have h:¬(Sum.inl a:Key)=Sum.inl b:=fun q=>e (Sum.inl.inj q);rw[V3 h];exact(Wr.mpr e).symm
theorem HN(a b:Str):decide ((Sum.inr a:Key)=Sum.inr b)=decide (a=b):=by
  by_cases e:a=b
  . subst e;simp
  . have h:¬(Sum.inr a:Key)=Sum.inr b:=fun q=>e (Sum.inr.inj q);rw[V3 h,V3 e]
theorem HP(a:Int)(b:Str):decide ((Sum.inl a:Key)=Sum.inr b)=false:=V3 (fun q=>nomatch q)
theorem HQ(a:Str)(b:Int):decide ((Sum.inr a:Key)=Sum.inl b)=false:=V3 (fun q=>nomatch q)
noncomputable def dJ(prog:Program)(w:World):PySem.KeyKind prog w Key where
  is:=kJ
  hash:=uA w
  inj:=fun v a b ha hb=>by
    rcases d5 ha with⟨i,t,rfl,rfl⟩ | ⟨x,t,rfl,rfl⟩
    . rcases d5 hb with⟨j,u,rfl,e⟩ | ⟨y,u,rfl,e⟩
      . injection e with e1 _;rw[e1]
      . exact nomatch e
    . rcases d5 hb with⟨j,u,rfl,e⟩ | ⟨y,u,rfl,e⟩
      . exact nomatch e
      . injection e with e1 _;rw[e1]
  byValue:=fun k v h=>by
    rcases d5 h with⟨i,t,rfl,rfl⟩ | ⟨x,t,rfl,rfl⟩<;>rfl
  pyHash:=fun hv h=>by
    rcases d5 hv with⟨i,t,rfl,rfl⟩ | ⟨x,t,rfl,rfl⟩
    . exact wpAny_pyHash_int h
    . exact wpAny_pyHash_str h
  eqBool:=fun hu hv h=>by
    rcases d5 hu with⟨i,t,rfl,rfl⟩ | ⟨x,t,rfl,rfl⟩
    . rcases d5 hv with⟨j,u,rfl,rfl⟩ | ⟨y,u,rfl,rfl⟩
      . rw[HM]at h;exact wpAny_eqBool_int h
      . rw[HP]at h;exact Ym i t y u _ _ _ _ h
    . rcases d5 hv with⟨j,u,rfl,rfl⟩ | ⟨y,u,rfl,rfl⟩
      . rw[HQ]at h;exact Yn x t j u _ _ _ _ h
      . rw[HN]at h;exact wpAny_eqBool_str h
  «strs»:=fun k x t v h=>by
    rcases d5 h with⟨i,u,rfl,e⟩ | ⟨y,u,rfl,e⟩
    . exact nomatch e
    . injection e with e1 _
      subst e1;cases v<;>rfl
theorem wm(prog:Program)(w:World)(i:Int)(t:Tok):(dJ prog w).is (.inl i) (.int i t)=true:=Ai i t
theorem wq(prog:Program)(w:World)(x:Str)(t:Tok):(dJ prog w).is (.inr x) (.str x t)=true:=Aj x t
inductive V where
  | aU | bl (b:Bool) | int (i:Int) | str (x:Str) | Ak (b:Array UInt8) | Al (b:UInt64) | ref (a:Addr) | ty (n:String)
  deriving DecidableEq
def RelV:V->Value->Prop
  | .aU,u=>u=Value.none
  | .bl b,u=>u=Value.bool b
  | .int i,u=>∃ t,u=Value.int i t
  | .str x,u=>∃ t,u=Value.str x t
  | .Ak b,u=>∃ t,u=Value.bytes b t
  | .Al b,u=>∃ t,u=Value.float b t
  | .ref a,u=>u=Value.ref a
  | .ty n,u=>u=Value.type n
abbrev Vals:List V->List Value->Prop:=Paired RelV
theorem Vals.length{xs:List V}{us:List Value}(r:Vals xs us):xs.length=us.length:=Paired.length r
theorem Vals.get:∀{xs:List V}{us:List Value}{i:Nat}{x:V},Vals xs us->xs[i]?=some x->∃ u,us[i]?=some u/\RelV x u
  | _,_,_,_,.nil,e=>by simp at e
  | _,_,0,_,.cons r _,e=>by simp at e;subst e;exact⟨_,rfl,r⟩
  | _,_,i+1,x,.cons _ t,e=>by
    obtain⟨u,h1,h2⟩:=Vals.get (i:=i) (x:=x) t (by simpa using e);exact⟨u,by simpa using h1,h2⟩
theorem Vals.append:∀{xs ys:List V}{us ws:List Value},Vals xs us->Vals ys ws->Vals (xs++ys) (us++ws)
  | _,_,_,_,.nil,s=>s
  | _,_,_,_,.cons r t,s=>.cons r (Vals.append t s)
theorem Vals.take:∀{xs:List V}{us:List Value}(n:Nat),Vals xs us->Vals (xs.take n) (us.take n)
  | _,_,0,_=>.nil
  | _,_,_+1,.nil=>.nil
  | _,_,n+1,.cons r t=>.cons r (Vals.take n t)
theorem Vals.drop:∀{xs:List V}{us:List Value}(n:Nat),Vals xs us->Vals (xs.drop n) (us.drop n)
  | _,_,0,r=>r
  | _,_,_+1,.nil=>.nil
  | _,_,n+1,.cons _ t=>Vals.drop n t
def gF:Option V->Option Value->Prop
  | some v,some u=>RelV v u
  | none,none=>True
  | _,_=>False
def KV{κ:Type}:List (κ×V)->List (κ×Value)->Prop:=Paired fun(p:κ×V) (q:κ×Value)=>p.1=q.1/\RelV p.2 q.2
noncomputable def kV:Key->V
  | .inl i=>.int i
  | .inr x=>.str x
inductive HO where
  | lst (xs:List V)
  | tup (xs:List V)
  | dK (aZ:List (Key×V)) | dT (aZ:List (List Key×V))
  | set (S:Int->Bool) (n:Nat)
  | ins (C dx:Addr) (fs:List (Str×V))
  | own (x:Addr)
  | xd (fs:List (Str×V))
  | met (f x:Addr)
  | oU (lo hi:Int)
  | bw (o:Obj) (u:HO)
  | eP (ps:Array Value)
  | ext (φ:Heap->Prop)
abbrev Hp:=Addr->Option HO
noncomputable def upd(H:Hp)(a:Addr)(o:HO):Hp:=fun b=>if b=a then some o else H b
theorem bp{H:Hp}{a:Addr}{o:HO}:upd H a o a=some o:=by unfold upd;rw[VP rfl]
theorem a7{H:Hp}{a b:Addr}{o:HO}(h:b≠a):upd H a o b=H b:=by unfold upd;rw[VQ h]
theorem fY{H:Hp}{a b:Addr}{o:HO}(h:H a=some o)(h':H b=none):a≠b:=by
  intro e;subst e;rw[h]at h';cases h'
section
variable (P:Program) (w:World)
def dF(H:Hp)(h:Heap)(a:Addr):HO->Prop
  | .lst xs=>xs.length<=sizeLine/\∃(its:List Value)(n:Nat),Vals xs its/\h.get? a=some { cls:=.type "list",data:=.seq its.toArray n }
  | .tup xs=>xs.length<=sizeLine/\∃ its:List Value,Vals xs its/\IsTup h a its.toArray
  | .dK aZ=>aZ.length<=sizeLine/\(a == sysModules)=false/\∃ vs,KV aZ vs/\h.DictOf (dJ P w) a vs
  | .dT aZ=>aZ.length<=sizeLine/\(a == sysModules)=false/\∃ xs:List (List Key×Addr×Value),
      Paired (fun(p:List Key×V) (q:List Key×Addr×Value)=>p.1=q.1/\H q.2.1=some (.tup (p.1.map kV))/\RelV p.2 q.2.2) aZ xs /\
      ∃ o es ep,h.get? a=some o/\o.ExactDict/\o.data=.dict es ep/\es.toList=xs.map (entryOfKey (tupleKind (dJ P w)))/\(xs.map (·.1)).Nodup
  | .set S n=>h.SetOf (intKind P w) a S n
  | .ins C dx fs=>H dx=some (.own a)/\fs.length<=1000/\dx≠a/\h.get? a=some (PySem.W.instObj C dx) /\
      ∃ mA,h.Ns1 dx mA/\(∀ f,gF (fs.lookup f) (mA f))/\PySem.Within mA (fs.map (·.1))
  | .own _=>∃ o,h.get? a=some o
  | .xd fs=>∃ mA,h.Ns1 a mA/\∀ f,gF (fs.lookup f) (mA f)
  | .oU lo hi=>∃ t u v,h.get? a=some { cls:=.type "range",data:=.fields #[.int lo t,.int hi u,.int 1 v] }
  | .bw o u=>h.get? a=some o/\dF H h a u
  | .eP ps=>h.get? a=some { cls:=.none,data:=.fields ps }
  | .met f x=>h.get? a=some (PySem.W.methodObj (.ref f) (.ref x))
  | .ext φ=>φ h/\(∃ o,h.get? a=some o)/\∀ h1 h2:Heap,φ h1->(∀ o,h1.get? a=some o->h2.get? a=some o)->φ h2
def eL(H:Hp)(h:Heap):Prop:=∀ a o,H a=some o->dF P w H h a o
end
section
variable {P:Program}{w:World}{H H':Hp}{h h':Heap}{a:Addr}{o:HO}
theorem dF.lt(x:dF P w H h a o):a<h.objs.size:=by
  cases o with
  | lst xs=>obtain⟨_,_,_,_,e⟩:=x;exact V8 e
  | tup xs=>obtain⟨_,_,_,p⟩:=x;exact p.lt
  | dK aZ=>obtain⟨_,_,_,_,o,_,_,e,_⟩:=x;exact V8 e
  | dT aZ=>obtain⟨_,_,_,_,o,_,_,e,_⟩:=x;exact V8 e
  | set S n=>obtain⟨o,_,_,_,e,_⟩:=x;exact V8 e
  | ins C dx fs=>obtain⟨_,_,_,e,_⟩:=x;exact V8 e
  | own y=>obtain⟨_,e⟩:=x;exact V8 e
  | xd fs=>obtain⟨_,⟨_,_,_,e,_⟩,_⟩:=x;exact V8 e
  | oU lo hi=>obtain⟨_,_,_,e⟩:=x;exact V8 e
  | bw ob u=>obtain⟨e,_⟩:=x;exact V8 e
  | eP ps=>exact V8 (show h.get? a=some _ from x)
  | met f y=>exact V8 (show h.get? a=some _ from x)
  | ext φ=>obtain⟨_,⟨_,e⟩,_⟩:=x;exact V8 e
theorem Paired.C1{α β:Type}{F G:α->β->Prop}:∀{l₁:List α}{l₂:List β},Paired F l₁ l₂->(∀ a b,F a b->G a b)->Paired G l₁ l₂
  | _,_,.nil,_=>.nil
  | _,_,.cons r t,f=>.cons (f _ _ r) (Paired.C1 t f)
theorem dF.ng(x:dF P w H h a o)(k:∀ b u,(b=a\/H b=some (.own a))->h.get? b=some u->h'.get? b=some u)
    (ho:∀ b,H b=some (.own a)->H' b=some (.own a)) (ht:∀ b xs,H b=some (.tup xs)->H' b=some (.tup xs)):dF P w H' h' a o:=by
  induction o with
  | lst xs=>obtain⟨z,its,n,r,e⟩:=x;exact⟨z,its,n,r,k _ _ (.inl rfl) e⟩
  | tup xs=>obtain⟨z,its,r,ob,e,c⟩:=x;exact⟨z,its,r,ob,k _ _ (.inl rfl) e,c⟩
  | dK aZ=>obtain⟨z,y,vs,r,ob,es,ep,e,c⟩:=x;exact⟨z,y,vs,r,ob,es,ep,k _ _ (.inl rfl) e,c⟩
  | dT aZ =>
    obtain⟨z,y,xs,r,ob,es,ep,e,c⟩:=x;exact⟨z,y,xs,Paired.C1 r fun p q z=>⟨z.1,ht _ _ z.2.1,z.2.2⟩,ob,es,ep,k _ _ (.inl rfl) e,c⟩
  | set S n=>obtain⟨ob,es,ep,t,e,c⟩:=x;exact⟨ob,es,ep,t,k _ _ (.inl rfl) e,c⟩
  | ins C dx fs =>
    obtain⟨d,z,ne,e,mA,⟨od,es,ep,e2,c⟩,r⟩:=x;exact⟨ho _ d,z,ne,k _ _ (.inl rfl) e,mA,⟨od,es,ep,k _ _ (.inr d) e2,c⟩,r⟩
  | own y=>obtain⟨ob,e⟩:=x;exact⟨ob,k _ _ (.inl rfl) e⟩
  | xd fs=>obtain⟨mA,⟨od,es,ep,e,c⟩,r⟩:=x;exact⟨mA,⟨od,es,ep,k _ _ (.inl rfl) e,c⟩,r⟩
  | oU lo hi=>obtain⟨t,u,v,e⟩:=x;exact⟨t,u,v,k _ _ (.inl rfl) e⟩
  | bw ob u ih=>obtain⟨e,q⟩:=x;exact⟨k _ _ (.inl rfl) e,ih q⟩
  | eP ps =>
    have e:h.get? a=some { cls:=.none,data:=.fields ps }:=x;show h'.get? a=some { cls:=.none,data:=.fields ps }
    exact k a _ (.inl rfl) e
  | met f y =>
    have e:h.get? a=some (PySem.W.methodObj (.ref f) (.ref y)):=x;show h'.get? a=some (PySem.W.methodObj (.ref f) (.ref y))
    exact k a _ (.inl rfl) e
  | ext φ=>obtain⟨p,⟨o,e⟩,st⟩:=x;exact⟨st _ _ p fun o q=>k _ _ (.inl rfl) q,⟨o,k _ _ (.inl rfl) e⟩,st⟩
theorem eL.lt(x:eL P w H h)(e:H a=some o):a<h.objs.size:=(x a o e).lt
theorem eL.fresh(x:eL P w H h)(e:h.objs.size<=a):H a=none:=by
  cases q:H a with
  | none=>rfl
  | some u=>exact absurd (Wc (x.lt q) e) (Xk _)
theorem eL.kept(x:eL P w H h)(k:∀ b u,h.get? b=some u->h'.get? b=some u):eL P w H h':=fun a o e =>
  (x a o e).ng (fun b u _ q=>k b u q) (fun _ q=>q) fun _ _ q=>q
theorem eL.laid(x:eL P w H h)(k:∀ b u,h.get? b=some u->h'.get? b=some u)(hp:h.objs.size<=a)(new:dF P w (upd H a o) h' a o):eL P w (upd H a o) h':=fun b u e=>by
  have hn:=x.fresh hp;by_cases hb:b=a
  . subst hb;rw[bp]at e;cases e;exact new
  . rw[a7 hb]at e;exact(x b u e).ng (fun c v _ q=>k c v q) (fun c q=>by rw[a7 (fY q hn)];exact q) fun c xs q=>by rw[a7 (fY q hn)];exact q
end
def Rd(H:Hp)(a:Addr)(u:HO):Prop:=H a=some u\/∃ o,H a=some (.bw o u)
theorem Rd.ok{P:Program}{w:World}{H:Hp}{h:Heap}{a:Addr}{u:HO}(r:Rd H a u)(x:eL P w H h):dF P w H h a u:=by
  rcases r with r | ⟨o,r⟩
  . exact x a u r
  . obtain⟨_,q⟩:=x a _ r;exact q
def Am:Option HO->Prop
  | some (.lst _)=>True
  | some (.dK _)=>True
  | some (.dT _)=>True
  | some (.set _ _)=>True
  | some (.ins _ _ _)=>True
  | some (.ext _)=>True
  | _=>False
section
variable {P:Program}{w:World}{H:Hp}{h h':Heap}{x e:Addr}{o':HO}
theorem eL.write(ok:eL P w H h)(mu:Am (H x))(he:e=x\/H e=some (.own x))(k:∀ b u,b≠e->h.get? b=some u->h'.get? b=some u)(wM:∃ u,h'.get? e=some u)
    (new:dF P w (upd H x o') h' x o'):eL P w (upd H x o') h':=fun b u q=>by
  have HR:∀ c y,H c=some (.own y)->c≠x:=fun c y r z=>by subst z;rw[r]at mu;exact mu
  have Py:∀ c xs,H c=some (.tup xs)->c≠x:=fun c xs r z=>by subst z;rw[r]at mu;exact mu
  by_cases hb:b=x
  . subst hb;rw[bp]at q;cases q;exact new
  . rw[a7 hb]at q;by_cases uB:b=e
    . have q':H b=some (.own x):=by
        rcases he with z | z
        . exact absurd (uB.trans z) hb
        . rw[uB];exact z
      rw[q]at q';cases q';obtain⟨v,hv⟩:=wM;exact⟨v,by rw[uB];exact hv⟩
    . refine(ok b u q).ng (fun c v hc r=>k c v ?_ r) (fun c r=>by rw[a7 (HR c b r)];exact r) fun c xs r=>by rw[a7 (Py c xs r)];exact r
      rcases hc with rfl | hc
      . exact uB
      . rintro rfl;rcases he with z | z
        . exact HR c b hc z
        . rw[hc]at z;cases z;exact hb rfl
end
structure Un(fs ex:List Addr)(H H':Hp)(h h':Heap):Prop where
  keep:∀ b o,h.get? b=some o->H b=none->b ∉ fs->b ∉ ex->h'.get? b=some o
  slot:∀ b o,h.get? b=some o->H b=none->b∈fs->b ∉ ex->∃ sl,h'.get? b=some { o with slots:=sl }
  free:∀ b o,h.get? b=some o->H b=none->b ∉ ex->H' b=none
  there:∀ b o,h.get? b=some o->b ∉ ex->∃ o',h'.get? b=some o'
  ke:∀ b xs,H b=some (.tup xs)->H' b=some (.tup xs)
  jK:∀ b o u,H b=some (.bw o u)->H' b=some (.bw o u)
  kf:∀ b ps,H b=some (.eP ps)->∃ more,H' b=some (.eP (ps++more))
section
variable {fs QQ ex Vt:List Addr}{H H1 H2:Hp}{h h1 h2 h':Heap}{a x e:Addr}{o:HO}
theorem Un.any(u:Un fs ex H H1 h h1){b:Addr}{ob:Obj}(q:h.get? b=some ob)(n:H b=none)(hx:b ∉ ex):∃ sl,h1.get? b=some { ob with slots:=sl }:=by
  by_cases hb:b∈fs
  . exact u.slot b ob q n hb hx
  . exact⟨ob.slots,u.keep b ob q n hb hx⟩
theorem Un.kept(k:∀ b u,h.get? b=some u->h'.get? b=some u):Un fs ex H H h h' :=
  ⟨fun b ob q _ _ _=>k b ob q,fun b ob q _ _ _=>⟨ob.slots,k b ob q⟩,fun _ _ _ n _=>n,fun b ob q _=>⟨ob,k b ob q⟩,fun _ _ q=>q,fun _ _ _ q=>q,fun _ ps q=>⟨#[],by rw[q];simp⟩⟩
theorem Un.refl:Un fs ex H H h h:=Un.kept fun _ _ q=>q
theorem Un.laid(k:∀ b u,h.get? b=some u->h'.get? b=some u)(hp:h.objs.size<=a)(hn:H a=none):Un fs ex H (upd H a o) h h' where
  keep:=fun b u q _ _ _=>k b u q
  slot:=fun b u q _ _ _=>⟨u.slots,k b u q⟩
  free:=fun b u q n _=>by rw[a7 (Wz (Wc (V8 q) hp))];exact n
  there:=fun b u q _=>⟨u,k b u q⟩
  ke:=fun b xs q=>by rw[a7 (fY q hn)];exact q
  jK:=fun b u xs q=>by rw[a7 (fY q hn)];exact q
  kf:=fun b ps q=>⟨#[],by rw[a7 (fY q hn),q];simp⟩
theorem Un.write(mu:Am (H x))(he:e=x\/H e=some (.own x))(k:∀ b u,b≠e->h.get? b=some u->h'.get? b=some u)(wM:∃ u,h'.get? e=some u):Un fs ex H (upd H x o) h h':=by
  have hx:∀ b,H b=none->b≠x:=fun b n z=>by subst z;rw[n]at mu;exact mu
  have hb:∀ b,H b=none->b≠e:=fun b n z=>by
    subst z;rcases he with r | r
    . exact hx b n r
    . rw[n]at r;cases r
  have hm:∀ b u,H b=some u->¬ Am (some u)->b≠x:=fun b u q nm z=>by subst z;rw[q]at mu;exact nm mu
  refine⟨fun b u q n _ _=>k b u (hb b n) q,fun b u q n _ _=>⟨u.slots,k b u (hb b n) q⟩,fun b u q n _=>by rw[a7 (hx b n)];exact n,fun b u q _=>?_,
    fun b xs q=>by rw[a7 (hm b _ q fun z=>z)];exact q,fun b u xs q=>by rw[a7 (hm b _ q fun z=>z)];exact q,fun b ps q=>⟨#[],by rw[a7 (hm b _ q fun z=>z),q];simp⟩⟩
  by_cases uB:b=e
  . subst uB;exact wM
  . exact⟨u,k b u uB q⟩
end
noncomputable def EB(h:Heap)(H:Hp):List Addr:=(List.range h.objs.size).filter fun a=>(H a).isSome
noncomputable def l9(h:Heap)(H:Hp):Heap:=PySem.W.hideAll h (EB h H)
theorem Ao(h:Heap)(H:Hp):(l9 h H).objs.size=h.objs.size:=PySem.W.hideAll_size _ _
theorem C2{h:Heap}{H:Hp}{b:Addr}{o:Obj}(e:h.get? b=some o)(n:H b=none):(l9 h H).get? b=some o :=
  aaD _ e fun hm=>by
    have q:(H b).isSome=true:=(List.mem_filter.mp hm).2;rw[n]at q;simp at q
theorem Gm{h:Heap}{H:Hp}{b:Addr}{o:Obj}(e:(l9 h H).get? b=some o):h.get? b=some o/\H b=none:=by
  have e':h.get? b=some o:=Y2 (EB h H) e;refine⟨e',?_⟩;cases q:H b with
  | none=>rfl
  | some x =>
    have hm:b∈EB h H:=List.mem_filter.mpr ⟨XU.mpr (V8 e'),by simp[q]⟩;have z:(l9 h H).get? b=none:=PySem.W.hideAll_none (EB h H) hm
    rw[z]at e;cases e
noncomputable def Gn(g h:Heap)(L:Addr):List (Addr×Obj):=(List.range h.objs.size).filterMap fun a=>if a=L\/(g.get? a).isSome=true then none else (h.get? a).map fun o=>(a,o)
noncomputable def rest(g h:Heap)(L d:Addr):List (Addr×Obj):=(Gn g h L).filter fun p=>decide (p.1≠d)
structure Mod(K:PySem.W.Frag)(mg:Str->Option Value)(base:Heap):Prop where
  mM:K.In base
  glob:base.Ns mainGlobals mg
  blt:∃ mb,base.Ns builtinsNs mb/\∀ x:Str,x≠"__name__"->mb x=bootBuiltins x
  nolimit:base.NoLimit
structure Cx where
  prog:Program
  w:World
  K:PySem.W.Frag
  mg:Str->Option Value
  base:Heap
  A:Around
  N:List Str
  s₀:Shared
  H₀:Hp
  env:Env
  outer:List Env
  stack:List Env
  ex:List Addr
  fn:Str->Bool
  calm:Bool
  pn:List (Addr×Obj)
  xe:Value->Shared->Prop
noncomputable def fM(l:List Env):List Addr:=l.filterMap (·.frame)
noncomputable abbrev Cx.fs(X:Cx):List Addr:=fM X.outer
def kK(sc:Scope)(x:Str):Prop:=sc.names.lookup x=some .local\/sc.names.lookup x=some .cell\/sc.names.lookup x=some .free
def Loc(sc:Scope)(x:Str):Prop:=sc.names.lookup x=some .local\/sc.names.lookup x=some .cell
def Look(env:Env)(h:Heap)(m:Str->Option Value)(x:Str)(u:Value):Prop :=
  (env.kindOf x=some .local/\m x=some u)\/((env.kindOf x=some .cell\/env.kindOf x=some .free)/\∃ c,env.cells.lookup x=some c/\h.IsCell c (some u))
structure Cx.Ok(X:Cx):Prop where
  mod:Mod X.K X.mg X.base
  kind:X.env.scope.kind=.function
  glob:X.env.globals=mainGlobals
  blt:X.env.builtins=builtinsNs
  above:X.s₀.heap.objs.size<=X.env.locals
  inj:∀ x y c,X.env.cells.lookup x=some c->X.env.cells.lookup y=some c->x=y
  has:∀ x,(X.env.kindOf x=some .cell\/X.env.kindOf x=some .free)->∃ c,X.env.cells.lookup x=some c
  sC:∀ x c,X.fn x=true->X.env.cells.lookup x=some c->X.s₀.heap.objs.size<=c
  hd:X.calm=true->X.A.handled=none
  frames:X.A.frames=some X.stack
  oV:X.stack=X.outer\/(X.stack=X.env::X.outer/\X.env.frame=some X.env.locals)
  EC:∀ b∈X.ex,b≠X.env.locals/\∀ x c,X.env.cells.lookup x=some c->c≠b
  bs:∀ b o,X.base.get? b=some o->X.s₀.heap.get? b=some o/\X.H₀ b=none
  lK:X.base.objs.size<=X.s₀.heap.objs.size
  pL:∀ b o,X.base.get? b=some o->b ∉ X.ex
  rS:∀ b∈X.ex,b ∉ X.fs
  gZ:X.s₀.heap.FunFrames X.base X.outer
  oW:∀ b∈X.fs,X.H₀ b=none
structure Inv(X:Cx)(pins:List (Addr×Obj))(σ:List (Option V))(H:Hp)(s:Shared):Prop where
  ok:X.Ok
  os:s.os=X.s₀.os
  bare:AllBare s.gens
  base:Un X.fs X.ex X.H₀ H X.s₀.heap s.heap
  loc:∃ m,s.heap.Ns X.env.locals m/\∀(i:Nat)(x:Str)(v:V),X.N[i]?=some x->σ[i]?=some (some v)->kK X.env.scope x->∃ u,RelV v u/\Look X.env s.heap m x u
  cell:∀ x c,X.env.cells.lookup x=some c->∃ v,s.heap.IsCell c v
  free:H X.env.locals=none
  fI:∀ x c,X.env.cells.lookup x=some c->H c=none
  pin:∀ p∈X.pn++pins,s.heap.get? p.1=some p.2/\H p.1=none/\p.1≠X.env.locals/\p.1 ∉ X.fs/\∀ v,p.2.data≠.cell v
  bh:eL X.prog X.w H s.heap
  len:σ.length=X.N.length
section
variable {X:Cx}{pins:List (Addr×Obj)}{σ:List (Option V)}{H H':Hp}{s:Shared}{h':Heap}
theorem Cx.Ok.Pz(ok:X.Ok){b:Addr}{o:Obj}(e:X.base.get? b=some o):b ∉ X.fs:=fun hb=>by
  have:=(ok.gZ.mem hb).1;rw[e]at this;cases this
theorem Inv.bs(I:Inv X pins σ H s):∀ b o,X.base.get? b=some o->s.heap.get? b=some o/\H b=none:=fun b o e =>
  ⟨I.base.keep b o (I.ok.bs b o e).1 (I.ok.bs b o e).2 (I.ok.Pz e) (I.ok.pL b o e),I.base.free b o (I.ok.bs b o e).1 (I.ok.bs b o e).2 (I.ok.pL b o e)⟩
theorem Inv.bk(I:Inv X pins σ H s):∀ b o,X.base.get? b=some o->s.heap.get? b=some o:=fun b o e=>(I.bs b o e).1
theorem Inv.mod(I:Inv X pins σ H s):Mod X.K X.mg X.base:=I.ok.mod
theorem Inv.dR(I:Inv X pins σ H s):X.K.In s.heap:=I.ok.mod.mM.keeps I.bk
theorem Inv.nolimit(I:Inv X pins σ H s):s.heap.NoLimit:=I.ok.mod.nolimit.keeps I.bk
theorem Inv.fr(I:Inv X pins σ H s):∃ m,Fr X.base X.env.locals s.heap m :=
  let ⟨m,hn,_⟩:=I.loc
  ⟨m,hn,I.bk,Wh I.ok.lK I.ok.above⟩
theorem Inv.lt(I:Inv X pins σ H s):X.env.locals<s.heap.objs.size:=let ⟨_,hn,_⟩:=I.loc;hn.lt
theorem Inv.sz(I:Inv X pins σ H s):X.s₀.heap.objs.size<=s.heap.objs.size:=Wh I.ok.above (aaY I.lt)
theorem Inv.PA(I:Inv X pins σ H s){a:Addr}(h:s.heap.objs.size<=a):a ∉ X.fs:=fun hb=>by
  obtain⟨_,o,ho,_⟩:=I.ok.gZ.mem hb;exact absurd (Wc (V8 ho) (Wh I.sz h)) (Xk _)
theorem Inv.oX(I:Inv X pins σ H s):∀ x c,X.env.cells.lookup x=some c->c≠X.env.locals:=fun x c e z=>by
  obtain⟨v,o,ho,hd⟩:=I.cell x c e;obtain⟨m,⟨o',es,ep,mO,oY,_⟩,_⟩:=I.loc;rw[z,mO]at ho;cases ho;rw[oY]at hd;cases hd
theorem Inv.gZ(I:Inv X pins σ H s):s.heap.FunFrames X.base X.outer:=by
  have all:∀(l:List Env),(∀ b∈fM l,b∈X.fs)->X.s₀.heap.FunFrames X.base l->s.heap.FunFrames X.base l:=by
    intro l
    induction l with
    | nil=>intro _ _;trivial
    | cons env r ih =>
      intro hs hl;obtain⟨hk,⟨L,o,hf,hn,ho,hd⟩,hr⟩:=hl;have hL:L∈X.fs:=hs L (by unfold fM;rw[Yi,hf];exact Wf)
      obtain⟨sl,e⟩:=I.base.slot L o ho (I.ok.oW L hL) hL fun z=>I.ok.rS L z hL;exact⟨hk,⟨L,_,hf,hn,e,hd⟩,ih (fun b hb=>hs b (by unfold fM;rw[Yi,hf];exact V6 _ hb)) hr⟩
  exact all X.outer (fun _ hb=>hb) I.ok.gZ
theorem Inv.stack(I:Inv X pins σ H s):s.heap.FunFrames X.base X.stack:=by
  rcases I.ok.oV with e | ⟨e,hf⟩
  . rw[e];exact I.gZ
  . rw[e];obtain⟨m,hn,_⟩:=I.loc;refine .cons (by rw[I.ok.kind];decide) hf hn ?_ I.gZ;exact Heap.get?_none_of_le (Wh I.ok.lK I.ok.above)
theorem Inv.qA(I:Inv X pins σ H s):∀ b∈fM X.stack,b∈X.env.locals::X.fs:=fun b hb=>by
  rcases I.ok.oV with e | ⟨e,hf⟩
  . rw[e]at hb;exact V6 _ hb
  . rw[e]at hb;unfold fM at hb;rw[Yi,hf]at hb;exact hb
theorem Inv.oz(I:Inv X pins σ H s):∀ b∈fM X.stack,H b=none:=fun b hb=>by
  rcases WD.mp (I.qA b hb)with e | hb
  . rw[e];exact I.free
  . obtain⟨_,o,ho,_⟩:=I.ok.gZ.mem hb;exact I.base.free b o ho (I.ok.oW b hb) fun z=>I.ok.rS b z hb
theorem Inv.step{g':Array GenState}{t':Nat}{d':Drawn}{ch:List Addr}(I:Inv X pins σ H s)
    (oZ:∀ b∈ch,(b∈X.ex\/X.s₀.heap.objs.size<=b)/\b≠X.env.locals/\(∀ x c,X.env.cells.lookup x=some c->c≠b)/\∀ p∈X.pn++pins,p.1≠b)
    (keep:∀ b o,b≠X.env.locals->b ∉ X.fs->b ∉ ch->s.heap.get? b=some o->H b=none->h'.get? b=some o)
    (slot:∀ b o,b≠X.env.locals->b∈X.fs->b ∉ ch->s.heap.get? b=some o->H b=none->∃ sl,h'.get? b=some { o with slots:=sl }) (free:∀ b o,b ∉ ch->s.heap.get? b=some o->H b=none->H' b=none)
    (there:∀ b o,b ∉ ch->s.heap.get? b=some o->∃ o',h'.get? b=some o')
    (ke:∀ b xs,H b=some (.tup xs)->H' b=some (.tup xs)) (jK:∀ b o u,H b=some (.bw o u)->H' b=some (.bw o u)) (kf:∀ b ps,H b=some (.eP ps)->∃ more,H' b=some (.eP (ps++more)))
    (ns:∀ m,s.heap.Ns X.env.locals m->h'.Ns X.env.locals m) (bh:eL X.prog X.w H' h') (hg:AllBare g') :
    Inv X pins σ H' { s with heap:=h',gens:=g',drawn:=d',toks:=t' }:=by
  have MM:∀ b o,X.s₀.heap.get? b=some o->b≠X.env.locals:=fun b o e=>Wz (Wc (V8 e) I.ok.above);have wN:∀ b o,X.s₀.heap.get? b=some o->b ∉ X.ex->b ∉ ch:=fun b o e hx hb=>by
    rcases(oZ b hb).1 with z | z
    . exact hx z
    . exact absurd (Wc (V8 e) z) (Xk _)
  have cellK:∀ x c,X.env.cells.lookup x=some c->∀ v,s.heap.IsCell c v->h'.IsCell c v:=fun x c e v ⟨o,ho,hd⟩=>by
    have Ap:c ∉ ch:=fun z=>(oZ c z).2.2.1 x c e rfl;by_cases hc:c∈X.fs
    . obtain⟨sl,q⟩:=slot c o (I.oX x c e) hc Ap ho (I.fI x c e);exact⟨_,q,hd⟩
    . exact⟨o,keep c o (I.oX x c e) hc Ap ho (I.fI x c e),hd⟩
  refine⟨I.ok,I.os,hg,⟨fun b o e n hb hx=>?_,fun b o e n hb hx=>?_,fun b o e n hx=>?_,fun b o e hx=>?_,fun b xs e=>ke b xs (I.base.ke b xs e),fun b o xs e=>jK b o xs (I.base.jK b o xs e),fun b ps e=>?_⟩,?_,fun x c e=>?_,?_,fun x c e=>?_,fun p hp=>?_,bh,I.len⟩
  . exact keep b o (MM b o e) hb (wN b o e hx) (I.base.keep b o e n hb hx) (I.base.free b o e n hx)
  . obtain⟨sl,e1⟩:=I.base.slot b o e n hb hx;obtain⟨qB,e2⟩:=slot b _ (MM b o e) hb (wN b o e hx) e1 (I.base.free b o e n hx);exact⟨qB,e2⟩
  . obtain⟨o',e1⟩:=I.base.there b o e hx;exact free b o' (wN b o e hx) e1 (I.base.free b o e n hx)
  . obtain⟨o',e1⟩:=I.base.there b o e hx;exact there b o' (wN b o e hx) e1
  . obtain⟨m1,e1⟩:=I.base.kf b ps e;obtain⟨m2,e2⟩:=kf b _ e1;exact⟨m1++m2,by rw[e2,Array.append_assoc]⟩
  . obtain⟨m,hn,hl⟩:=I.loc;refine⟨m,ns m hn,fun i x v e1 e2 e3=>?_⟩;obtain⟨u,r,l⟩:=hl i x v e1 e2 e3;refine⟨u,r,?_⟩;rcases l with l | ⟨k,c,e,z⟩
    . exact .inl l
    . exact .inr ⟨k,c,e,cellK x c e _ z⟩
  . obtain⟨v,z⟩:=I.cell x c e;exact⟨v,cellK x c e v z⟩
  . obtain⟨m,⟨o,_,_,ho,_⟩,_⟩:=I.loc;exact free _ o (fun z=>(oZ _ z).2.1 rfl) ho I.free
  . obtain⟨v,o,ho,hd⟩:=I.cell x c e;exact free c o (fun z=>(oZ c z).2.2.1 x c e rfl) ho (I.fI x c e)
  . obtain⟨e,n,ne,nf,d⟩:=I.pin p hp;have Ap:p.1 ∉ ch:=fun z=>(oZ p.1 z).2.2.2 p hp rfl
    exact⟨keep p.1 p.2 ne nf Ap e n,free p.1 p.2 Ap e n,ne,nf,d⟩
theorem Inv.un{t':Nat}(I:Inv X pins σ H s)(u:Un X.fs [] H H' s.heap h')(bh:eL X.prog X.w H' h'):Inv X pins σ H' { s with heap:=h',toks:=t' }:=by
  obtain⟨m,⟨o,es,ep,ho,r⟩,_⟩:=id I.loc;obtain⟨sl,hL⟩:=u.any ho I.free (by simp);exact I.step (g':=s.gens) (d':=s.drawn) (ch:=[]) (fun _ z=>nomatch z) (fun b o _ hb _ e n=>u.keep b o e n hb (by simp)) (fun b o _ hb _ e n=>u.slot b o e n hb (by simp)) (fun b o _ e n=>u.free b o e n (by simp)) (fun b o _ e=>u.there b o e (by simp)) u.ke u.jK u.kf (fun m' hm=>by
    obtain⟨o',HS,HU,mO,r'⟩:=hm;rw[ho]at mO;cases mO;exact⟨_,HS,HU,hL,r'⟩) bh I.bare
theorem Inv.call{g':Array GenState}{t':Nat}{d':Drawn}{ch:List Addr}(I:Inv X pins σ H s)(u:Un (fM X.stack) ch H H' s.heap h')(bh:eL X.prog X.w H' h')(hg:AllBare g')
    (oZ:∀ b∈ch,(b∈X.ex\/X.s₀.heap.objs.size<=b)/\b≠X.env.locals/\(∀ x c,X.env.cells.lookup x=some c->c≠b)/\∀ p∈X.pn++pins,p.1≠b) :
    Inv X pins σ H' { s with heap:=h',gens:=g',drawn:=d',toks:=t' }:=by
  obtain⟨m,⟨o,es,ep,ho,r⟩,_⟩:=id I.loc;obtain⟨sl,hL⟩:=u.any ho I.free fun z=>(oZ _ z).2.1 rfl;exact I.step (ch:=ch) oZ (fun b o hL hb hc e n=>u.keep b o e n (fun z=>(WD.mp (I.qA b z)).elim hL hb) hc) (fun b o _ _ hc e n=>u.any e n hc) (fun b o hc e n=>u.free b o e n hc) (fun b o hc e=>u.there b o e hc) u.ke u.jK u.kf (fun m' hm=>by
    obtain⟨o',HS,HU,mO,r'⟩:=hm;rw[ho]at mO;cases mO;exact⟨_,HS,HU,hL,r'⟩) bh hg
theorem Inv.turned{t':Nat}{it:Addr}(I:Inv X pins σ H s)(k:∀ b o,b≠it->s.heap.get? b=some o->h'.get? b=some o)(hn:H it=none)(hL:it≠X.env.locals)
    (h1:it∈X.ex\/X.s₀.heap.objs.size<=it) (h2:∀ x c,X.env.cells.lookup x=some c->c≠it) (h3:∀ p∈X.pn++pins,p.1≠it):Inv X pins σ H { s with heap:=h',toks:=t' }:=by
  have MN:∀ b u,H b=some u->b≠it:=fun b u e z=>by rw[z,hn]at e;cases e
  refine I.step (g':=s.gens) (d':=s.drawn) (ch:=[it]) (fun b hb=>?_) (fun b o _ _ hc e _=>k b o (fun z=>hc (by simp[z])) e) (fun b o _ _ hc e _=>⟨o.slots,k b o (fun z=>hc (by simp[z])) e⟩) (fun _ _ _ _ n=>n)
    (fun b o hc e=>⟨o,k b o (fun z=>hc (by simp[z])) e⟩) (fun _ _ e=>e) (fun _ _ _ e=>e) (fun b ps e=>⟨#[],by rw[e];simp⟩) (fun m hm=>?_) (fun b u e=>?_) I.bare
  . have e:b=it:=by simpa using hb
    subst e;exact⟨h1,hL,h2,h3⟩
  . obtain⟨o,es,ep,ho,r⟩:=hm;exact⟨o,es,ep,k _ o (Xb hL) ho,r⟩
  . refine(I.bh b u e).ng (fun c v hc q=>k c v ?_ q) (fun _ q=>q) fun _ _ q=>q;rcases hc with z | z
    . rw[z];exact MN b u e
    . exact MN c _ z
theorem Inv.tok(I:Inv X pins σ H s)(t:Nat):Inv X pins σ H { s with toks:=t }:=I.un (h':=s.heap) (t':=t) Un.refl I.bh
theorem Inv.kept{t':Nat}(I:Inv X pins σ H s)(k:∀ b u,s.heap.get? b=some u->h'.get? b=some u):Inv X pins σ H { s with heap:=h',toks:=t' }:=I.un (Un.kept k) (I.bh.kept k)
theorem Inv.laid{a:Addr}{o:HO}{t':Nat}(I:Inv X pins σ H s)(k:∀ b u,s.heap.get? b=some u->h'.get? b=some u)(hp:s.heap.objs.size<=a)(new:dF X.prog X.w (upd H a o) h' a o) :
    Inv X pins σ (upd H a o) { s with heap:=h',toks:=t' }:=I.un (Un.laid k hp (I.bh.fresh hp)) (I.bh.laid k hp new)
theorem Inv.write{x e:Addr}{o:HO}{t':Nat}(I:Inv X pins σ H s)(mu:Am (H x))(he:e=x\/H e=some (.own x))(k:∀ b u,b≠e->s.heap.get? b=some u->h'.get? b=some u)(wM:∃ u,h'.get? e=some u)
    (new:dF X.prog X.w (upd H x o) h' x o):Inv X pins σ (upd H x o) { s with heap:=h',toks:=t' }:=I.un (Un.write mu he k wM) (I.bh.write mu he k wM new)
theorem Inv.wO{tZ:List (Addr×Obj)}(I:Inv X pins σ H s)(h:∀ p∈tZ,s.heap.get? p.1=some p.2/\H p.1=none/\p.1≠X.env.locals/\p.1 ∉ X.fs/\∀ v,p.2.data≠.cell v):Inv X tZ σ H s :=
  ⟨I.ok,I.os,I.bare,I.base,I.loc,I.cell,I.free,I.fI,fun p hp=>(XF.mp hp).elim (fun z=>I.pin p (Ya _ z)) (h p),I.bh,I.len⟩
theorem pM{N:List Str}(hN:N.Nodup){i j:Nat}{x:Str}(a:N[i]?=some x)(b:N[j]?=some x):i=j:=by
  obtain⟨h1,e1⟩:=VS.mp a;obtain⟨h2,e2⟩:=VS.mp b;exact(Zf hN).mp (e1.trans e2.symm)
theorem sD{M:Model}{A:Around}{E:Value->Shared->Prop}{i:Nat}{x:Str}{v:V}{u:Value}{Q:Unit->Shared->Prop}(I:Inv X pins σ H s)(hN:X.N.Nodup)(hi:X.N[i]?=some x)(hx:Loc X.env.scope x)(r:RelV v u)
    (h:∀ s',Inv X pins (σ.set i (some v)) H s'->(∃ a,Heap.SameBut a s.heap s'.heap/\(a=X.env.locals\/X.env.cells.lookup x=some a))->Q () s') (hf:X.fn x=true\/X.env.scope.names.lookup x=some .local:=by first | exact .inl rfl | exact .inr rfl | assumption):wpAny M A (storeName X.env x u) Q E s:=by
  obtain⟨m,hn,hl⟩:=id I.loc;have hcls:(X.env.scope.kind == .class||(X.env.scope.kind == .module&&X.env.locals != X.env.globals))=false:=by rw[I.ok.kind];rfl
  have MP:i<σ.length:=by rw[I.len];exact(VS.mp hi).1
  have oX:=I.oX;have tracked:∀{a:Addr}{h':Heap},(∃ o,s.heap.get? a=some o/\H a=none)->Heap.SameBut a s.heap h'->eL X.prog X.w H h':=fun{a h'} ha hs b ob e=>by
    obtain⟨_,_,ED⟩:=ha;refine(I.bh b ob e).ng (fun c w' hc q=>(hs.2 c ?_).trans q) (fun _ q=>q) fun _ _ q=>q;rintro rfl;rcases hc with rfl | hc
    . rw[ED]at e;cases e
    . rw[ED]at hc;cases hc
  rcases hx with hk | hk
  . refine wpAny_storeName_local hk hn (fun h' uC hs=>?_) hcls;obtain⟨oL,_,_,MQ,_⟩:=id hn;refine h _ ⟨I.ok,I.os,I.bare,⟨fun b o e n hb hx=>?_,fun b o e n hb hx=>?_,I.base.free,fun b o e hx=>?_,I.base.ke,I.base.jK,I.base.kf⟩,⟨_,uC,fun j y v' e1 e2 e3=>?_⟩,fun y c e=>?_,I.free,I.fI,fun p hp=>?_,tracked ⟨oL,MQ,I.free⟩ hs,by simpa using I.len⟩ ⟨_,hs,.inl rfl⟩
    . exact(hs.2 b (Wz (Wc (V8 e) I.ok.above))).trans (I.base.keep b o e n hb hx)
    . obtain⟨sl,e1⟩:=I.base.slot b o e n hb hx;exact⟨sl,(hs.2 b (Wz (Wc (V8 e) I.ok.above))).trans e1⟩
    . obtain⟨o',e1⟩:=I.base.there b o e hx;exact⟨o',(hs.2 b (Wz (Wc (V8 e) I.ok.above))).trans e1⟩
    . by_cases hj:j=i
      . subst hj;rw[hi]at e1;cases e1;rw[Wg MP]at e2;cases e2;exact⟨u,r,.inl ⟨hk,by simp⟩⟩
      . rw[V4 (Xb hj)]at e2;obtain⟨u',r',q⟩:=hl j y v' e1 e2 e3;refine⟨u',r',?_⟩;rcases q with⟨k,e⟩ | ⟨k,c,e,z⟩
        . refine .inl ⟨k,?_⟩;have:y≠x:=fun e=>hj (pM hN e1 (e ▸ hi))
          simp[this,e]
        . exact .inr ⟨k,c,e,z.sameBut hs (oX y c e)⟩
    . obtain⟨w',z⟩:=I.cell y c e;exact⟨w',z.sameBut hs (oX y c e)⟩
    . obtain⟨e,n,ne,nf,d⟩:=I.pin p hp;exact⟨(hs.2 p.1 ne).trans e,n,ne,nf,d⟩
  . have Aq:X.fn x=true:=by
      rcases hf with z | z
      . exact z
      . rw[z]at hk;cases hk
    obtain⟨c,hc⟩:=I.ok.has x (.inl hk);obtain⟨w',z⟩:=I.cell x c hc;refine wpAny_storeName_cell I.ok.kind hk hc z (fun h' EE hs=>?_);obtain⟨oc,MR,PB⟩:=id z;refine h { s with heap:=h' } ⟨I.ok,I.os,I.bare,⟨fun b o e n hb hx=>?_,fun b o e n hb hx=>?_,I.base.free,fun b o e hx=>?_,I.base.ke,I.base.jK,I.base.kf⟩,⟨m,hn.sameBut hs (Xb (oX x c hc)),fun j y v' e1 e2 e3=>?_⟩,fun y c' e=>?_,I.free,I.fI,fun p hp=>?_,tracked ⟨oc,MR,I.fI x c hc⟩ hs,by simpa using I.len⟩ ⟨c,hs,.inr hc⟩
    . exact(hs.2 b (Wz (Wc (V8 e) (I.ok.sC x c Aq hc)))).trans (I.base.keep b o e n hb hx)
    . obtain⟨sl,e1⟩:=I.base.slot b o e n hb hx;exact⟨sl,(hs.2 b (Wz (Wc (V8 e) (I.ok.sC x c Aq hc)))).trans e1⟩
    . obtain⟨o',e1⟩:=I.base.there b o e hx;exact⟨o',(hs.2 b (Wz (Wc (V8 e) (I.ok.sC x c Aq hc)))).trans e1⟩
    . by_cases hj:j=i
      . subst hj;rw[hi]at e1;cases e1;rw[Wg MP]at e2;cases e2;exact⟨u,r,.inr ⟨.inl hk,c,hc,EE⟩⟩
      . rw[V4 (Xb hj)]at e2;obtain⟨u',r',q⟩:=hl j y v' e1 e2 e3;refine⟨u',r',?_⟩;rcases q with q | ⟨k,c',e,z'⟩
        . exact .inl q
        . refine .inr ⟨k,c',e,z'.sameBut hs ?_⟩;rintro rfl;exact hj (pM hN e1 (I.ok.inj _ _ _ e hc ▸ hi))
    . by_cases MU:c'=c
      . subst MU;exact⟨_,EE⟩
      . obtain⟨w2,z2⟩:=I.cell y c' e;exact⟨w2,z2.sameBut hs MU⟩
    . obtain⟨e,n,ne,nf,d⟩:=I.pin p hp;refine⟨(hs.2 p.1 ?_).trans e,n,ne,nf,d⟩;intro q;rw[q,MR]at e;have q':oc=p.2:=WL e
      exact d w' (by rw[<- q'];exact PB)
theorem fB{M:Model}{A:Around}{E:Value->Shared->Prop}{i:Nat}{x:Str}{v:V}{u:Value}{Q:Unit->Shared->Prop}(I:Inv X pins σ H s)(hN:X.N.Nodup)(hi:X.N[i]?=some x)(hx:Loc X.env.scope x)(r:RelV v u)
    (h:∀ s',Inv X pins (σ.set i (some v)) H s'->Q () s') (hf:X.fn x=true\/X.env.scope.names.lookup x=some .local:=by first | exact .inl rfl | exact .inr rfl | assumption):wpAny M A (storeName X.env x u) Q E s :=
  sD I hN hi hx r (fun s' I' _=>h s' I') hf
theorem Inv.t7{s':Shared}{ch:List Addr}(I:Inv X pins σ H s)(ho:s'.os=s.os)(u:Un (fM X.stack) ch H H' s.heap s'.heap)(bh:eL X.prog X.w H' s'.heap)(hg:AllBare s'.gens)
    (oZ:∀ b∈ch,(b∈X.ex\/X.s₀.heap.objs.size<=b)/\b≠X.env.locals/\(∀ x c,X.env.cells.lookup x=some c->c≠b)/\∀ p∈X.pn++pins,p.1≠b):Inv X pins σ H' s':=by
  obtain⟨h',g',d',t',o'⟩:=s';have e:o'=s.os:=ho
  subst e;exact I.call (g':=g') (t':=t') (d':=d') u bh hg oZ
end
abbrev XK:=Value->Option Addr->Hp->Prop
abbrev St:=List (Option V)
abbrev VK:=V->Hp->Prop
abbrev TE:=St->Hp->VK->Prop
abbrev TT:=St->Hp->(Bool->Hp->Prop)->Prop
abbrev TA:=St->Hp->(List V->Hp->Prop)->Prop
structure Ends where
  nx:St->Hp->Prop
  rt:VK
  bk:St->Hp->Prop:=fun _ _=>False
  ct:St->Hp->Prop:=fun _ _=>False
abbrev TS:=Ends->St->Hp->Prop
def EP(X:Cx)(pins:List (Addr×Obj))(σ:St)(Q:VK)(u:Value)(s':Shared):Prop:=∃ v H',Inv X pins σ H' s'/\RelV v u/\Q v H'
def SP(X:Cx)(pins:List (Addr×Obj))(D:Ends)(f:Flow)(s':Shared):Prop :=
  match f with
  | .next=>∃ σ' H',Inv X pins σ' H' s'/\D.nx σ' H'
  | .brk=>∃ σ' H',Inv X pins σ' H' s'/\D.bk σ' H'
  | .cont=>∃ σ' H',Inv X pins σ' H' s'/\D.ct σ' H'
  | .ret u=>∃ v σ' H',Inv X pins σ' H' s'/\RelV v u/\D.rt v H'
def PE(X:Cx)(e:Expr)(t:TE):Prop :=
  ∀(pins:List (Addr×Obj))(s:Shared)(σ:St)(H:Hp)(Q:VK),Inv X pins σ H s->t σ H Q->wpAny (model X.prog X.w) X.A (eval e X.env) (EP X pins σ Q) X.xe s
def QR(X:Cx)(st:List Stmt)(t:TS):Prop :=
  ∀(pins:List (Addr×Obj))(s:Shared)(σ:St)(H:Hp)(D:Ends),Inv X pins σ H s->t D σ H->wpAny (model X.prog X.w) X.A (execs st X.env) (SP X pins D) X.xe s
theorem ft{α:Type}{t:Sem α}{Q Q':α->Shared->Prop}{M:Model}{A:Around}{E:Value->Shared->Prop}{s:Shared}(h:wpAny M A t Q E s)(hQ:∀ a s,Q a s->Q' a s):wpAny M A t Q' E s:=VN h hQ fun _ _ x=>x
section
variable {X:Cx}
def HV(i:Nat):TE:=fun σ H Q=>∃ v,σ[i]?=some (some v)/\Q v H
def tC(v:V):TE:=fun _ H Q=>Q v H
theorem uD{i:Nat}{x:Str}{pos:Pos}(hN:X.N[i]?=some x)(hv:kK X.env.scope x) (hd:(x ==("__debug__" : Str))=false:=by decide) (cU:(x ==("__classdict__" : Str))=false:=by decide):PE X (.Name x pos) (HV i):=by
  intro pins s σ H Q I h;obtain⟨v,e,h⟩:=h;obtain⟨m,hn,hl⟩:=I.loc;obtain⟨u,r,l⟩:=hl i x v hN e hv;have fin:EP X pins σ Q u s:=⟨v,H,I,r,h⟩
  rcases l with⟨hk,hm⟩ | ⟨hk,c,hc,ma⟩
  . exact YD (wpAny_loadName_local I.ok.kind hk hn hm fin) hd
  . rcases hk with hk | hk
    . exact YD (wpAny_loadName_cell I.ok.kind hk hc ma fin) hd
    . exact YD (wpAny_loadName_free I.ok.kind hk hc ma fin cU) hd
theorem HW{i j pos}:PE X (.Constant (.int i) j pos) (tC (.int i)):=fun _ _ _ H _ I h=>wpAny_Constant_int ⟨.int i,H,I.tok _,⟨_,rfl⟩,h⟩
theorem LO{b j pos}:PE X (.Constant (.bool b) j pos) (tC (.bl b)):=fun _ _ _ H _ I h=>Constant_bool ⟨.bl b,H,I,rfl,h⟩
theorem HX{j pos}:PE X (.Constant .none j pos) (tC .aU):=fun _ _ _ H _ I h=>Constant_none ⟨.aU,H,I,rfl,h⟩
theorem HY{x j pos}:PE X (.Constant (.str x) j pos) (tC (.str x)):=fun _ _ _ H _ I h=>X0 ⟨.str x,H,I.tok _,⟨_,rfl⟩,h⟩
def Gl(X:Cx)(x:Str):Prop:=X.env.kindOf x=some .globalImplicit
theorem fj{E:Value->Shared->Prop}{pins:List (Addr×Obj)}{s:Shared}{σ:St}{H:Hp}{x:Str}{u:Value}{pos:Pos}{Q:Value->Shared->Prop}(I:Inv X pins σ H s)(hg:Gl X x)(hm:X.mg x=some u)(h:Q u s)
    (hd:(x ==("__debug__" : Str))=false:=by decide):wpAny (model X.prog X.w) X.A (eval (.Name x pos) X.env) Q E s :=
  Yg I.ok.kind hg (Zx (by rw[I.ok.glob];exact I.mod.glob.keeps I.bk) hm h) hd
theorem jx{E:Value->Shared->Prop}{pins:List (Addr×Obj)}{s:Shared}{σ:St}{H:Hp}{x:Str}{u:Value}{pos:Pos}{Q:Value->Shared->Prop}(I:Inv X pins σ H s)(hg:Gl X x)(hm:X.mg x=none)(hv:bootBuiltins x=some u)(h:Q u s)
    (hn:x≠"__name__":=by decide) (hd:(x ==("__debug__" : Str))=false:=by decide):wpAny (model X.prog X.w) X.A (eval (.Name x pos) X.env) Q E s:=by
  obtain⟨mb,h1,h2⟩:=I.mod.blt;exact Yg I.ok.kind hg (Calls.loadGlobal_builtin (by rw[I.ok.glob];exact I.mod.glob.keeps I.bk) hm (by rw[I.ok.blt];exact h1.keeps I.bk) ((h2 x hn).trans hv) h) hd
theorem Gp{x:Str}{v:V}{u:Value}{pos:Pos}(hg:Gl X x)(hm:X.mg x=some u)(r:RelV v u) (hd:(x ==("__debug__" : Str))=false:=by decide):PE X (.Name x pos) (tC v) :=
  fun _ _ _ H _ I h=>fj I hg hm ⟨v,H,I,r,h⟩ hd
variable {a b:Expr}{ta tb:TE}{pos:Pos}
theorem uE(b:Expr){op:CmpOp}(h:op≠.In)(h2:op≠.NotIn):behindInMarks op b=false:=by
  have e1:(op == CmpOp.In)=false:=by cases op<;>first | rfl | exact absurd rfl h
  have e2:(op == CmpOp.NotIn)=false:=by cases op<;>first | rfl | exact absurd rfl h2
  cases b<;>simp[behindInMarks,e1,e2]
theorem RelV.uF{x:V}{v:Value}(r:RelV x v):(v == Value.none)=decide (x=.aU):=by
  cases x with
  | aU=>cases r;rfl
  | bl _=>cases r;rfl
  | int _=>obtain⟨t,rfl⟩:=r;rfl
  | str _=>obtain⟨t,rfl⟩:=r;rfl
  | Ak _=>obtain⟨t,rfl⟩:=r;rfl
  | Al _=>obtain⟨t,rfl⟩:=r;rfl
  | ref _=>cases r;rfl
  | ty _=>cases r;rfl
variable {tA Vu:TT}{rest:List Expr}
end
def fV(K:PySem.W.Frag)(H:Hp)(a:Addr)(xs:List V):Prop :=
  Rd H a (.lst xs) \/
    ∃(o:Obj)(its:Array Value)(n:Nat),K.lookup a=some o/\o.cls=.type "list"/\o.dict=none/\o.data=.seq its n/\its.size<=sizeLine/\Vals xs its.toList
def iG(K:PySem.W.Frag)(H:Hp)(a:Addr)(xs:List V):Prop :=
  Rd H a (.tup xs) \/
    ∃(o:Obj)(its:Array Value)(n:Nat),K.lookup a=some o/\o.cls=.type "tuple"/\o.data=.seq its n/\its.size<=sizeLine/\Vals xs its.toList
noncomputable def PC:Value->Option V
  | .none=>some .aU
  | .bool b=>some (.bl b)
  | .int i _=>some (.int i)
  | .str x _=>some (.str x)
  | .bytes b _=>some (.Ak b)
  | .float b _=>some (.Al b)
  | .ref a=>some (.ref a)
  | .type n=>some (.ty n)
  | _=>none
theorem RelV.abs{x:V}{u:Value}(r:RelV x u):PC u=some x:=by
  cases x with
  | aU=>cases r;rfl
  | bl _=>cases r;rfl
  | int _=>obtain⟨t,rfl⟩:=r;rfl
  | str _=>obtain⟨t,rfl⟩:=r;rfl
  | Ak _=>obtain⟨t,rfl⟩:=r;rfl
  | Al _=>obtain⟨t,rfl⟩:=r;rfl
  | ref _=>cases r;rfl
  | ty _=>cases r;rfl
theorem RelV.inj{x y:V}{u:Value}(r:RelV x u)(q:RelV y u):x=y:=WL (r.abs.symm.trans q.abs)
theorem Vals.inj:∀{xs ys:List V}{us:List Value},Vals xs us->Vals ys us->xs=ys
  | _,_,_,.nil,.nil=>rfl
  | _,_,_,.cons r t,.cons r' t'=>by rw[r.inj r',Vals.inj t t']
section
variable {X:Cx}{pins:List (Addr×Obj)}{σ:St}{H:Hp}{s:Shared}{a:Addr}{xs ys:List V}
theorem fV.of{K:PySem.W.Frag}(h:H a=some (.lst xs)):fV K H a xs:=.inl (.inl h)
theorem iG.of{K:PySem.W.Frag}(h:H a=some (.tup xs)):iG K H a xs:=.inl (.inl h)
theorem Inv.list(I:Inv X pins σ H s)(h:fV X.K H a xs):∃ its:List Value,Vals xs its/\PlainL s.heap a its.toArray/\xs.length<=sizeLine:=by
  rcases h with h | ⟨o,its,n,hk,hc,hd,hs,hz,r⟩
  . obtain⟨z,its,n,r,e⟩:=h.ok I.bh;exact⟨its,r,⟨_,n,e,rfl,rfl,rfl⟩,z⟩
  . refine⟨its.toList,r,⟨o,n,I.dR a o hk,hc,hd,by simpa using hs⟩,?_⟩;have e:=r.length
    simp only[aaG]at e;omega
theorem Inv.tuple(I:Inv X pins σ H s)(h:iG X.K H a xs):∃ its:List Value,Vals xs its/\IsTup s.heap a its.toArray/\xs.length<=sizeLine:=by
  rcases h with h | ⟨o,its,n,hk,hc,hs,hz,r⟩
  . obtain⟨z,its,r,p⟩:=h.ok I.bh;exact⟨its,r,p,z⟩
  . refine⟨its.toList,r,⟨o,I.dR a o hk,hc,n,by simpa using hs⟩,?_⟩;have e:=r.length
    simp only[aaG]at e;omega
theorem Inv.uG(I:Inv X pins σ H s)(h:fV X.K H a xs)(h':fV X.K H a ys):xs=ys:=by
  obtain⟨its,r,⟨o,n,e,_,_,d⟩,_⟩:=I.list h;obtain⟨its',r',⟨o',n',e',_,_,d'⟩,_⟩:=I.list h';rw[e]at e';cases e';rw[d]at d';injection d' with d1 _;have:its=its':=by simpa using Xq Array.toList d1
  subst this;exact r.inj r'
theorem Inv.sE(I:Inv X pins σ H s)(h:iG X.K H a xs)(h':iG X.K H a ys):xs=ys:=by
  obtain⟨its,r,⟨o,e,_,n,d⟩,_⟩:=I.tuple h;obtain⟨its',r',⟨o',e',_,n',d'⟩,_⟩:=I.tuple h';rw[e]at e';cases e';rw[d]at d';injection d' with d1 _;have:its=its':=by simpa using Xq Array.toList d1
  subst this;exact r.inj r'
end
noncomputable abbrev Cx.bR(X:Cx)(E:Value->Shared->Prop):Cx:={ X with xe:=E }
theorem Cx.Ok.bR{X:Cx}(ok:X.Ok)(E:Value->Shared->Prop):(X.bR E).Ok :=
  ⟨ok.mod,ok.kind,ok.glob,ok.blt,ok.above,ok.inj,ok.has,ok.sC,ok.hd,ok.frames,ok.oV,ok.EC,ok.bs,ok.lK,ok.pL,ok.rS,ok.gZ,ok.oW⟩
theorem Cx.Ok.nh{X:Cx}{E:Value->Shared->Prop}(ok:(X.bR E).Ok):X.Ok :=
  ⟨ok.mod,ok.kind,ok.glob,ok.blt,ok.above,ok.inj,ok.has,ok.sC,ok.hd,ok.frames,ok.oV,ok.EC,ok.bs,ok.lK,ok.pL,ok.rS,ok.gZ,ok.oW⟩
section
variable {X:Cx}{pins:List (Addr×Obj)}{σ:St}{H:Hp}{s:Shared}{E:Value->Shared->Prop}
theorem Inv.bR(I:Inv X pins σ H s)(E:Value->Shared->Prop):Inv (X.bR E) pins σ H s:=⟨I.ok.bR E,I.os,I.bare,I.base,I.loc,I.cell,I.free,I.fI,I.pin,I.bh,I.len⟩
theorem Inv.nh(I:Inv (X.bR E) pins σ H s):Inv X pins σ H s:=⟨I.ok.nh,I.os,I.bare,I.base,I.loc,I.cell,I.free,I.fI,I.pin,I.bh,I.len⟩
end
section
variable {X:Cx}{st:Stmt}{rest:List Stmt}{t u:TS}{e:Expr}{te:TE}{pos:Pos}
theorem Inv.quiet{pins:List (Addr×Obj)}{σ:St}{H:Hp}{s:Shared}(I:Inv X pins σ H s):interactive X.env=false:=by simp[interactive,I.ok.kind]
end
structure It where
  go:Nat->Hp->Prop
  HZ:Nat->Hp->V->Hp->Prop
  stop:Nat->Hp->Prop
def gG(X:Cx)(pins:List (Addr×Obj))(H:Hp)(b:Addr):Prop :=
  H b=none/\b≠X.env.locals/\b ∉ X.fs/\(b∈X.ex\/X.s₀.heap.objs.size<=b)/\(∀ x c,X.env.cells.lookup x=some c->c≠b)/\∀ p∈X.pn++pins,p.1≠b
theorem Inv.rT{X:Cx}{pins:List (Addr×Obj)}{σ:St}{H H':Hp}{s:Shared}{b:Addr}(I:Inv X pins σ H s)(hb:s.heap.objs.size<=b)(hn:H' b=none):gG X pins H' b:=by
  refine⟨hn,Zg (Wc I.lt hb),I.PA hb,.inr (Wh I.sz hb),fun x c e z=>?_,fun p hp z=>?_⟩
  . obtain⟨v,q⟩:=I.cell x c e;exact absurd (Wc q.lt (by rw[z];exact hb)) (Xk _)
  . exact absurd (Wc (V8 (I.pin p hp).1) (by rw[z];exact hb)) (Xk _)
structure Turn(P:Program)(w:World)(K:PySem.W.Frag)(tg:Expr)(J:It)(fp:List Addr)(it:Addr)(tn:Nat->Heap->Prop):Prop where
  mem:it∈fp
  obj:∀ i h,tn i h->∀ b∈fp,∃ o,h.get? b=some o/\∀ v,o.data≠.cell v
  keep:∀ i h h',tn i h->(∀ b∈fp,∀ o,h.get? b=some o->h'.get? b=some o)->tn i h'
  item:∀(X:Cx),X.prog=P->X.w=w->X.K=K->X.calm=true->∀(i:Nat)(pins:List (Addr×Obj))(s:Shared)(σ:St)(H:Hp)(E:Value->Shared->Prop),Inv X pins σ H s->(∀ b∈fp,gG X pins H b)->tn i s.heap->J.go i H ->
    wpAny (model P w) X.A (pyNext (.ref it)) (fun r s1=>∃ u,r=some u /\
      wpAny (model P w) X.A (letOwnedTupleGo tg (.ref it) u) (fun _ s2=>∃ x H',Inv X pins σ H' s2/\RelV x u/\J.HZ i H x H'/\tn (i+1) s2.heap/\∀ b∈fp,H' b=none) E s1) E s
  done:∀(X:Cx),X.prog=P->X.w=w->X.K=K->X.calm=true->∀(i:Nat)(pins:List (Addr×Obj))(s:Shared)(σ:St)(H:Hp)(E:Value->Shared->Prop),Inv X pins σ H s->(∀ b∈fp,gG X pins H b)->tn i s.heap->J.stop i H ->
    wpAny (model P w) X.A (pyNext (.ref it)) (fun r s1=>r=none/\Inv X pins σ H s1) E s
  self:∀(A:Around)(i:Nat)(s:Shared)(Q:Value->Shared->Prop)(E:Value->Shared->Prop),tn i s.heap->Q (.ref it) s->wpAny (model P w) A (pyIter (.ref it)) Q E s
abbrev TI:=St->Hp->(It->Hp->Prop)->Prop
def QS(X:Cx)(pins:List (Addr×Obj))(σ:St)(tg:Expr)(R:It->Hp->Prop)(sF:Value)(s2:Shared):Prop :=
  ∃(it:Addr)(fp:List Addr)(tn:Nat->Heap->Prop)(J:It)(H':Hp),sF=.ref it/\Inv X pins σ H' s2/\Turn X.prog X.w X.K tg J fp it tn/\tn 0 s2.heap/\(∀ b∈fp,gG X pins H' b)/\R J H'
theorem t9{M:Model}{A:Around}{E:Value->Shared->Prop}{s:Shared}{tg:Expr}{it:Addr}{u:Value}{o:Obj}{n:String}{vs:Array Value}{Q:Unit->Shared->Prop}(ho:s.heap.get? it=some o)(hc:o.cls=.type n)(hd:o.data=.fields vs)
    (hn:["enumerate","zip","dict_itemiterator","dict_reverseitemiterator","odict_iterator","itertools.zip_longest","itertools.pairwise"].contains n=false) (hQ:Q () s):wpAny M A (letOwnedTupleGo tg (.ref it) u) Q E s:=by
  unfold letOwnedTupleGo;cases tg<;>first
    | exact Ws hQ
    | (cases u<;>first
        | exact Ws hQ
        | (
           refine V0 (wpAny_load ho ?_);rw[hc,hd];show wpAny M A (if (["enumerate","zip","dict_itemiterator","dict_reverseitemiterator","odict_iterator","itertools.zip_longest","itertools.pairwise"].contains n&&vs[0]? == some (rawInt _))=true then _ else _) Q E s
           rw[VQ (by intro h;rw[hn,ZX]at h;cases h)];exact Ws hQ))
noncomputable def MX(K:PySem.W.Frag)(a:Addr):It :=
  ⟨fun i H=>∃ xs x,fV K H a xs/\xs[i]?=some x,fun i H x H'=>H'=H/\∀ xs,fV K H a xs->xs[i]?=some x,fun i H=>∃ xs,fV K H a xs/\xs.length<=i⟩
noncomputable def MY(K:PySem.W.Frag)(a:Addr):It :=
  ⟨fun i H=>∃ xs x,iG K H a xs/\xs[i]?=some x,fun i H x H'=>H'=H/\∀ xs,iG K H a xs->xs[i]?=some x,fun i H=>∃ xs,iG K H a xs/\xs.length<=i⟩
theorem Ar{P:Program}{w:World}{K:PySem.W.Frag}{tg:Expr}(a it:Addr):Turn P w K tg (MX K a) [it] it (fun i h=>h.IsListIter it a i) where
  mem:=by simp
  obj:=fun i h st b hb=>by
    have e:b=it:=by simpa using hb
    subst e;obtain⟨o,e,c,d⟩:=st;exact⟨o,e,fun v z=>by rw[d]at z;cases z⟩
  keep:=fun i h h' st k=>st.at fun o e=>k it (by simp) o e
  item:=by
    intro X hP hw hK hc i pins s σ H E I hf st hg;subst hP hw hK;obtain⟨xs,x,hq,hx⟩:=hg;obtain⟨its,rv,p,hz⟩:=I.list hq;obtain⟨u,hu,ru⟩:=rv.get hx;obtain⟨f0,f1,f2,f3,f4,f5⟩:=hf it (by simp);refine wpAny_pyNext_list_item st p.isList (x:=u) (by simpa using hu) fun h' gx sb=>?_;have I1:Inv X pins σ H { s with heap:=h' }:=I.turned (t':=s.toks) (fun b o hb e=>(sb.2 b hb).trans e) f0 f1 f3 f4 f5
    obtain⟨o,e,c,d⟩:=id gx;exact⟨u,rfl,t9 (s:={ s with heap:=h' }) e c d (by decide) ⟨x,H,I1,ru,⟨rfl,fun ys hy=>by rw[I.uG hy hq];exact hx⟩,gx,fun b hb=>(hf b hb).1⟩⟩
  done:=by
    intro X hP hw hK hc i pins s σ H E I hf st hg;subst hP hw hK;obtain⟨xs,hq,hx⟩:=hg;obtain⟨its,rv,p,hz⟩:=I.list hq;obtain⟨f0,f1,f2,f3,f4,f5⟩:=hf it (by simp);have hl:=rv.length
    exact wpAny_pyNext_list_end (I.ok.hd hc) st p.isList (by simp;omega) fun h' eb=>⟨rfl,I.turned (t':=s.toks) (fun b o hb e=>eb b o hb e) f0 f1 f3 f4 f5⟩
  self:=fun _ _ _ _ _ st h=>wpAny_pyIter_listiter st h
theorem yr{P:Program}{w:World}{K:PySem.W.Frag}{tg:Expr}(a it:Addr):Turn P w K tg (MY K a) [it] it (fun i h=>h.IsTupleIter it a i) where
  mem:=by simp
  obj:=fun i h st b hb=>by
    have e:b=it:=by simpa using hb
    subst e;obtain⟨o,e,c,d⟩:=st;exact⟨o,e,fun v z=>by rw[d]at z;cases z⟩
  keep:=fun i h h' st k=>st.at fun o e=>k it (by simp) o e
  item:=by
    intro X hP hw hK hc i pins s σ H E I hf st hg;subst hP hw hK;obtain⟨xs,x,hq,hx⟩:=hg;obtain⟨its,rv,p,hz⟩:=I.tuple hq;obtain⟨u,hu,ru⟩:=rv.get hx;obtain⟨f0,f1,f2,f3,f4,f5⟩:=hf it (by simp);refine wpAny_pyNext_tuple_item st (show s.heap.IsTuple a its.toArray from p) (x:=u) (by simpa using hu) fun h' gx sb=>?_;have I1:Inv X pins σ H { s with heap:=h' }:=I.turned (t':=s.toks) (fun b o hb e=>(sb.2 b hb).trans e) f0 f1 f3 f4 f5
    obtain⟨o,e,c,d⟩:=id gx;exact⟨u,rfl,t9 (s:={ s with heap:=h' }) e c d (by decide) ⟨x,H,I1,ru,⟨rfl,fun ys hy=>by rw[I.sE hy hq];exact hx⟩,gx,fun b hb=>(hf b hb).1⟩⟩
  done:=by
    intro X hP hw hK hc i pins s σ H E I hf st hg;subst hP hw hK;obtain⟨xs,hq,hx⟩:=hg;obtain⟨its,rv,p,hz⟩:=I.tuple hq;obtain⟨f0,f1,f2,f3,f4,f5⟩:=hf it (by simp);have hl:=rv.length
    exact wpAny_pyNext_tuple_end (I.ok.hd hc) st (show s.heap.IsTuple a its.toArray from p) (by simp;omega) fun h' eb=>⟨rfl,I.turned (t':=s.toks) (fun b o hb e=>eb b o hb e) f0 f1 f3 f4 f5⟩
  self:=fun _ _ _ _ _ st h=>wpAny_pyIter_tupleiter st h
section
variable {X:Cx}{tg:Expr}
noncomputable def lL(fp:List Addr)(h:Heap):List (Addr×Obj):=fp.filterMap fun b=>(h.get? b).map fun o=>(b,o)
theorem fu{fp:List Addr}{h:Heap}{b:Addr}{o:Obj}(hb:b∈fp)(e:h.get? b=some o):(b,o)∈lL fp h:=Y3.mpr ⟨b,hb,by rw[e];rfl⟩
theorem As{fp:List Addr}{h:Heap}{p:Addr×Obj}(hp:p∈lL fp h):p.1∈fp/\h.get? p.1=some p.2:=by
  obtain⟨b,hb,e⟩:=Y3.mp hp;cases q:h.get? b with
  | none=>rw[q]at e;cases e
  | some o =>
    rw[q]at e;have e':(b,o)=p:=WL e
    subst e';exact⟨hb,q⟩
theorem Inv.pinned{pins:List (Addr×Obj)}{σ:St}{H:Hp}{s:Shared}{fp:List Addr}(I:Inv X pins σ H s)(hf:∀ b∈fp,gG X pins H b)(ho:∀ b∈fp,∃ o,s.heap.get? b=some o/\∀ v,o.data≠.cell v):Inv X (pins++lL fp s.heap) σ H s :=
  I.wO fun p hp=>(XF.mp hp).elim (fun z=>I.pin p (We _ z)) fun z=>by
    obtain⟨hb,e⟩:=As z;obtain⟨f0,f1,f2,_⟩:=hf p.1 hb;obtain⟨o,e',d⟩:=ho p.1 hb;rw[e]at e';cases e';exact⟨e,f0,f1,f2,d⟩
theorem Inv.fD{pins pl:List (Addr×Obj)}{σ:St}{H:Hp}{s:Shared}(I:Inv X (pins++pl) σ H s):Inv X pins σ H s:=I.wO fun p hp=>I.pin p (We _ (Ya _ hp))
end
abbrev R2:=V->V->Hp->VK->Prop
def Ia(X:Cx)(f:Value->Value->Sem Value)(r:R2):Prop :=
  ∀(pins:List (Addr×Obj))(s:Shared)(σ:St)(H:Hp)(x y:V)(v u:Value)(Q:VK),Inv X pins σ H s->RelV x v->RelV y u->r x y H Q ->
    wpAny (model X.prog X.w) X.A (f v u) (EP X pins σ Q) X.xe s
def qC(X:Cx)(f:Value)(r:List V->Hp->VK->Prop):Prop :=
  ∀(pins:List (Addr×Obj))(s:Shared)(σ:St)(H:Hp)(xs:List V)(us:List Value)(Q:VK),Inv X pins σ H s->Vals xs us->r xs H Q ->
    wpAny (model X.prog X.w) X.A (call f us) (EP X pins σ Q) X.xe s
section
variable {X:Cx}{a b c:Expr}{ta tb tc:TE}{pos:Pos}
theorem Ib{pins:List (Addr×Obj)}{σ:St}{H:Hp}{s:Shared}{Q:VK}{k k':Bool}(I:Inv X pins σ H s)(q:Q (.bl k) H)(e:k=k'):EP X pins σ Q (.bool k') s:=by
  subst e;exact⟨.bl k,H,I,rfl,q⟩
theorem Au:Ia X (compareOp .In) (fun x y H Q=>∃ i j,x=.str i/\y=.str j/\Q (.bl (!(Builtin.Str.occurrences j i 0 j.length 1).isEmpty)) H):=by
  intro pins s σ H x y v u Q I rx ry h;obtain⟨i,j,rfl,rfl,q⟩:=h;obtain⟨t,rfl⟩:=rx;obtain⟨t',rfl⟩:=ry;exact in_str (Ib I q rfl)
theorem aX(b:Expr){op:CmpOp}(h:op≠.In:=by decide)(h2:op≠.NotIn:=by decide):behindInMarks op b=false:=by
  have e1:(op == CmpOp.In)=false:=by cases op<;>first | rfl | exact absurd rfl h
  have e2:(op == CmpOp.NotIn)=false:=by cases op<;>first | rfl | exact absurd rfl h2
  cases b<;>simp[behindInMarks,e1,e2]
theorem ni:(sizeLine:Nat)<2 ^ 63:=by rw[sizeLine_eq];decide
theorem yt:Ia X (binaryOp .Add) (fun x y H Q=>∃ i j,x=.str i/\y=.str j/\i.length+j.length<=sizeLine/\Q (.str (i++j)) H):=by
  intro pins s σ H x y v u Q I rx ry h;obtain⟨i,j,rfl,rfl,hz,q⟩:=h;obtain⟨t,rfl⟩:=rx;obtain⟨t',rfl⟩:=ry;exact add_str (fun t' tk=>⟨.str (i++j),H,I.tok _,⟨_,rfl⟩,q⟩) hz
theorem vals1{x:V}{us:List Value}(r:Vals [x] us):∃ u,us=[u]/\RelV x u:=by
  cases r with
  | cons r1 r2=>cases r2;exact⟨_,rfl,r1⟩
theorem vals2{x y:V}{us:List Value}(r:Vals [x,y] us):∃ u w',us=[u,w']/\RelV x u/\RelV y w':=by
  cases r with
  | cons r1 r2 =>
    cases r2 with
    | cons r3 r4=>cases r4;exact⟨_,_,rfl,r1,r3⟩
theorem C3:qC X (.builtin "abs") (fun xs H Q=>∃ i,xs=[.int i]/\Q (.int (if i<0 then -i else i)) H):=by
  intro pins s σ H xs us Q I r h;obtain⟨i,rfl,q⟩:=h;obtain⟨u,rfl,t,rfl⟩:=vals1 r;exact call_abs_int fun u tk=>⟨.int (if i<0 then -i else i),H,I.tok _,⟨_,rfl⟩,q⟩
theorem Av(hc:X.calm=true):qC X (.builtin "max") (fun xs H Q=>∃ i j,xs=[.int i,.int j]/\Q (.int (if j>i then j else i)) H):=by
  intro pins s σ H xs us Q I r h;obtain⟨i,j,rfl,q⟩:=h;obtain⟨u,w',rfl,⟨t,rfl⟩,⟨t',rfl⟩⟩:=vals2 r;refine max_two_ints (I.ok.hd hc) fun h' tk k=>⟨_,H,I.kept k,?_,q⟩;by_cases hj:j>i
  . rw[VP hj,VP hj];exact⟨_,rfl⟩
  . rw[VQ hj,VQ hj];exact⟨_,rfl⟩
theorem sG:qC X (.type "int") (fun xs H Q=>(∃ i,xs=[.int i]/\Q (.int i) H)\/∃ k,xs=[.bl k]/\Q (.int (if k then 1 else 0)) H):=by
  intro pins s σ H xs us Q I r h;rcases h with⟨i,rfl,q⟩ | ⟨k,rfl,q⟩
  . obtain⟨u,rfl,t,rfl⟩:=vals1 r;exact call_int_int ⟨.int i,H,I,⟨_,rfl⟩,q⟩
  . obtain⟨u,rfl,r1⟩:=vals1 r;cases r1;exact call_int_bool ⟨.int (if k then 1 else 0),H,I.tok _,⟨_,rfl⟩,q⟩
end
structure pN(h:Heap)(x dx C:Addr)(mA:Str->Option Value):Prop where
  obj:h.get? x=some (PySem.W.instObj C dx)
  ns:h.Ns1 dx mA
  ne:dx≠x
theorem Aw{h:Heap}{dx:Addr}{mA:Str->Option Value}(n:h.Ns1 dx mA):∃ od,h.get? dx=some od/\∀ name,PySem.W.lookIn name od=some (mA name):=by
  obtain⟨o,es,ep,ho,hd,hk,_,hm⟩:=n;refine⟨o,ho,fun name=>?_⟩;have e:=hm name
  unfold nsFind findBy at e;rw[<- Array.find?_toList]at e;unfold PySem.W.lookIn;rw[hd];dsimp only;split
  . rename_i y q;rw[q]at e;exact Xq some e
  . rename_i q;rw[q]at e;have a:es.toList.any (·.refKey)=false:=by
      rw[List.any_eq_false];intro y hy;obtain⟨z,t,PD⟩:=hk y (Array.mem_toList_iff.mp hy);simp[DictEntry.refKey,PD]
    have a':¬ es.toList.any (·.refKey)=true:=by rw[a];exact W5
    rw[VQ a'];exact Xq some e
theorem pN.look{h:Heap}{x dx C:Addr}{mA:Str->Option Value}(I:pN h x dx C mA):∃ od,PySem.W.InstAt h x (PySem.W.instObj C dx) C (some od)/\∀ name,PySem.W.lookIn name od=some (mA name) :=
  let ⟨od,ho,hl⟩:=Aw I.ns
  ⟨od,⟨I.obj,rfl,rfl,ho⟩,hl⟩
section
variable {prog:Program}{w:World}{A:Around}{E:Value->Shared->Prop}{s:Shared}{K:PySem.W.Frag}{x dx C f:Addr}{mA:Str->Option Value}{name:Str}{v:Value}
theorem get_map{expr:Bool}{Q:Value->Shared->Prop}(X:K.In s.heap)(I:pN s.heap x dx C mA)(hg:PySem.W.plainGet K C name=true)(hh:PySem.W.hasDictIn K C=true)
    (ha:PySem.W.findIn K (.ref C) name=some none) (hv:mA name=some v) (QT:PySem.W.handedIn v=true) (h:Q v { s with toks:=s.toks+1 }) :
    wpAny (model prog w) A (getAttr (.ref x) name expr) Q E s:=by
  obtain⟨od,J,hl⟩:=I.look;exact PySem.W.get_value X J (YO hg).1 (PySem.W.findObj_own hh ha rfl (by rw[hl,hv])) QT h
theorem C4{pl:Sem Bool}{Q:Value×List Value->Shared->Prop}(X:K.In s.heap)(I:pN s.heap x dx C mA)(hg:PySem.W.plainGet K C name=true)
    (hf:PySem.W.findIn K (.ref C) name=some (some (.ref f))) (ht:PySem.W.isFn K (.ref f)=true) (hv:mA name=none) (h:Q (.ref f,[.ref x]) s) :
    wpAny (model prog w) A (getMethod (.ref x) name pl) Q E s:=by
  obtain⟨od,J,hl⟩:=I.look;exact PySem.W.method_fn X J (YO hg).1 (YO hg).2 hf (Wo.mp ht) (by show(PySem.W.lookIn name od).map (·.isSome)=some false;rw[hl,hv];rfl) h
theorem Gq{ns:List Str}{Q:Unit->Shared->Prop}(X:K.In s.heap)(I:pN s.heap x dx C mA)
    (hs:PySem.W.findIn K (.ref C) "__setattr__"=some (some (.builtin "object.__setattr__"))) (hp:PySem.W.plainOver K C=true) (ht:PySem.W.takerIn K C name=some none) (hh:PySem.W.hasDictIn K C=true)
    (hw:PySem.Within mA ns) (hsz:ns.length<=sizeLine)
    (h:∀ h',pN h' x dx C (fun y=>if y=name then some v else mA y)->Heap.SameBut dx s.heap h'->Q () { s with heap:=h',toks:=s.toks+2 }) :
    wpAny (model prog w) A (setAttr (.ref x) name v) Q E s:=by
  obtain⟨od,J,hl⟩:=I.look;refine PySem.W.set_plain X J hs (PySem.W.osa_open (s:={ s with toks:=s.toks+1 }) (r:=none) X J hp ht fun b=>?_);obtain⟨cd,hc,oY⟩:=PySem.W.any_some hh;have hx:s.heap.get? x=some ⟨.ref C,some dx,.plain,#[]⟩:=I.obj
  refine V0 (Ws (V0 (V0 (wpAny_loadPart hx (V0 (PySem.W.Looks.here (s:={ s with toks:=s.toks+1 }) (PySem.W.looks_clsIn X hc) ?_))))));rw[oY];refine Ws (a:=some dx) (V0 (Ws (V0 ?_)));refine wpAny_nsSet1 (s:={ s with toks:=s.toks+1 }) I.ns fun h' MZ M3=>?_;obtain⟨oD,Vv,Vw,QU,QV,QW⟩:=MZ.count (PySem.Within.cons name v hw);refine V0 (wpAny_lookBehind QU (by rw[QV];exact pastItsLine_dict (Wh QW (by rw[VT];omega))) ?_);exact Ws (h _ ⟨(M3.2 _ (Xb I.ne)).trans I.obj,MZ,I.ne⟩ M3)
theorem C5{R:Result->Shared->Prop}{vs:List Value}{kw:List (Str×Value)}(X:K.In s.heap)(hm:PySem.W.makesIn K C=true)
    (hi:PySem.W.findIn K (.ref C) "__init__"=some (some (.ref f))) (hf:PySem.W.typeIn K (.ref f)=some (.type "function"))
    (h:codeAny (model prog w) (A.under (.builtin "type.__call__" ⟨.ref C::vs,kw⟩)) (.call (.ref f) ⟨.ref (s.heap.objs.size+1)::vs,kw⟩) (PySem.W.InitBack (s.heap.objs.size+1) R)
      { s with heap:=(s.heap.push PySem.W.emptyDict).push (PySem.W.instObj C s.heap.objs.size) }) :
    codeAny (model prog w) A (.call (.ref C) ⟨vs,kw⟩) R s:=by
  obtain⟨hh,g,d,t,os⟩:=s;exact PySem.W.make_core (Zh X hm) (Yb X hi) (fun self=>PySem.W.bind_fn X self hf) (.inl rfl) h
theorem Ax{R:Result->Shared->Prop}(X:K.In s.heap)(hm:PySem.W.makesIn K C=true)
    (hi:PySem.W.findIn K (.ref C) "__init__"=some (some (.builtin "object.__init__")))
    (hb:∀ self,PySem.W.Looks (model prog w) s.heap (bindSpecial (.builtin "object.__init__") self) (.builtin "object.__init__",[self]))
    (h:codeAny (model prog w) (A.under (.builtin "type.__call__" ⟨[.ref C],[]⟩)) (.call (.builtin "object.__init__") ⟨[.ref (s.heap.objs.size+1)],[]⟩) (PySem.W.InitBack (s.heap.objs.size+1) R)
      { s with heap:=(s.heap.push PySem.W.emptyDict).push (PySem.W.instObj C s.heap.objs.size) }) :
    codeAny (model prog w) A (.call (.ref C) ⟨[],[]⟩) R s:=by
  obtain⟨hh,g,d,t,os⟩:=s;exact PySem.W.make_core (Zh X hm) (Yb X hi) hb (.inr ⟨rfl,rfl⟩) h
end
noncomputable def gH(f:Str)(v:V):List (Str×V)->List (Str×V)
  | []=>[(f,v)]
  | (g,x)::r=>if g=f then (g,v)::r else (g,x)::gH f v r
theorem ph(f g:Str)(v:V):∀ fs:List (Str×V),(gH f v fs).lookup g=if g=f then some v else fs.lookup g
  | []=>by
    show List.lookup g [(f,v)]=_;by_cases h:g=f
    . have hb:(g == f)=true:=Wo.mpr h;simp only[List.lookup,hb,VP h]
    . have hb:(g == f)=false:=Wr.mpr h;simp only[List.lookup,hb,VQ h]
  | (k,x)::r=>by
    have ih:=ph f g v r;rw[show gH f v ((k,x)::r)=(if k=f then (k,v)::r else (k,x)::gH f v r) from rfl]
    by_cases hk:k=f
    . rw[VP hk];by_cases h:g=k
      . have hb:(g == k)=true:=Wo.mpr h;simp only[List.lookup,hb,VP (h.trans hk)]
      . have hb:(g == k)=false:=Wr.mpr h;simp only[List.lookup,hb,VQ (fun e:g=f=>h (e.trans hk.symm))]
    . rw[VQ hk];by_cases h:g=k
      . have hb:(g == k)=true:=Wo.mpr h;simp only[List.lookup,hb,VQ (fun e:g=f=>hk (h.symm.trans e))]
      . have hb:(g == k)=false:=Wr.mpr h;simp only[List.lookup,hb];exact ih
theorem nj(f:Str)(v:V):∀ fs:List (Str×V),f∈(gH f v fs).map (·.1)/\∀ g,g∈fs.map (·.1)->g∈(gH f v fs).map (·.1)
  | []=>⟨by simp[gH],fun g h=>by simp at h⟩
  | (k,x)::r=>by
    obtain⟨i1,i2⟩:=nj f v r;rw[show gH f v ((k,x)::r)=(if k=f then (k,v)::r else (k,x)::gH f v r) from rfl]
    by_cases hk:k=f
    . rw[VP hk];subst hk;exact⟨by simp,fun g h=>by simpa using h⟩
    . rw[VQ hk];refine⟨?_,fun g h=>?_⟩
      . rw[VZ];exact V6 _ i1
      . rw[VZ]at h ⊢;rcases WD.mp h with e | e
        . exact WD.mpr (.inl e)
        . exact V6 _ (i2 g e)
theorem pj(f:Str)(v:V):∀ fs:List (Str×V),(gH f v fs).length<=fs.length+1
  | []=>by simp[gH]
  | (k,x)::r=>by
    have ih:=pj f v r;rw[show gH f v ((k,x)::r)=(if k=f then (k,v)::r else (k,x)::gH f v r) from rfl]
    by_cases hk:k=f
    . rw[VP hk,VT,VT];omega
    . rw[VQ hk,VT,VT];omega
theorem gF.some_of{v:V}{o:Option Value}(r:gF (some v) o):∃ u,o=some u/\RelV v u:=by
  cases o with
  | none=>exact(show False from r).elim
  | some u=>exact⟨u,rfl,r⟩
theorem gF.none_of{o:Option Value}(r:gF none o):o=none:=by
  cases o with
  | none=>rfl
  | some u=>exact(show False from r).elim
theorem Ay{v:V}{u:Value}(r:RelV v u):PySem.W.handedIn u=true:=by
  cases v with
  | aU=>cases (show u=Value.none from r);rfl
  | bl b=>cases (show u=Value.bool b from r);rfl
  | int i=>obtain⟨t,e⟩:=(show ∃ t,u=Value.int i t from r);cases e;rfl
  | str x=>obtain⟨t,e⟩:=(show ∃ t,u=Value.str x t from r);cases e;rfl
  | Ak b=>obtain⟨t,e⟩:=(show ∃ t,u=Value.bytes b t from r);cases e;rfl
  | Al b=>obtain⟨t,e⟩:=(show ∃ t,u=Value.float b t from r);cases e;rfl
  | ref a=>cases (show u=Value.ref a from r);rfl
  | ty n=>cases (show u=Value.type n from r);rfl
section
variable {P:Program}{w:World}{H H':Hp}{h h':Heap}{a C dx:Addr}{fs QQ:List (Str×V)}
theorem rU(bh:eL P w H h)(e:H a=some (.ins C dx fs)):∃ mA,pN h a dx C mA/\(∀ f,gF (fs.lookup f) (mA f))/\PySem.Within mA (fs.map (·.1))/\fs.length<=1000/\H dx=some (.own a):=by
  obtain⟨d,z,ne,ob,mA,n,r,q⟩:=(show dF P w H h a (.ins C dx fs) from bh a _ e)
  exact⟨mA,⟨ob,n,ne⟩,r,q,z,d⟩
end
structure gd(K:PySem.W.Frag)(C:Addr):Prop where
  pg:PySem.W.plainGet K C Str.empty=true
  hd:PySem.W.hasDictIn K C=true
  po:PySem.W.plainOver K C=true
  sa:PySem.W.findIn K (.ref C) "__setattr__"=some (some (.builtin "object.__setattr__"))
theorem gd.get{K:PySem.W.Frag}{C:Addr}(c:gd K C)(f:Str):PySem.W.plainGet K C f=true:=c.pg
def fN(K:PySem.W.Frag)(C:Addr)(f:Str):Prop:=PySem.W.findIn K (.ref C) f=some none
theorem fN.LP{K:PySem.W.Frag}{C:Addr}{f:Str}(n:fN K C f):PySem.W.takerIn K C f=some none:=by
  unfold PySem.W.takerIn;rw[show PySem.W.findIn K (.ref C) f=some none from n]
  rfl
structure Meth(K:PySem.W.Frag)(C:Addr)(m:Str)(f:Addr):Prop where
  at_:PySem.W.findIn K (.ref C) m=some (some (.ref f))
  fn:PySem.W.isFn K (.ref f)=true
  kp:PySem.W.keepIn K (.ref f)=true
section
variable {X:Cx}{pins:List (Addr×Obj)}{σ:St}{H:Hp}{s:Shared}{a C dx:Addr}{fs:List (Str×V)}{f:Str}{v:V}{A:Around}{E:Value->Shared->Prop}
theorem yu{b:Bool}{Q:Value->Shared->Prop}(I:Inv X pins σ H s)(e:H a=some (.ins C dx fs))(c:gd X.K C)(n:fN X.K C f)(l:fs.lookup f=some v)
    (h:∀ u s',Inv X pins σ H s'->RelV v u->Q u s'):wpAny (model X.prog X.w) A (getAttr (.ref a) f b) Q E s:=by
  obtain⟨mA,O,r,_,_,_⟩:=rU I.bh e;obtain⟨u,hu,ru⟩:=gF.some_of (v:=v) (o:=mA f) (by rw[<- l];exact r f);exact get_map I.dR O (c.get f) c.hd n hu (Ay ru) (h u _ (I.tok _) ru)
theorem jW{m:Str}{g:Addr}{pl:Sem Bool}{Q:Value×List Value->Shared->Prop}(I:Inv X pins σ H s)(e:H a=some (.ins C dx fs))(c:gd X.K C)(k:Meth X.K C m g)(l:fs.lookup m=none)
    (h:Q (.ref g,[.ref a]) s):wpAny (model X.prog X.w) A (getMethod (.ref a) m pl) Q E s:=by
  obtain⟨mA,O,r,_,_,_⟩:=rU I.bh e;have hn:mA m=none:=gF.none_of (by rw[<- l];exact r m)
  exact C4 I.dR O (c.get m) k.at_ k.fn hn h
theorem yv{y:V}{u:Value}{Q:Unit->Shared->Prop}(I:Inv X pins σ H s)(e:H a=some (.ins C dx fs))(c:gd X.K C)(n:fN X.K C f)(hl:fs.length<1000)(ry:RelV y u)
    (h:∀ s',Inv X pins σ (upd H a (.ins C dx (gH f y fs))) s'->Q () s'):wpAny (model X.prog X.w) A (setAttr (.ref a) f u) Q E s:=by
  obtain⟨mA,O,r,wi,_,ho⟩:=rU I.bh e;have hz:(fs.map (·.1)).length<=sizeLine:=by rw[V5,sizeLine_eq];omega
  refine Gq I.dR O c.sa c.po n.LP c.hd wi hz fun h' O' sb=>h _ ?_;have hd:∃ o,h'.get? dx=some o:=let ⟨o,_,_,e',_⟩:=O'.ns;⟨o,e'⟩
  refine I.write (x:=a) (e:=dx) (by rw[e];exact True.intro) (.inr ho) (fun b q hb z=>(sb.2 b hb).trans z) hd ?_;refine⟨by rw[a7 O.ne];exact ho,?_,O.ne,O'.obj,_,O'.ns,fun g=>?_,fun g hg=>?_⟩
  . have:=pj f y fs;omega
  . show gF ((gH f y fs).lookup g) (if g=f then some u else mA g);rw[ph];by_cases q:g=f
    . rw[VP q,VP q];exact ry
    . rw[VQ q,VQ q];exact r g
  . by_cases q:g=f
    . rw[q];exact(nj f y fs).1
    . refine(nj f y fs).2 g (wi g fun z=>hg ?_);show(if g=f then some u else mA g)=none
      rw[VQ q];exact z
theorem Inv.made(I:Inv X pins σ H s):Inv X pins σ (upd (upd H s.heap.objs.size (.own (s.heap.objs.size+1))) (s.heap.objs.size+1) (.ins C s.heap.objs.size []))
    { s with heap:=(s.heap.push PySem.W.emptyDict).push (PySem.W.instObj C s.heap.objs.size) }:=by
  have e1:(s.heap.push PySem.W.emptyDict).get? s.heap.objs.size=some PySem.W.emptyDict:=Wi s.heap rfl;have e2:((s.heap.push PySem.W.emptyDict).push (PySem.W.instObj C s.heap.objs.size)).get? (s.heap.objs.size+1)=some (PySem.W.instObj C s.heap.objs.size):=by
    have:=Wi (s.heap.push PySem.W.emptyDict) (o:=PySem.W.instObj C s.heap.objs.size) rfl
    rwa [Yq]at this
  have e3:(s.heap.push PySem.W.emptyDict).Ns s.heap.objs.size (fun _=>none):=⟨PySem.W.emptyDict,#[],_,e1,rfl,(fun e he=>absurd he (by simp)),fun _=>rfl⟩;have I1:=I.laid (a:=s.heap.objs.size) (o:=.own (s.heap.objs.size+1)) (h':=s.heap.push PySem.W.emptyDict) (t':=s.toks) (fun b u q=>VW _ q) (VU _) ⟨_,e1⟩
  refine I1.laid (a:=s.heap.objs.size+1) (o:=.ins C s.heap.objs.size []) (t':=s.toks) (fun b u q=>VW _ q) (Nat.le_of_eq (Yq _ _)) ?_;have ne:s.heap.objs.size≠s.heap.objs.size+1:=Wz (XW _)
  refine⟨by rw[a7 ne,bp],Xp _,ne,e2,fun _=>none,(Heap.Ns1.of_empty e3).at fun o q=>VW _ q,fun _=>True.intro,fun y hy=>absurd rfl hy⟩
theorem Gr{prog:Program}{w:World}{env:Env}{e:Expr}{f:Str}{pos:Pos}{s:Shared}{Q:Value->Shared->Prop}(hb:attributeBase e f env (eval e env)=eval e env)
    (h:wpAny (model prog w) A (eval e env) (fun o s₁=>wpAny (model prog w) A (getAttr o f true) Q E s₁) E s):wpAny (model prog w) A (eval (.Attribute e f pos) env) Q E s :=
  Attribute_any_ h (by rw[arm_eval_Attribute,hb])
end
structure bH(k:Nat)(A:Around):Prop where
  hd:A.handled=none
  dp:A.depth+3*k+5<recursionLimit
  un:A.units+16*k+200<cLine
theorem bH.mono{j k:Nat}{A:Around}(r:bH k A)(h:j<=k):bH j A:=⟨r.hd,by have:=r.dp;omega,by have:=r.un;omega⟩
theorem bH.deeper{k:Nat}{A:Around}(r:bH (k+1) A)(env:Env):bH k (A.deeper env) :=
  ⟨r.hd,by have:=r.dp;show A.depth+1+3*k+5<_;omega,by have:=r.un;show A.units+3+16*k+200<_;omega⟩
theorem bH.in1{k:Nat}{A:Around}(r:bH (k+1) A):bH k A.in1 :=
  ⟨r.hd,by have:=r.dp;show A.depth+3*k+5<_;omega,by have:=r.un;show A.units+1+16*k+200<_;omega⟩
theorem yx{A:Around}{C:Addr}{us:List Value}{kw:List (Str×Value)}:(A.under (.builtin "type.__call__" ⟨.ref C::us,kw⟩)).depth=A.depth+1:=by
  first | rfl | simp[Around.under,Code.weight,Code.isCreation,Code.isGuard,Code.isCaller,Code.frames,Code.isFrame,guardIds]
theorem yy{A:Around}{C:Addr}{us:List Value}{kw:List (Str×Value)}:(A.under (.builtin "type.__call__" ⟨.ref C::us,kw⟩)).units=A.units+1:=by
  first | rfl | simp[Around.under,Code.cUnits,Code.frames,Code.isFrame]
theorem bH.make{k:Nat}{A:Around}(r:bH (k+1) A)(C:Addr)(us:List Value)(kw:List (Str×Value)):bH k (A.under (.builtin "type.__call__" ⟨.ref C::us,kw⟩)) :=
  ⟨r.hd,by have:=r.dp;rw[yx];omega,by have:=r.un;rw[yy];omega⟩
theorem bH.depth{k:Nat}{A:Around}(r:bH k A):A.depth<recursionLimit:=by have:=r.dp;omega
theorem bH.units{k:Nat}{A:Around}(r:bH k A):A.units+64<cLine:=by have:=r.un;omega
abbrev Sp:=List V->Hp->VK->XK->Prop
abbrev pq:=List Env->Hp->Shared->XK->Value->Shared->Prop
structure ly(P:Program)(w:World)(K:PySem.W.Frag)(mg:Str->Option Value)(base:Heap)(A:Around)(outer:List Env)(s:Shared)(H:Hp):Prop where
  frames:A.frames=some outer
  mod:Mod K mg base
  bs:∀ b o,base.get? b=some o->s.heap.get? b=some o/\H b=none
  lK:base.objs.size<=s.heap.objs.size
  gZ:s.heap.FunFrames base outer
  oW:∀ b∈fM outer,H b=none
  bh:eL P w H s.heap
  bare:AllBare s.gens
def CE(outer:List Env)(P:Program)(w:World)(H:Hp)(s:Shared)(Q:VK)(u:Value)(s':Shared):Prop :=
  ∃ v H',s'.os=s.os/\AllBare s'.gens/\Un (fM outer) [] H H' s.heap s'.heap/\eL P w H' s'.heap/\RelV v u/\Q v H'
def CR(CX:pq)(outer:List Env)(P:Program)(w:World)(H:Hp)(s:Shared)(Q:VK)(E:XK)(r:Result)(s':Shared):Prop :=
  match r with
  | .ok (.ret u)=>CE outer P w H s Q u s'
  | .ok _=>False
  | .error e=>CX outer H s E e s'
structure d9(P:Program)(w:World)(K:PySem.W.Frag)(mg:Str->Option Value)(base:Heap)(CX:pq)(k:Nat)(f:Addr)(fd:FuncData)(ps:List Str)(sp:Sp):Prop where
  len:∀ vs H Q E,sp vs H Q E->vs.length=ps.length
  run:∀(A:Around)(outer:List Env)(s:Shared)(H:Hp)(args:Args)(us:List Value)(vs:List V)(Q:VK)(E:XK),bH k A->ly P w K mg base A outer s H->BindsTo s fd args (ps.zip us)->Vals vs us->sp vs H Q E ->
    codeAny (model P w) A (.call (.ref f) args) (CR CX outer P w H s Q E) s
theorem d9.mono{P:Program}{w:World}{K:PySem.W.Frag}{mg:Str->Option Value}{base:Heap}{CX:pq}{j k:Nat}{f:Addr}{fd:FuncData}{ps:List Str}{sp:Sp}(F:d9 P w K mg base CX j f fd ps sp)(h:j<=k) :
    d9 P w K mg base CX k f fd ps sp:=⟨F.len,fun A outer s H args us vs Q E hr=>F.run A outer s H args us vs Q E (hr.mono h)⟩
theorem d9.imp{P:Program}{w:World}{K:PySem.W.Frag}{mg:Str->Option Value}{base:Heap}{CX:pq}{k:Nat}{f:Addr}{fd:FuncData}{ps:List Str}{sp M4:Sp}(F:d9 P w K mg base CX k f fd ps sp)
    (h:∀ vs H Q E,M4 vs H Q E->sp vs H Q E):d9 P w K mg base CX k f fd ps M4 :=
  ⟨fun vs H Q E q=>F.len vs H Q E (h _ _ _ _ q),fun A outer s H args us vs Q E hr he hb hv hs=>F.run A outer s H args us vs Q E hr he hb hv (h _ _ _ _ hs)⟩
theorem ly.make{P:Program}{w:World}{K:PySem.W.Frag}{mg:Str->Option Value}{base:Heap}{A:Around}{outer:List Env}{s:Shared}{H:Hp}(e:ly P w K mg base A outer s H)(C:Addr)(us:List Value)(kw:List (Str×Value)) :
    ly P w K mg base (A.under (.builtin "type.__call__" ⟨.ref C::us,kw⟩)) outer s H:=⟨by first | exact e.frames | (simpa [Around.under,Code.envs,Code.isFrame,pushEnvs]using e.frames),e.mod,e.bs,e.lK,e.gZ,e.oW,e.bh,e.bare⟩
theorem ly.in1{P:Program}{w:World}{K:PySem.W.Frag}{mg:Str->Option Value}{base:Heap}{A:Around}{outer:List Env}{s:Shared}{H:Hp}(e:ly P w K mg base A outer s H) :
    ly P w K mg base A.in1 outer s H:=⟨e.frames,e.mod,e.bs,e.lK,e.gZ,e.oW,e.bh,e.bare⟩
section
variable {X:Cx}{pins:List (Addr×Obj)}{σ:St}{H:Hp}{s s':Shared}
theorem Inv.pO(I:Inv X pins σ H s):ly X.prog X.w X.K X.mg X.base X.A X.stack s H :=
  ⟨I.ok.frames,I.ok.mod,I.bs,Wh I.ok.lK I.sz,I.stack,I.oz,I.bh,I.bare⟩
theorem Inv.after{Q:VK}{u:Value}(I:Inv X pins σ H s)(h:CE X.stack X.prog X.w H s Q u s'):EP X pins σ Q u s':=by
  obtain⟨v,H',os,bare,un,bh,r,q⟩:=h;obtain⟨hh,g,d,t,QX⟩:=s';obtain rfl:QX=s.os:=os;exact⟨v,H',I.call (h':=hh) (g':=g) (d':=d) (t':=t) (ch:=[]) un bh bare (fun b z=>absurd z (by simp)),r,q⟩
end
def Binds(K:PySem.W.Frag)(fd:FuncData)(ps:List Str)(ds:List Value):Prop :=
  ∀(s:Shared)(us:List Value),K.In s.heap->(us++ds).length=ps.length->BindsTo s fd ⟨us,[]⟩ (ps.zip (us++ds))
theorem Binds.all{K:PySem.W.Frag}{fd:FuncData}{ps:List Str}(h:∀ us:List Value,us.length=ps.length->bindArgs fd ⟨us,[]⟩=pure (ps.zip us)):Binds K fd ps []:=fun s us _ hl=>by
  rw[Wj]at hl ⊢;exact .of_eq (h us hl)
section
variable {X:Cx}{CX:pq}{k:Nat}{f C:Addr}{fd:FuncData}{ps:List Str}{sp:Sp}{sH:List V}{ds:List Value}{E:XK}{x m:Str}{p pos apos:Pos}{e o:Expr}{es:List Expr}{ta:TE}{t:TA}
structure Mk(K:PySem.W.Frag)(C f:Addr):Prop where
  makes:PySem.W.makesIn K C=true
  init:PySem.W.findIn K (.ref C) "__init__"=some (some (.ref f))
  fn:PySem.W.isFn K (.ref f)=true
  kp:PySem.W.keepIn K (.ref C)=true
end
structure eo(N P:List Str)(sc:Scope):Prop where
  kind:sc.kind=.function
  co:sc.isCoroutine=false
  gen:sc.isGenerator=false
  nd:N.Nodup
  pre:N.take P.length=P
  par:∀ x∈P,sc.names.lookup x=some .local\/sc.names.lookup x=some .cell
  Ic:∀ y∈sc.names,y.2≠.free
theorem sI{kindOf:Str->Option NameKind}{x:Str}:∀{binds:List (Str×Value)}{m:Str->Option Value},(∀ v,(x,v) ∉ binds)->bindL kindOf binds m x=m x
  | [],_,_=>rfl
  | (n,v)::r,m,h=>by
    unfold bindL;rw[sI fun w hw=>h w (V6 _ hw)];split
    . have:x≠n:=by rintro rfl;exact h v Wf
      simp[this]
    . rfl
theorem sJ{kindOf:Str->Option NameKind}{x:Str}:∀{binds:List (Str×Value)}{m:Str->Option Value},(∀ v,(x,v) ∉ binds)->bindC kindOf binds m x=m x
  | [],_,_=>rfl
  | (n,v)::r,m,h=>by
    unfold bindC;rw[sJ fun w hw=>h w (V6 _ hw)];split
    . rfl
    . have:x≠n:=by rintro rfl;exact h v Wf
      simp[this]
theorem sL{kindOf:Str->Option NameKind}{x:Str}{v:Value}:∀{P:List Str}{vs:List Value}{i:Nat}{m:Str->Option Value},P.Nodup->P[i]?=some x->vs[i]?=some v->kindOf x=some .local ->
    bindL kindOf (P.zip vs) m x=some v
  | [],_,_,_,_,h,_,_=>by simp at h
  | _::_,[],_,_,_,_,h,_=>by simp at h
  | p::P,w::vs,0,m,nd,h1,h2,hk=>by
    simp at h1 h2;subst h1;subst h2;show bindL kindOf ((p,w)::P.zip vs) m p=_
    unfold bindL;rw[sI fun v hv=>(W3.mp nd).1 (ZD hv).1,VP hk];simp
  | p::P,w::vs,i+1,m,nd,h1,h2,hk=>by
    show bindL kindOf ((p,w)::P.zip vs) m x=_;unfold bindL;exact sL (i:=i) (W3.mp nd).2 (by simpa using h1) (by simpa using h2) hk
theorem sM{kindOf:Str->Option NameKind}{x:Str}{v:Value}:∀{P:List Str}{vs:List Value}{i:Nat}{m:Str->Option Value},P.Nodup->P[i]?=some x->vs[i]?=some v->kindOf x≠some .local ->
    bindC kindOf (P.zip vs) m x=some v
  | [],_,_,_,_,h,_,_=>by simp at h
  | _::_,[],_,_,_,_,h,_=>by simp at h
  | p::P,w::vs,0,m,nd,h1,h2,hk=>by
    simp at h1 h2;subst h1;subst h2;show bindC kindOf ((p,w)::P.zip vs) m p=_
    unfold bindC;rw[sJ fun v hv=>(W3.mp nd).1 (ZD hv).1,VQ hk];simp
  | p::P,w::vs,i+1,m,nd,h1,h2,hk=>by
    show bindC kindOf ((p,w)::P.zip vs) m x=_;unfold bindC;exact sM (i:=i) (W3.mp nd).2 (by simpa using h1) (by simpa using h2) hk
noncomputable def start(N:List Str)(vs:List V):St:=vs.map some++List.replicate (N.length - vs.length) none
noncomputable def rV(CX:pq)(P:Program)(w:World)(K:PySem.W.Frag)(mg:Str->Option Value)(base:Heap)(N:List Str)(qual:Str)(scope:Scope)(f:Addr)(cd:Value)(A:Around)(outer:List Env)(s:Shared)(H:Hp)(E:XK):Cx where
  prog:=P
  w:=w
  K:=K
  mg:=mg
  base:=base
  A:=A.deeper (envOfC qual scope s.heap.objs.size f cd)
  N:=N
  s₀:=s
  H₀:=H
  env:=envOfC qual scope s.heap.objs.size f cd
  outer:=outer
  stack:=envOfC qual scope s.heap.objs.size f cd::outer
  ex:=[]
  calm:=true
  fn:=fun _=>true
  pn:=[]
  xe:=fun e s'=>wpAny (model P w) (A.deeper (envOfC qual scope s.heap.objs.size f cd)) (leaving (envOfC qual scope s.heap.objs.size f cd) e) (fun _ Ie=>CX outer H s E e Ie) (fun e' Ie=>CX outer H s E e' Ie) s'
theorem uH{sc:Scope}{n:Nat}{x:Str}(h:sc.names.lookup x=some .cell):∃ c,(cellsFrom n sc.names []).lookup x=some c:=by
  have q:=ZH sc.names n [] (.inl h);exact Zi.mp q
theorem Az{CX:pq}{P:Program}{w:World}{K:PySem.W.Frag}{mg:Str->Option Value}{base:Heap}{N ps:List Str}{qual:Str}{scope:Scope}{f:Addr}{cd:Value}{A:Around}{outer:List Env}{s s1:Shared}{H:Hp}{E:XK}{us:List Value}{vs:List V}
    (S:eo N ps scope) (hd:A.handled=none) (e0:ly P w K mg base A outer s H) (hl:vs.length=ps.length) (r:Vals vs us)
    (x:InCallC s s.heap.objs.size (bindL (envOfC qual scope s.heap.objs.size f cd).kindOf (ps.zip us) fun _=>none) (cellsFrom (s.heap.objs.size+1) scope.names []) (bindC (envOfC qual scope s.heap.objs.size f cd).kindOf (ps.zip us) fun _=>none) s1) :
    Inv (rV CX P w K mg base N qual scope f cd A outer s H E) [] (start N vs) H s1:=by
  have dD:ps.length<=N.length:=by have:=Xq List.length S.pre;rw[Zj]at this;omega
  obtain⟨h1,tk,rfl,hk⟩:=x.done;have AA:∀ b:Addr,b ∉ (rV CX P w K mg base N qual scope f cd A outer s H E).ex:=fun b z=>absurd (show b∈([]:List Addr) from z) (by simp)
  refine⟨⟨e0.mod,S.kind,rfl,rfl,VU _,fun y z c h1 h2=>?_,fun y hy=>?_,fun y c _ h=>?_,fun _=>hd,Around.frames_deeper e0.frames,.inr ⟨rfl,rfl⟩,fun b z=>absurd z (AA b),e0.bs,e0.lK,fun b _ _=>AA b,fun b z=>absurd z (AA b),e0.gZ,e0.oW⟩,
    rfl,e0.bare,Un.kept hk,⟨_,x.toInCall.ns,fun i y v h1 h2 h3=>?_⟩,fun y c h=>⟨_,x.cell y c h⟩,e0.bh.fresh (VU _),fun y c h=>?_,fun p hp=>absurd (show p∈([]:List (Addr×Obj)) from hp) (by simp),e0.bh.kept hk,?_⟩
  . exact name_of_addr x.apart (XY h1) (XY h2)
  . have hy:scope.names.lookup y=some .cell\/scope.names.lookup y=some .free:=hy;rcases hy with hy | hy
    . exact uH hy
    . exact absurd rfl (S.Ic _ (XY hy))
  . exact aaY (x.above y c (XY h))
  . have hi:i<vs.length:=by
      unfold start at h2;by_cases hi:i<vs.length
      . exact hi
      . rw[Wm (by simpa using hi)]at h2;rw[Ys]at h2;split at h2<;>cases h2
    have ha:vs[i]?=some v:=by
      unfold start at h2;rw[Wb (by simpa using hi),Wt]at h2;cases e:vs[i]? with
      | none=>rw[e]at h2;cases h2
      | some a=>rw[e]at h2;cases h2;rfl
    obtain⟨u,hu,rv⟩:=r.get ha;have hp:ps[i]?=some y:=by
      rw[<- S.pre,Zk (by omega)];exact h1
    have M5:ps.Nodup:=by rw[<- S.pre];exact S.nd.sublist (List.take_sublist _ _)
    refine⟨u,rv,?_⟩;rcases S.par y (XR hp)with k | k
    . exact .inl ⟨k,sL M5 hp hu k⟩
    . obtain⟨c,e⟩:=uH (n:=s.heap.objs.size+1) k;refine .inr ⟨.inl k,c,e,?_⟩;have q:=x.cell y c e
      rw[sM M5 hp hu (by show scope.names.lookup y≠_;rw[k];decide)]at q;exact q
  . exact e0.bh.fresh (aaY (x.above y c (XY h)))
  . unfold start;show _=N.length
    rw[VV,V5,List.length_replicate];omega
theorem yz{CX:pq}{P:Program}{w:World}{K:PySem.W.Frag}{mg:Str->Option Value}{base:Heap}{k:Nat}{f:Addr}{name qual:Str}{params:Arguments}{body:List Stmt}{scope:Scope}{dV kV doc pm aK ct oc:Value}{an od:Option Addr}
    {eQ:Array (Option Value)}{N ps:List Str}{sp:Sp} (lk:K.lookup f=some ⟨oc,od,.func (PySem.W.fnOf name qual params body scope dV kV doc pm an aK ct),eQ⟩) (cU:PySem.W.codeIn K aK qual=true) (S:eo N ps scope)
    (len:∀ vs H Q E,sp vs H Q E->vs.length=ps.length)
    (dA:∀(A:Around)(outer:List Env)(s:Shared)(H:Hp)(vs:List V)(Q:VK)(E:XK),bH k (A.deeper (envOfC qual scope s.heap.objs.size f aK))->sp vs H Q E ->
      ∃ t,QR (rV CX P w K mg base N qual scope f aK A outer s H E) body t/\t { nx:=fun _ H'=>Q .aU H',rt:=Q } (start N vs) H) :
    d9 P w K mg base CX (k+1) f (PySem.W.fnOf name qual params body scope dV kV doc pm an aK ct) ps sp:=by
  refine⟨len,fun A outer s H args us vs Q E hr e0 hb r gy=>?_⟩;have hl:=len _ _ _ _ gy
  have KX:K.In s.heap:=e0.mod.mM.keeps fun b o e=>(e0.bs b o e).1;have lim:s.heap.NoLimit:=e0.mod.nolimit.keeps fun b o e=>(e0.bs b o e).1
  have LQ:∀ y∈ps.zip us,scope.names.lookup y.1=some .local\/(scope.names.lookup y.1=some .cell/\((cellsFrom (s.heap.objs.size+1) scope.names []).lookup y.1).isSome=true):=fun⟨n,v⟩ hy=>by
    rcases S.par n (ZD hy).1 with q | q
    . exact .inl q
    . exact .inr ⟨q,ZH _ _ _ (.inl q)⟩
  refine codeAny_call_function hr.depth (KX _ _ lk) rfl S.co S.gen rfl (PySem.W.codeRec_of KX cU) (hb _ _ _ _ ?_);refine wpAny_newFunctionEnv_cells S.kind LQ fun env he s1 x=>?_;subst he;refine⟨lim.keeps x.toInCall.keep,codeAny_func ?_⟩;obtain⟨t,ht,hq⟩:=dA A outer s H vs Q E (hr.deeper _) gy;have I:Inv (rV CX P w K mg base N qual scope f aK A outer s H E) [] (start N vs) H s1:=Az S hr.hd e0 hl r x
  refine VN (ht [] s1 (start N vs) H _ I hq) (fun fl s' hs=>?_) fun e s' hs=>hs;have fin:∀{σ':St}{H':Hp}{v:V}{u:Value},Inv (rV CX P w K mg base N qual scope f aK A outer s H E) [] σ' H' s'->RelV v u->Q v H'->CE outer P w H s Q u s' :=
    fun{σ' H' v u} J rv q=>⟨v,H',J.os,J.bare,J.base,J.bh,rv,q⟩
  cases fl with
  | ret u =>
    obtain⟨v,σ',H',J,rv,q⟩:=hs;exact fin J rv q
  | next =>
    obtain⟨σ',H',J,q⟩:=hs;exact fin (v:=V.aU) (u:=Value.none) J rfl q
  | brk =>
    obtain⟨_,_,_,q⟩:=hs;exact False.elim q
  | cont =>
    obtain⟨_,_,_,q⟩:=hs;exact False.elim q
end L2
namespace HT
open PySem PyProof.Rows
section
variable {prog:Program}{w:World}{A:Around}{E:Value->Shared->Prop}{s:Shared}
theorem Gs{t b:Addr}{vs ws:List Value}{Q:Value->Shared->Prop}(ht:IsTup s.heap t vs.toArray)(hb:IsTup s.heap b ws.toArray)(hv:vs≠[])
    (h1:ws=[]->Q (.ref t) s) (h2:ws≠[]->Q (.ref s.heap.objs.size) { s with heap:=s.heap.push { cls:=.type "tuple",data:=.seq (vs++ws).toArray } })
    (hsz:vs.length+ws.length<=sizeLine):wpAny (model prog w) A (binaryOp .Add (.ref t) (.ref b)) Q E s:=by
  obtain⟨⟨cls,dd,data,sl⟩,ho,hc,n,hd⟩:=id ht;obtain⟨⟨PF,EF,data2,EG⟩,nr,AB,n2,hd2⟩:=id hb;simp only at hc hd AB hd2;subst hc hd AB hd2;have e:vs.toArray++ws.toArray=(vs++ws).toArray:=by simp
  by_cases hw:ws=[]
  . exact concat_meets ⟨_,ho,rfl⟩ ⟨_,nr,rfl⟩ noFill_tuple_add seq_tuple_add ZI Zy (Zl _ _)
      (tuple_addW1 t b vs.toArray ws.toArray n n2 dd EF sl EG (by simpa using hv) (by simp[hw])) ⟨ho,nr,h1 hw⟩
  . refine concat_meets ⟨_,ho,rfl⟩ ⟨_,nr,rfl⟩ noFill_tuple_add seq_tuple_add ZI Zy (Zl _ _)
      (tuple_addW2 t b vs.toArray ws.toArray n n2 dd EF sl EG (by simpa using hv) (by simpa using hw) (by rw[Wl,Wl];exact hsz)) ⟨ho,nr,?_⟩
    rw[e];exact h2 hw
noncomputable def kg(n d:Nat):Option Int->Nat
  | none=>d
  | some v=>if v<0 then (v+(n:Int)).toNat else min v.toNat n
end
end HT
namespace L2
open PySem PySem.Spec PyProof.Rows
abbrev TO:=St->Hp->(Option Int->Hp->Prop)->Prop
section
variable {X:Cx}{e:Expr}{te:TE}{lo hi:Option Expr}{tl th:TO}{pos p2:Pos}
def QY(X:Cx)(r:V->Option Int->Option Int->Hp->VK->Prop):Prop :=
  ∀(pins:List (Addr×Obj))(s:Shared)(σ:St)(H:Hp)(x:V)(v vl vu:Value)(lo hi:Option Int)(sl:Addr)(Q:VK),Inv X pins σ H s->RelV x v->s.heap.IsSliceOf sl vl vu .none->IsPart vl lo->IsPart vu hi->r x lo hi H Q ->
    ∃ T id,typeLookup (.type T) "__getitem__"=pure (some (.builtin id))/\s.TypeIs v T/\wpAny (model X.prog X.w) X.A (getItem v (.ref sl)) (EP X pins σ Q) X.xe s
noncomputable def rW(xs:List V)(lo hi:Option Int):List V:=(xs.drop (HT.kg xs.length 0 lo)).take (HT.kg xs.length xs.length hi - HT.kg xs.length 0 lo)
theorem wt(xs:List V)(lo hi:Option Int):(rW xs lo hi).length<=xs.length:=by
  unfold rW;rw[Zj,Yz];omega
end
noncomputable def wQ(n:Nat)(i:Int):Option Nat:=if 0<=i then (if i<n then some i.toNat else none) else if -(n:Int)<=i then some (i+n).toNat else none
noncomputable def sN{α:Type}(xs:List α)(i:Int):Option α:=(wQ xs.length i).bind fun j=>xs[j]?
theorem Gu{n:Nat}{i:Int}{j:Nat}(h:wQ n i=some j):seqIndex? i n=some j/\j<n/\-(n:Int)<=i/\i<n:=by
  unfold wQ at h;by_cases h0:0<=i
  . rw[VP h0]at h;by_cases h1:i<n
    . rw[VP h1]at h;have e:i.toNat=j:=WL h
      exact⟨by rw[seqIndex_of h0 h1,e],by omega,by omega,h1⟩
    . rw[VQ h1]at h;cases h
  . rw[VQ h0]at h;by_cases h1 : -(n:Int)<=i
    . rw[VP h1]at h;have e:(i+n).toNat=j:=WL h
      exact⟨by rw[seqIndex_neg (by omega) h1,e],by omega,h1,by omega⟩
    . rw[VQ h1]at h;cases h
theorem rX{α:Type}{xs:List α}{i:Int}{v:α}(h:sN xs i=some v):∃ j,seqIndex? i xs.length=some j/\xs[j]?=some v/\j<xs.length/\-(xs.length:Int)<=i/\i<xs.length:=by
  unfold sN at h;cases e:wQ xs.length i with
  | none=>rw[e]at h;cases h
  | some j =>
    rw[e]at h;obtain⟨h1,h2,h3,h4⟩:=Gu e;exact⟨j,h1,h,h2,h3,h4⟩
def Gv(b:Expr):Prop:=∀ o i,subscripted b false o i=operate [o,i] (getItem o i)
def Ig(X:Cx)(r:R2):Prop :=
  ∀(value slice:Expr)(pins:List (Addr×Obj))(s:Shared)(σ:St)(H:Hp)(x y:V)(v u:Value)(Q:VK),Inv X pins σ H s->RelV x v->RelV y u->r x y H Q ->
    subscripted slice false v u=operate [v,u] (getItem v u)->wpAny (model X.prog X.w) X.A (subscriptTail value slice v u) (EP X pins σ Q) X.xe s
section
variable {X:Cx}{a b:Expr}{ta tb:TE}{pos:Pos}
def PG(K:PySem.W.Frag):R2:=fun x y H Q=>∃ p xs i v,x=.ref p/\y=.int i/\fV K H p xs/\sN xs i=some v/\Q v H
def PH(K:PySem.W.Frag):R2:=fun x y H Q=>∃ p xs i v,x=.ref p/\y=.int i/\iG K H p xs/\sN xs i=some v/\Q v H
def PI:R2:=fun x y H Q=>∃ z i c,x=.str z/\y=.int i/\z.length<=sizeLine/\sN z.cps.toList i=some c/\Q (.str ⟨#[c]⟩) H
theorem Gw:Ig X (PG X.K):=by
  intro value slice pins s σ H x y v u Q I rx ry h hs;obtain⟨p,xs,i,z,rfl,rfl,hq,he,q⟩:=h;cases rx;obtain⟨t,rfl⟩:=ry;obtain⟨its,r,pl,hz⟩:=I.list hq;obtain⟨j,h1,h2,h3,h4,h5⟩:=rX he;obtain⟨w,ew,kh⟩:=r.get h2;have hl:=r.length
  have hn:=ni;have fin:EP X pins σ Q w s:=⟨z,H,I,kh,q⟩
  by_cases h0:0<=i
  . have hj:i.toNat=j:=by
      rw[seqIndex_of h0 h5]at h1;exact WL h1
    exact item_listR pl.isList h0 (by omega) (by rw[hj];simpa using ew) fin hs
  . have hj:(i+(its.toArray.size:Int)).toNat=j:=by
      rw[seqIndex_neg (by omega) h4]at h1;rw[Wl,<- hl];exact WL h1
    exact subscriptTail_builtinR (x:=w) pl.isList.typeIs slot_list_getitem.lookup
      (wpAny_getItem_list_neg (Q:=fun r s'=>r=w/\EP X pins σ Q r s') pl.isList (by omega) (by rw[Wl]<;>omega) (by omega) (by rw[hj];simpa using ew) ⟨rfl,fin⟩) hs
theorem Ih:Ig X (PH X.K):=by
  intro value slice pins s σ H x y v u Q I rx ry h hs;obtain⟨p,xs,i,z,rfl,rfl,hq,he,q⟩:=h;cases rx;obtain⟨t,rfl⟩:=ry;obtain⟨its,r,pl,hz⟩:=I.tuple hq;obtain⟨j,h1,h2,h3,h4,h5⟩:=rX he;obtain⟨w,ew,kh⟩:=r.get h2;have hl:=r.length
  have hn:=ni;have fin:EP X pins σ Q w s:=⟨z,H,I,kh,q⟩
  exact subscriptTail_builtinR (x:=w) pl.typeIs slot_tuple_getitem.lookup
    (getItem_tuple (j:=j) (Q:=fun r s'=>r=w/\EP X pins σ Q r s') pl (by omega) (by omega) (by rw[Wl,<- hl];exact h1) (by simpa using ew) ⟨rfl,fin⟩) hs
theorem Ii:Ig X PI:=by
  intro value slice pins s σ H x y v u Q I rx ry h hs;obtain⟨z,i,c,rfl,rfl,hz,he,q⟩:=h;obtain⟨t,rfl⟩:=rx;obtain⟨t',rfl⟩:=ry;obtain⟨j,h1,h2,h3,h4,h5⟩:=rX he;have hl:z.cps.toList.length=z.length:=by simp[Str.length]
  rw[hl]at h1 h4 h5;have hn:=ni
  exact tail_any (Yc s z t) slot_str_getitem.lookup (getItem_str (c:=c) (by
    have e1:decide (i < -(2 ^ 63:Int))=false:=V3 (by omega);have e2:decide (i ≥ 2 ^ 63)=false:=V3 (by omega)
    rw[e1,e2,Yx]) (by rw[h1];simpa using h2) ⟨.str ⟨#[c]⟩,H,I.tok _,⟨_,rfl⟩,q⟩) hs
theorem Inv.lst{pins:List (Addr×Obj)}{σ:St}{H:Hp}{s:Shared}{p:Addr}{xs:List V}(I:Inv X pins σ H s)(h:H p=some (.lst xs)) :
    ∃(its:List Value)(n:Nat),Vals xs its/\s.heap.get? p=some { cls:=.type "list",data:=.seq its.toArray n }/\xs.length<=sizeLine:=by
  obtain⟨z,its,n,r,e⟩:=I.bh p _ h;exact⟨its,n,r,e,z⟩
theorem uI(lo hi:Option Int)(n:Nat):(sliceBounds lo hi none n).1=((HT.kg n 0 lo:Nat):Int)/\(sliceBounds lo hi none n).2.1=((HT.kg n n hi:Nat):Int)/\(sliceBounds lo hi none n).2.2=1:=by
  refine⟨?_,?_,rfl⟩
  . cases lo with
    | none=>simp[sliceBounds,HT.kg]
    | some i =>
      simp only[sliceBounds,HT.kg,Zm,show(1:Int)>0 by decide,W2]
      by_cases h:i<0
      . simp only[h,W2]<;>omega
      . simp only[h,Xr]<;>omega
  . cases hi with
    | none=>simp[sliceBounds,HT.kg]
    | some i =>
      simp only[sliceBounds,HT.kg,Zm,show(1:Int)>0 by decide,W2]
      by_cases h:i<0
      . simp only[h,W2]<;>omega
      . simp only[h,Xr]<;>omega
theorem tX(its:List Value)(lo hi:Option Int):slicePick its.toArray lo hi none=((its.drop (HT.kg its.length 0 lo)).take (HT.kg its.length its.length hi - HT.kg its.length 0 lo)).toArray:=by
  obtain⟨h1,h2,h3⟩:=uI lo hi its.toArray.size;unfold slicePick;rw[h1,h2,h3];simp only[sliceRange_one,pick_run,Wl]<;>rfl
def PJ(K:PySem.W.Frag):V->Option Int->Option Int->Hp->VK->Prop:=fun x lo hi H Q=>∃ a xs,x=.ref a/\fV K H a xs/\∀ p,H p=none->Q (.ref p) (upd H p (.lst (rW xs lo hi)))
theorem Gx:QY X (PJ X.K):=by
  intro pins s σ H x v vl vu lo hi sl Q I rx hs pl pu h;obtain⟨a,xs,rfl,hx,q⟩:=h;cases rx;obtain⟨its,r,ht,hz⟩:=I.list hx;have hlen:=r.length
  refine⟨"list",_,slot_list_getitem.lookup,ht.isList.typeIs,?_⟩;refine wpAny_getItem_list_slice ht.isList hs pl pu .none (by simp) ?_ (by rw[Wl]<;>omega)
  rw[tX,<- hlen];refine⟨.ref s.heap.objs.size,_,I.laid (t':=s.toks) (o:=.lst (rW xs lo hi)) (fun b ob q=>VW _ q) (VU _) ?_,rfl,q _ (I.bh.fresh (VU _))⟩;exact⟨Wh (wt xs lo hi) hz,_,0,(r.drop (HT.kg xs.length 0 lo)).take (HT.kg xs.length xs.length hi - HT.kg xs.length 0 lo),Wi _ rfl⟩
noncomputable def jq:V->Bool
  | .aU=>true
  | .bl _=>true
  | .int _=>true
  | .str _=>true
  | _=>false
noncomputable def pz:V->V->Bool
  | .aU,.aU=>true
  | .bl a,.bl b=>a == b
  | .bl a,.int b=>(if a then 1 else 0) == b
  | .int a,.bl b=>a ==(if b then 1 else 0)
  | .int a,.int b=>a == b
  | .str a,.str b=>a == b
  | _,_=>false
theorem Ij{A:Around}{s:Shared}{y x:V}{u v:Value}(ry:RelV y u)(rx:RelV x v)(fy:jq y=true)(fx:jq x=true):SeqAt.EqAt A s u v (pz y x):=by
  cases y with
  | aU =>
    cases ry;cases x with
    | aU=>cases rx;exact Yj _
    | bl b=>cases rx;exact YE b
    | int b=>obtain⟨t,rfl⟩:=rx;exact YQ b t
    | str b=>obtain⟨t,rfl⟩:=rx;exact YR b t
    | _=>exact absurd (show false=true from fx) W5
  | bl a =>
    cases ry;cases x with
    | aU=>cases rx;exact YF a
    | bl b=>cases rx;exact YG a b
    | int b=>obtain⟨t,rfl⟩:=rx;exact YS a b t
    | str b=>obtain⟨t,rfl⟩:=rx;exact YT a b t
    | _=>exact absurd (show false=true from fx) W5
  | int a =>
    obtain⟨t',rfl⟩:=ry;cases x with
    | aU=>cases rx;exact YU a t'
    | bl b=>cases rx;exact YV a t' b
    | int b=>obtain⟨t,rfl⟩:=rx;exact Y4 a t' b t
    | str b=>obtain⟨t,rfl⟩:=rx;exact Ym a t' b t
    | _=>exact absurd (show false=true from fx) W5
  | str a =>
    obtain⟨t',rfl⟩:=ry;cases x with
    | aU=>cases rx;exact YW a t'
    | bl b=>cases rx;exact YX a t' b
    | int b=>obtain⟨t,rfl⟩:=rx;exact Yn a t' b t
    | str b=>obtain⟨t,rfl⟩:=rx;exact Y5 a t' b t
    | _=>exact absurd (show false=true from fx) W5
  | _=>exact absurd (show false=true from fy) W5
noncomputable def qD(x:V)(u:Value):Bool:=match u with
  | .none=>pz .aU x
  | .bool b=>pz (.bl b) x
  | .int i _=>pz (.int i) x
  | .str z _=>pz (.str z) x
  | _=>false
theorem AD{x y:V}{u:Value}(r:RelV y u)(f:jq y=true):qD x u=pz y x:=by
  cases y with
  | aU=>cases r;rfl
  | bl b=>cases r;rfl
  | int i=>obtain⟨t,rfl⟩:=r;rfl
  | str z=>obtain⟨t,rfl⟩:=r;rfl
  | _=>exact absurd (show false=true from f) W5
theorem rY{x:V}:∀{xs:List V}{us:List Value},Vals xs us->xs.all jq=true->us.any (qD x)=xs.any fun y=>pz y x
  | _,_,.nil,_=>rfl
  | y::xs,u::us,.cons r t,f=>by
    rw[Xl,VR]at f;rw[Xw,Xw,AD r f.1,rY t f.2]
theorem pP{A:Around}{s:Shared}{x:V}{v:Value}(rx:RelV x v)(fx:jq x=true):∀{xs:List V}{us:List Value},Vals xs us->xs.all jq=true->∀ u∈us,SeqAt.EqAt A s u v (qD x u)
  | _,_,.nil,_=>fun u hu=>by cases hu
  | y::xs,u::us,.cons r t,f=>fun u' hu=>by
    rw[Xl,VR]at f;rcases WD.mp hu with rfl | hu
    . rw[AD r f.1];exact Ij r rx f.1 fx
    . exact pP rx fx t f.2 u' hu
noncomputable def wR(x:V)(xs:List V):Bool:=xs.any fun y=>pz y x
def QZ(K:PySem.W.Frag)(neg:Bool):R2:=fun x y H Q=>∃ p xs,y=.ref p/\(fV K H p xs\/iG K H p xs)/\jq x=true/\xs.all jq=true/\Q (.bl (if neg then !wR x xs else wR x xs)) H
theorem sO:Ia X (compareOp .In) (QZ X.K false):=by
  intro pins s σ H x y v u Q I rx ry h;obtain⟨p,xs,rfl,hq,fx,fs,q⟩:=h;cases ry;rcases hq with hq | hq
  . obtain⟨its,r,pl,hz⟩:=I.list hq;refine SeqAt.in_listAt (qD x) pl.isList (fun w hw=>pP rx fx r fs w (by simpa using hw)) ⟨.bl _,H,I,rfl,?_⟩;rw[show its.toArray.any (qD x)=its.any (qD x) by simp,rY r fs]
    exact q
  . obtain⟨its,r,pl,hz⟩:=I.tuple hq;refine SeqAt.in_tupleAt (qD x) pl (fun w hw=>pP rx fx r fs w (by simpa using hw)) ⟨.bl _,H,I,rfl,?_⟩;rw[show its.toArray.any (qD x)=its.any (qD x) by simp,rY r fs]
    exact q
theorem nu:qC X (.builtin "len") (fun xs H Q=>∃ p ys,xs=[.ref p]/\(fV X.K H p ys\/iG X.K H p ys)/\Q (.int ys.length) H):=by
  intro pins s σ H xs us Q I r h;obtain⟨p,ys,rfl,hq,q⟩:=h;obtain⟨u,rfl,rx⟩:=vals1 r;cases rx;have hn:=ni
  rcases hq with hq | hq
  . obtain⟨its,r',pl,hz⟩:=I.list hq;have hlen:=r'.length
    exact Calls.call_len_list pl.isList (by simp only[Wl]<;>omega) ⟨.int ys.length,H,I.tok _,⟨s.toks+1,by rw[Wl,hlen]⟩,q⟩
  . obtain⟨its,r',pl,hz⟩:=I.tuple hq;have hlen:=r'.length
    exact len_tuple pl (by simp only[Wl]<;>omega) ⟨.int ys.length,H,I.tok _,⟨s.toks+1,by rw[Wl,hlen]⟩,q⟩
theorem uJ:qC X (.builtin "len") (fun xs H Q=>∃ z,xs=[.str z]/\z.length<=sizeLine/\Q (.int z.length) H):=by
  intro pins s σ H xs us Q I r h;obtain⟨z,rfl,hz,q⟩:=h;obtain⟨u,rfl,t,rfl⟩:=vals1 r;have hn:=ni
  exact len_str (by omega) ⟨.int z.length,H,I.tok _,⟨_,rfl⟩,q⟩
variable {o e:Expr}{es:List Expr}{to:TE}{t:TA}{name:Str}{apos cpos:Pos}{T id:String}{r:V->List V->Hp->VK->Prop}
end
def Q0(X:Cx)(id:String)(r:V->List V->Hp->VK->Prop):Prop :=
  ∀(pins:List (Addr×Obj))(s:Shared)(σ:St)(H:Hp)(x:V)(xs:List V)(v:Value)(us:List Value)(Q:VK),Inv X pins σ H s->RelV x v->Vals xs us->r x xs H Q ->
    wpAny (model X.prog X.w) X.A (call (.builtin id) (v::us)) (EP X pins σ Q) X.xe s
theorem Vals.one:∀{x:V}{us:List Value},Vals [x] us->∃ u,us=[u]/\RelV x u
  | _,_,.cons r .nil=>⟨_,rfl,r⟩
theorem Vals.zero:∀{us:List Value},Vals [] us->us=[]
  | _,.nil=>rfl
section
variable {X:Cx}{pins:List (Addr×Obj)}{σ:St}{H:Hp}{s:Shared}{l b:Addr}{xs ys zs:List V}
theorem Inv.PK{its its':List Value}{n:Nat}{f:Array Value->Array Value}{t':Nat}(I:Inv X pins σ H s)(hH:H l=some (.lst xs))
    (e:s.heap.get? l=some { cls:=.type "list",data:=.seq its.toArray n }) (hf:f its.toArray=its'.toArray) (hv:Vals ys its') (hz:ys.length<=sizeLine) :
    Inv X pins σ (upd H l (.lst ys)) { s with heap:=s.heap.update l (Obj.mapSeq f),toks:=t' }:=by
  have q:=PySem.IsL.update e f;rw[hf]at q;refine I.write (x:=l) (e:=l) (by rw[hH];exact trivial) (.inl rfl) (fun b' u hb hu=>(Yv s.heap (Obj.mapSeq f) (Xb hb)).trans hu) ⟨_,q⟩ ?_;exact⟨hz,its',_,hv,q⟩
theorem Inv.PL{its:List Value}{t':Nat}(I:Inv X pins σ H s)(hv:Vals ys its)(hz:ys.length<=sizeLine) :
    Inv X pins σ (upd H s.heap.objs.size (.lst ys)) { s with heap:=s.heap.push { cls:=.type "list",data:=.seq its.toArray },toks:=t' } :=
  I.laid (fun _ _ q=>VW _ q) (VU _) ⟨hz,its,0,hv,Wi _ rfl⟩
theorem Inv.fresh(I:Inv X pins σ H s):H s.heap.objs.size=none:=I.bh.fresh (VU _)
theorem Inv.Ik(I:Inv X pins σ H s)(hH:H l=some (.lst xs)):xs.length<=sizeLine/\∃(its:List Value)(n:Nat),Vals xs its/\xs.length=its.length/\s.heap.get? l=some { cls:=.type "list",data:=.seq its.toArray n }:=by
  obtain⟨z,its,n,r,e⟩:=I.bh l _ hH;exact⟨z,its,n,r,r.length,e⟩
end
section
variable {X:Cx}
def Gy:V->List V->Hp->VK->Prop:=fun x vs H Q=>∃ l xs y,x=.ref l/\vs=[y]/\H l=some (.lst xs)/\xs.length<sizeLine/\Q .aU (upd H l (.lst (xs ++[y])))
theorem nv:Q0 X "list.append" Gy:=by
  intro pins s σ H x vs v us Q I rx rv h;obtain⟨l,xs,y,rfl,rfl,hH,hz,q⟩:=h;cases rx;obtain⟨u,rfl,ru⟩:=rv.one;obtain⟨z,its,n,r,hl,e⟩:=I.Ik hH;refine Yr F.slot_list_append ⟨_,e,rfl⟩ F.entry_list_append (F.args_list_append_2 _ _) (PySem.list_append l its.toArray n u (by rw[Wl];omega)) ⟨e,?_⟩;refine⟨.aU,_,I.PK (its':=its ++[u]) hH e (by simp) (r.append (.cons ru .nil)) ?_,rfl,q⟩;rw[VV,ZY];omega
end
end L2
namespace Il
open PySem PySem.W PySem.Calls PyProof.Rows
theorem qE{P:Params}{h:Heap}:∀(ns:List Int)(vs:List Value),WellAll P h vs (ns.map WData.int)->IntsAre vs ns:=by
  intro ns
  induction ns with
  | nil =>
    intro vs w;rw[Xc]at w;cases w;exact .nil
  | cons n ns ih =>
    intro vs w;rw[VZ]at w;cases w with
    | cons a b =>
      cases a;exact .cons _ _ (ih _ b)
theorem AE{l:OpenLaw}{n:Nat}(hn:l.most=some n){P:Params}{h:Heap}{args:List WData}{vals:List Value}
    (yA:l.row.toRowW.claim.pre args=true) (Im:WellAll P h vals args) :
    ∃ a vs ns,vals=[Value.ref a]/\args=[WData.list (ns.map WData.int)]/\h.get? a=some { cls:=.type "list",data:=.seq vs.toArray }/\IntsAre vs ns/\ns.length<=n:=by
  have Q1:WShape.hasAll [] args [.list .int]=true:=(pre_splitW yA).1;have hc:l.pre.holds [] { args:=args }=true:=(pre_splitW yA).2
  obtain⟨d,r,rfl,h1,h2⟩:=hasAllW_cons Q1;obtain rfl:=hasAllW_nil h2;obtain⟨xs,rfl,h3⟩:=hasW_list h1;obtain⟨ns,rfl⟩:=items_int h3;have hlen:ns.length<=n:=by
    unfold OpenLaw.pre at hc;have h4:(WTm.not (.lt (.lit (.int (n:Int))) (.len (.arg 0)))).holds [] { args:=[.list (ns.map .int)] }=true:=by
      have h4:=(holds_andW hc).1;rw[hn]at h4;exact h4
    have h5:=condW_of h4 (w_not (w_lt w_lit (w_len_list (w_arg rfl))));rw[V5]at h5;refine Nat.le_of_not_lt fun q=>?_;have q':(n:Int)<((ns.length:Nat):Int):=by omega
    first
      | (rw[VX q']at h5;exact absurd h5 (by decide))
      | (simp at h5;omega)
  cases Im with
  | cons w1 w2 =>
    cases w2;cases w1 with
    | list ho PM=>exact⟨_,_,ns,rfl,rfl,ho,qE ns _ PM,hlen⟩
theorem AF(l:OpenLaw)(args:List WData):l.row.toRowW.claim.post args (.bool true) args=true :=
  postW_of (r:=l.row.toRowW) (X:=(true == true))
    (show WShape.has [] (.bool true) .bool=true by first | rfl | decide | simp[WShape.has,WShape.arms,WShape.armsAll])
    (show(WTm.eq .res (.lit (.bool true))).value [] { args:=args,res:=some (.bool true),after:=args }=some (.bool (true == true)) from w_eq_bool (w_res rfl) w_lit) rfl
end Il
namespace L2
open PySem PySem.Spec PyProof.Rows
theorem sP:∀{vs:List Value}{ns:List Int},IntsAre vs ns->Vals (ns.map V.int) vs
  | _,_,.nil=>.nil
  | _,_,.cons n t h=>.cons ⟨t,rfl⟩ (sP h)
def Io(H:Hp):Prop:=∀ b,H b=none\/∃ o xs,H b=some (.bw o (.lst xs))
theorem C6{P:Program}{w:World}{K:PySem.W.Frag}{mg mb:Str->Option Value}{CX:pq}{k:Nat}{fa a:Addr}{fd:FuncData}{x:Str}{sp:Sp}{s₁:Shared}{vs:List Value}{ns:List Int}
    (KX:K.In s₁.heap) (uK:s₁.heap.Ns mainGlobals mg) (hb:s₁.heap.Ns builtinsNs mb) (gz:∀ x:Str,x≠"__name__"->mb x=bootBuiltins x) (PN:s₁.heap.NoLimit) (hg:s₁.gens=#[])
    (ha:s₁.heap.get? a=some { cls:=.type "list",data:=.seq vs.toArray }) (hi:IntsAre vs ns) (hl:ns.length<=sizeLine) (hr:bH k callerA)
    (F:∀ base:Heap,K.In base->base.Ns mainGlobals mg->d9 P w K mg base CX k fa fd [x] sp) (LR:∀(s:Shared)(u:Value),BindsTo s fd ⟨[u],[]⟩ [(x,u)])
    (gy:∀ H:Hp,Io H->fV K H a (ns.map V.int)->sp [.ref a] H (fun v _=>v=.bl true) fun _ _ _=>False)
    (Q2:∀ H e s',CX [] H s₁ (fun _ _ _=>False) e s'->False) :
    codeAny (model P w) callerA (.call (.ref fa) ⟨[.ref a],[]⟩) (fun r s'=>r=.ok (.ret (.bool true))/\OldK s₁.heap s'.heap/\s'.os=s₁.os/\AllBare s'.gens) s₁:=by
  have rv:=sP hi;have PO:=hi.length
  have core:∀ H:Hp,Io H->fV K H a (ns.map V.int)->eL P w H s₁.heap->(∀ b,H b≠none->b=a)->(H a≠none->K.lookup a=none) ->
      codeAny (model P w) callerA (.call (.ref fa) ⟨[.ref a],[]⟩) (fun r s'=>r=.ok (.ret (.bool true))/\OldK s₁.heap s'.heap/\s'.os=s₁.os/\AllBare s'.gens) s₁:=by
    intro H hO hS bh hA hK;have wU:∀{b:Addr}{o:Obj},s₁.heap.get? b=some o->H b=none->(l9 s₁.heap H).get? b=some o:=fun e n=>C2 e n
    have AA:∀{b:Addr}{o:Obj}{es:Array DictEntry}{ep:Nat},s₁.heap.get? b=some o->o.data=.dict es ep->H b=none:=fun{b o es ep} e d=>by
      cases q:H b with
      | none=>rfl
      | some u =>
        have e':b=a:=hA b (by rw[q];simp);subst e';rw[ha]at e;cases e;have d':Data.seq vs.toArray _=Data.dict es ep:=d
        cases d'
    have EH:∀{b:Addr}{m:Str->Option Value},s₁.heap.Ns b m->(l9 s₁.heap H).Ns b m:=fun{b m} ⟨o,es,ep,e,d,r⟩=>⟨o,es,ep,wU e (AA e d),d,r⟩;have M6:K.In (l9 s₁.heap H):=fun b o e=>wU (KX b o e) (by
      cases q:H b with
      | none=>rfl
      | some u =>
        have e':b=a:=hA b (by rw[q];simp);subst e';rw[hK (by rw[q];simp)]at e;cases e)
    have hM:Mod K mg (l9 s₁.heap H):=⟨M6,EH uK,⟨mb,EH hb,gz⟩,let ⟨mc,h1,h2⟩:=PN;⟨mc,EH h1,h2⟩⟩;have e0:ly P w K mg (l9 s₁.heap H) callerA [] s₁ H:=⟨rfl,hM,fun b o e=>Gm e,Nat.le_of_eq (Ao _ _),trivial,fun b hb=>absurd (show b∈([]:List Addr) from hb) (by simp),bh,.of_eq hg⟩
    refine XC ((F _ M6 (EH uK)).run callerA [] s₁ H ⟨[.ref a],[]⟩ [.ref a] [.ref a] _ _ hr e0 (LR s₁ (.ref a)) (.cons rfl .nil) (gy H hO hS)) fun r s' h=>?_;cases r with
    | error e=>exact(Q2 H e s' h).elim
    | ok fl =>
      cases fl with
      | next=>exact False.elim h
      | brk=>exact False.elim h
      | cont=>exact False.elim h
      | ret u =>
        obtain⟨v,H',os,bare,un,PQ,r',q⟩:=h;have q':v=.bl true:=q
        subst q';obtain rfl:u=Value.bool true:=r';refine⟨rfl,OldK.of_keep fun b o e=>?_,os,bare⟩;cases q:H b with
        | none=>exact un.keep b o e q (by intro z;exact absurd (show b∈([]:List Addr) from z) (by simp)) (by simp)
        | some u =>
          rcases hO b with z | ⟨ob,xs,z⟩
          . rw[q]at z;cases z
          . have z2:=un.jK b ob _ z;obtain⟨e1,_⟩:=bh b _ z;obtain⟨e2,_⟩:=PQ b _ z2;rw[e]at e1;cases e1;exact e2
  cases hk:K.lookup a with
  | some o =>
    have e:=KX a o hk;rw[ha]at e;cases e;refine core (fun _=>none) (fun _=>.inl rfl) (.inr ⟨_,vs.toArray,_,hk,rfl,rfl,rfl,by rw[Wl,PO];exact hl,by simpa using rv⟩) (fun b u z=>by have z':(none:Option HO)=some u:=z;cases z') (fun b z=>absurd rfl z) fun z=>absurd rfl z
  | none =>
    refine core (fun b=>if b=a then some (.bw { cls:=.type "list",data:=.seq vs.toArray } (.lst (ns.map V.int))) else none) (fun b=>?_) (.inl (.inr ⟨{ cls:=.type "list",data:=.seq vs.toArray },VP rfl⟩)) (fun b u z=>?_) (fun b z=>?_) fun _=>hk
    . by_cases hb:b=a
      . exact .inr ⟨_,_,VP hb⟩
      . exact .inl (VQ hb)
    . by_cases hb:b=a
      . have z':=(VP hb).symm.trans z;cases z';subst hb;exact⟨ha,by rw[V5];exact hl,vs,_,rv,ha⟩
      . have z':=(VQ hb).symm.trans z;cases z'
    . by_cases hb:b=a
      . exact hb
      . exact absurd (VQ hb) z
noncomputable def inClass(s:Stmt)(j:Nat):Stmt:=match s with
  | .ClassDef _ _ _ body _ _ _ _ _ _ _=>body.getD j (.Pass ⟨0,0,0,0⟩)
  | _=>.Pass ⟨0,0,0,0⟩
noncomputable def b9(s:Stmt):Arguments:=match s with
  | .FunctionDef _ a _ _ _ _ _ _ _ _=>a
  | _=>{ posonlyargs:=[],args:=[],vararg:=none,kwonlyargs:=[],kw_defaults:=[],kwarg:=none,defaults:=[] }
noncomputable def ba(s:Stmt):List Stmt:=match s with
  | .FunctionDef _ _ b _ _ _ _ _ _ _=>b
  | _=>[]
noncomputable def az(s:Stmt):Scope:=match s with
  | .FunctionDef _ _ _ _ _ _ sc _ _ _=>sc
  | _=>{ kind:=.function,names:=[],isGenerator:=false,isCoroutine:=false }
structure wV(K:PySem.W.Frag)(x qual:Str)(st:Stmt)(f:Addr)(fd:FuncData):Prop where
  ex:∃(oc:Value)(od:Option Addr)(kV doc pm:Value)(an:Option Addr)(aK ct:Value)(eQ:Array (Option Value)),
    fd=PySem.W.fnOf x qual (b9 st) (ba st) (az st) .none kV doc pm an aK ct/\K.lookup f=some ⟨oc,od,.func fd,eQ⟩/\PySem.W.codeIn K aK qual=true
  kp:PySem.W.keepIn K (.ref f)=true
section
variable {P:Program}{w:World}{K:PySem.W.Frag}{mg:Str->Option Value}{base:Heap}
theorem wV.binds{x qual:Str}{st:Stmt}{f:Addr}{fd:FuncData}{ps:List Str}(F:wV K x qual st f fd)
    (h:∀(kV doc pm:Value)(an:Option Addr)(aK ct:Value)(us:List Value),us.length=ps.length->bindArgs (PySem.W.fnOf x qual (b9 st) (ba st) (az st) .none kV doc pm an aK ct) ⟨us,[]⟩=pure (ps.zip us)):Binds K fd ps []:=by
  obtain⟨oc,od,kV,doc,pm,an,aK,ct,eQ,rfl,lk,cU⟩:=F.ex;exact .all (h kV doc pm an aK ct)
theorem AG{x qual:Str}{st:Stmt}{f:Addr}{oc:Value}{od an:Option Addr}{eQ:Array (Option Value)}{kV doc pm aK ct:Value}(l:K.lookup f=some ⟨oc,od,.func (PySem.W.fnOf x qual (b9 st) (ba st) (az st) .none kV doc pm an aK ct),eQ⟩)
    (c:PySem.W.codeIn K aK qual=true) (k:PySem.W.keepIn K (.ref f)=true):wV K x qual st f (PySem.W.fnOf x qual (b9 st) (ba st) (az st) .none kV doc pm an aK ct):=⟨⟨oc,od,kV,doc,pm,an,aK,ct,eQ,rfl,l,c⟩,k⟩
end
section
variable {X:Cx}
theorem pv(i:Nat){x:Str}{pos:Pos}(hN:X.N[i]?=some x:=by rfl)(hv:kK X.env.scope x:=by first | exact Or.inl rfl | exact Or.inr (Or.inl rfl) | exact Or.inr (Or.inr rfl)) (hd:(x ==("__debug__" : Str))=false:=by decide)
    (cU:(x ==("__classdict__" : Str))=false:=by decide):PE X (.Name x pos) (HV i):=uD hN hv hd cU
end
def aO(H H':Hp):Prop:=∀ b o,H b=some o->H' b=some o
theorem aO.refl(H:Hp):aO H H:=fun _ _ h=>h
theorem aO.trans{H H1 H2:Hp}(a:aO H H1)(b:aO H1 H2):aO H H2:=fun c o h=>b c o (a c o h)
theorem aO.free{H H':Hp}(e:aO H H'){l:Addr}(h:H' l=Option.none):H l=Option.none:=by
  cases q:H l with
  | none=>rfl
  | some o =>
    rw[e l o q]at h;cases h
theorem aO.seq{K:PySem.W.Frag}{H H':Hp}{a:Addr}{xs:List V}(e:aO H H')(h:fV K H a xs):fV K H' a xs:=by
  rcases h with(h | ⟨o,h⟩) | h
  . exact .inl (.inl (e _ _ h))
  . exact .inl (.inr ⟨o,e _ _ h⟩)
  . exact .inr h
end L2
set_option maxHeartbeats 4000000
namespace L2
open PySem PySem.Spec PyProof.Rows
section
variable {κ:Type} [DecidableEq κ]
noncomputable def i9(aZ:List (κ×V))(k:κ):Option V:=(aZ.find? fun kv=>decide (kv.1=k)).map (·.2)
noncomputable def putK(aZ:List (κ×V))(k:κ)(v:V):List (κ×V) :=
  if (aZ.any fun kv=>decide (kv.1=k))=true then aZ.map (fun kv=>if kv.1=k then (kv.1,v) else kv) else aZ ++[(k,v)]
noncomputable def oA(aZ:List (κ×V))(k:κ):List (κ×V):=aZ.filter fun kv=>decide (kv.1≠k)
theorem pQ{p:κ×V}{r:List (κ×V)}{k:κ}(e:p.1=k):i9 (p::r) k=some p.2:=by simp[i9,Yk,e]
theorem pR{p:κ×V}{r:List (κ×V)}{k:κ}(e:¬ p.1=k):i9 (p::r) k=i9 r k:=by simp[i9,Yk,e]
theorem uL(k:κ):∀ aZ:List (κ×V),(aZ.any fun kv=>decide (kv.1=k))=(i9 aZ k).isSome
  | []=>rfl
  | p::r=>by
    rw[Xw];by_cases e:p.1=k
    . simp only[pQ e,VX e,Zn,Option.isSome_some]
    . rw[pR e,V3 e,Bool.false_or];exact uL k r
theorem wu(aZ:List (κ×V))(k:κ)(v:V):(putK aZ k v).length<=aZ.length+1:=by
  unfold putK;split
  . rw[V5];omega
  . rw[VV,VT,Yl];omega
theorem gF.AH{o:Option V}{u:Option Value}(r:gF o u):o.isSome=u.isSome:=by
  cases o with
  | none=>cases u with
    | none=>rfl
    | some _=>exact(show False from r).elim
  | some _=>cases u with
    | none=>exact(show False from r).elim
    | some _=>rfl
theorem gF.getD{o:Option V}{u:Option Value}(r:gF o u)(rd:RelV d d'):RelV (o.getD d) (u.getD d'):=by
  cases o with
  | none=>cases u with
    | none=>exact rd
    | some _=>exact(show False from r).elim
  | some _=>cases u with
    | none=>exact(show False from r).elim
    | some _=>exact r
theorem KV.val(r:KV aZ vs)(k:κ):gF (i9 aZ k) (valueAt vs k):=by
  unfold KV at r
  induction r with
  | nil=>exact True.intro
  | @cons p q ps qs h t ih =>
    obtain⟨h1,h2⟩:=h;by_cases e:p.1=k
    . have e':q.1=k:=h1.symm.trans e;have b:valueAt (q::qs) k=some q.2:=by simp[valueAt,Yk,e']
      rw[pQ e,b];exact h2
    . have e':¬ q.1=k:=fun z=>e (h1.trans z);have b:valueAt (q::qs) k=valueAt qs k:=by simp[valueAt,Yk,e']
      rw[pR e,b];exact ih
theorem KV.any{aZ:List (κ×V)}{vs:List (κ×Value)}(r:KV aZ vs)(k:κ):(aZ.any fun kv=>decide (kv.1=k))=vs.any fun kv=>decide (kv.1=k):=by
  unfold KV at r
  induction r with
  | nil=>rfl
  | cons h t ih=>rw[Xw,Xw,ih,h.1]
theorem KV.uM{aZ:List (κ×V)}{vs:List (κ×Value)}(r:KV aZ vs)(k:κ)(ry:RelV y u) :
    KV (aZ.map fun kv=>if kv.1=k then (kv.1,y) else kv) (vs.map fun kv=>if kv.1=k then (kv.1,u) else kv):=by
  unfold KV at r ⊢
  induction r with
  | nil=>exact .nil
  | @cons p q ps qs h t ih =>
    rw[VZ,VZ];refine .cons ?_ ih;obtain⟨h1,h2⟩:=h;by_cases e:p.1=k
    . rw[VP e,VP (h1.symm.trans e)];exact⟨h1,ry⟩
    . rw[VQ e,VQ (fun z=>e (h1.trans z))];exact⟨h1,h2⟩
theorem KV.put(r:KV aZ vs)(k:κ)(ry:RelV y u):KV (putK aZ k y) (stored vs k u):=by
  unfold putK stored;rw[r.any k];by_cases e:(vs.any fun kv=>decide (kv.1=k))=true
  . rw[VP e,VP e];exact r.uM k ry
  . rw[VQ e,VQ e];exact Paired.snoc r ⟨rfl,ry⟩
theorem KV.drop(r:KV aZ vs)(k:κ):KV (oA aZ k) (without vs k):=by
  unfold KV at r ⊢;unfold oA without
  induction r with
  | nil=>exact .nil
  | @cons p q ps qs h t ih =>
    obtain⟨h1,h2⟩:=h;rw[Yd,Yd];by_cases e:p.1=k
    . have a:¬ decide (p.1≠k)=true:=by simp[e]
      have b:¬ decide (q.1≠k)=true:=by simp[h1.symm.trans e]
      rw[VQ a,VQ b];exact ih
    . have e':¬ q.1=k:=fun z=>e (h1.trans z);have a:decide (p.1≠k)=true:=by simp[e]
      have b:decide (q.1≠k)=true:=by simp[e']
      rw[VP a,VP b];exact .cons ⟨h1,h2⟩ ih
theorem KV.length{aZ:List (κ×V)}{vs:List (κ×Value)}(r:KV aZ vs):aZ.length=vs.length:=Paired.length r
theorem C7(aZ:List (κ×V))(k:κ):(oA aZ k).length<=aZ.length:=List.length_filter_le _ _
end
theorem md{k:Key} (r:RelV (kV k) u):(dJ P w).is k u=true:=by
  cases k with
  | inl i=>obtain⟨t,e⟩:=(show ∃ t,u=Value.int i t from r);subst e;exact wm P w i t
  | inr x=>obtain⟨t,e⟩:=(show ∃ t,u=Value.str x t from r);subst e;exact wq P w x t
theorem sQ:∀{ks:List Key}{us:List Value},Vals (ks.map kV) us->ItemsAre (dJ P w) ks us
  | [],_,r=>by rw[Xc]at r;cases r;exact .nil
  | k::ks,_,r=>by
    rw[VZ]at r;cases r with
    | cons h t=>exact .cons (md h) (sQ t)
abbrev KT(H:Hp):List (List Key×V)->List (List Key×Addr×Value)->Prop:=Paired fun p q=>p.1=q.1/\H q.2.1=some (.tup (p.1.map kV))/\RelV p.2 q.2.2
theorem KT.keeps{H H':Hp}(r:KT H aZ xs)(ht:∀ b ys,H b=some (.tup ys)->H' b=some (.tup ys)):KT H' aZ xs :=
  Paired.C1 r fun _ _ z=>⟨z.1,ht _ _ z.2.1,z.2.2⟩
section
variable {P:Program}{w:World}{H:Hp}{h:Heap}{a:Addr}
theorem EI(ok:eL P w H h)(e:Rd H a u):dF P w H h a u:=e.ok ok
theorem EJ{aZ:List (Key×V)}(ok:eL P w H h)(e:Rd H a (.dK aZ)):aZ.length<=sizeLine/\(a == sysModules)=false/\∃ vs,KV aZ vs/\h.DictOf (dJ P w) a vs :=
  show dF P w H h a (.dK aZ) from EI ok e
theorem ud{aZ:List (Key×V)}(ok:eL P w H h)(e:H a=some (.dK aZ)):aZ.length<=sizeLine/\(a == sysModules)=false/\∃ vs,KV aZ vs/\h.DictOf (dJ P w) a vs:=EJ ok (.inl e)
theorem Ip{ks:List Key}(ok:eL P w H h)(e:H a=some (.tup (ks.map kV))):(tupleKind (dJ P w)).is h ks a:=by
  obtain⟨_,its,r,o,h1,h2,n,h3⟩:=(show dF P w H h a (.tup (ks.map kV)) from ok a _ e)
  exact⟨o,its.toArray,n,h1,h2,h3,by simpa using sQ r⟩
theorem LS{aZ:List (List Key×V)}(ok:eL P w H h)(e:Rd H a (.dT aZ)):aZ.length<=sizeLine/\(a == sysModules)=false /\
    ∃ xs,KT H aZ xs/\h.DictOfH (tupleKind (dJ P w)) a xs:=by
  obtain⟨z,y,xs,r,o,es,ep,h1,h2,h3,h4,h5⟩:=(show dF P w H h a (.dT aZ) from EI ok e)
  refine⟨z,y,xs,r,o,es,ep,h1,h2,h3,h4,fun x hx=>?_,h5⟩;have all:∀{l:List (List Key×V)}{m:List (List Key×Addr×Value)},KT H l m->∀ x∈m,(tupleKind (dJ P w)).is h x.1 x.2.1:=by
    intro l m q
    induction q with
    | nil=>intro x hx;exact nomatch hx
    | @cons p q ps qs hq t ih =>
      intro x hx;rcases WD.mp hx with e | hx
      . subst e;exact Ip ok (by rw[<- hq.1];exact hq.2.1)
      . exact ih x hx
  exact all r x hx
end
def yB(H:Hp)(a:Addr)(y:V)(r:Option V):Prop :=
  (∃ aZ k,Rd H a (.dK aZ)/\y=kV k/\r=i9 aZ k)\/∃ aZ k b,Rd H a (.dT aZ)/\y=.ref b/\H b=some (.tup (k.map kV))/\r=i9 aZ k
def yC(H:Hp)(a:Addr)(y v:V)(H':Hp):Prop :=
  (∃ aZ k,H a=some (.dK aZ)/\y=kV k/\aZ.length<sizeLine/\H'=upd H a (.dK (putK aZ k v))) \/
  ∃ aZ k b,H a=some (.dT aZ)/\y=.ref b/\H b=some (.tup (k.map kV))/\aZ.length<sizeLine/\H'=upd H a (.dT (putK aZ k v))
theorem yB.k{H:Hp}{a:Addr}{aZ:List (Key×V)}{k:Key}(e:H a=some (.dK aZ)):yB H a (kV k) (i9 aZ k):=.inl ⟨aZ,k,.inl e,rfl,rfl⟩
theorem yB.t{H:Hp}{a b:Addr}{aZ:List (List Key×V)}{k:List Key}(e:H a=some (.dT aZ))(eb:H b=some (.tup (k.map kV))):yB H a (.ref b) (i9 aZ k):=.inr ⟨aZ,k,b,.inl e,rfl,eb,rfl⟩
theorem yC.k{H:Hp}{a:Addr}{aZ:List (Key×V)}{k:Key}(e:H a=some (.dK aZ))(hl:aZ.length<sizeLine):yC H a (kV k) v (upd H a (.dK (putK aZ k v))):=.inl ⟨aZ,k,e,rfl,hl,rfl⟩
theorem yC.t{H:Hp}{a b:Addr}{aZ:List (List Key×V)}{k:List Key}(e:H a=some (.dT aZ))(eb:H b=some (.tup (k.map kV)))(hl:aZ.length<sizeLine) :
    yC H a (.ref b) v (upd H a (.dT (putK aZ k v))):=.inr ⟨aZ,k,b,e,rfl,eb,hl,rfl⟩
section
variable {X:Cx}{pins:List (Addr×Obj)}{σ:St}{H:Hp}{s:Shared}{a:Addr}{y v:V}{u r:Value}{o:Option V}{A:Around}{E:Value->Shared->Prop}
theorem Inv.big(I:Inv X pins σ H s):sysModules<s.heap.objs.size:=by
  have h:mainGlobals<s.heap.objs.size:=(I.mod.glob.keeps I.bk).lt;exact Nat.lt_trans (by decide) h
theorem wW{h':Heap}{t':Nat}(I:Inv X pins σ H s)(mu:Am (H a))(hs:Heap.SameBut a s.heap h')(he:∃ q,h'.get? a=some q)(new:dF X.prog X.w (upd H a ob) h' a ob) :
    Inv X pins σ (upd H a ob) { s with heap:=h',toks:=t' } :=
  I.write (x:=a) (e:=a) mu (.inl rfl) (fun b q hb z=>(hs.2 b hb).trans z) he new
theorem AI{h':Heap}{aZ:List (Key×V)} (z:aZ.length<=sizeLine) (hd:(a == sysModules)=false) (rel:KV aZ vs) (dd:h'.DictOf (dJ P w) a vs) :
    dF P w H' h' a (.dK aZ):=⟨z,hd,vs,rel,dd⟩
end
section
variable {X:Cx}{pins:List (Addr×Obj)}{σ:St}{H:Hp}{s:Shared}{a:Addr}{aZ:List (Key×V)}{k:Key}{u:Value}{A:Around}{E:Value->Shared->Prop}
theorem LU{v:V}{more:List Value}{Q:Value->Shared->Prop}(I:Inv X pins σ H s)(e:H a=some (.dK aZ))(ry:RelV (kV k) u)(l:i9 aZ k=some v)(hm:more=[]\/∃ x,more=[x])
    (h:∀ w' s',Inv X pins σ (upd H a (.dK (oA aZ k))) s'->RelV v w'->Q w' s'):wpAny (model X.prog X.w) A (call (.builtin "dict.pop") (.ref a::u::more)) Q E s:=by
  obtain⟨z,hd,vs,rel,dd⟩:=ud I.bh e;obtain⟨w',hw,kh⟩:=gF.some_of (v:=v) (o:=valueAt vs k) (by rw[<- l];exact rel.val k);have hp:(keyPart u).isSome=true:=by
    cases k with
    | inl i=>obtain⟨t,q⟩:=(show ∃ t,u=Value.int i t from ry);subst q;rfl
    | inr x=>obtain⟨t,q⟩:=(show ∃ t,u=Value.str x t from ry);subst q;rfl
  have ha:argsOk "dict.pop" ⟨.ref a::u::more,[]⟩:=by
    rcases hm with q | ⟨x,q⟩
    . subst q;exact PySem.F.args_dict_pop_2 _ _
    . subst q;exact PySem.F.args_dict_pop_3 _ _ _
  refine call_meetsIn ZZ dd.typeIs PySem.F.entry_dict_pop ha (meets_dict_pop_there (dJ X.prog X.w) a (md ry) more hm hp)
    ⟨vs,w',dd,by rw[<- rel.length];exact z,hw,fun h' AJ hs=>h w' _ ?_ kh⟩
  have he:∃ q,h'.get? a=some q:=let ⟨q,_,_,hq,_⟩:=AJ;⟨q,hq⟩
  exact wW I (by rw[e];exact True.intro) hs he (AI (Wh (C7 aZ k) z) hd (rel.drop k) AJ)
end
def Iq(i:Expr):Prop:=∀ ov iv,subscripted i false ov iv=operate [ov,iv] (getItem ov iv)
theorem Gz{E:Value->Shared->Prop}{env:Env}{pos:Pos}{T id:String}{Q:Value->Shared->Prop}
    (hl:typeLookup (.type T) "__getitem__"=pure (some (.builtin id))) (hs:Iq slice)
    (h:wpAny (model prog w) A (eval value env) (fun o s₁=>wpAny (model prog w) A (eval slice env) (fun i s₂=>s₂.TypeIs o T/\wpAny (model prog w) A (getItem o i) Q E s₂) E s₁) E s) :
    wpAny (model prog w) A (eval (.Subscript value slice pos) env) Q E s:=by
  refine Subscript_ (VN h (fun o s₁ h₁=>VN h₁ (fun i s₂ h₂=>?_) fun _ _ x=>x) fun _ _ x=>x);obtain⟨hT,h₂⟩:=h₂;unfold subscriptTail;refine V0 ?_;rw[getitemInPython_of_ne hT.not_modules];refine V0 (wpAny_specialOf hT hl ?_);have fin:wpAny (model prog w) A (subscripted slice false o i) (fun r s₃=>wpAny (model prog w) A (letTemporaryGo value o r >>= fun _=>pure r) Q E s₃) E s₂:=by
    rw[hs o i];exact wpAny_operating (VN h₂ (fun r s₃ h₃=>V0 (wpAny_letTemporaryGo (Ws h₃))) fun _ _ x=>x)
  first
    | exact Ws (V0 fin)
    | exact V0 (Ws (V0 fin))
    | exact V0 fin
theorem C8(h:Heap)(hb:sysModules<h.objs.size):dF P w H (h.push { cls:=.type "dict",data:=.dict #[] }) h.objs.size (.dK []) :=
  ⟨Xp _,Wr.mpr (Xb (Wz hb)),[],.nil,Heap.DictOf.new h⟩
structure M1(X:Cx)(o:Expr)(m:Str)(apos:Pos)(e:Expr)(cpos:Pos):Prop where
  base:attributeBase o m X.env (eval o X.env)=eval o X.env
  M7:((backTo cpos (starEach [e] X.env)).all (fun x=>!x.1)&&(backToKw cpos (keywordEach [] X.env)).all (fun x=>x.1.isSome)
    && decide (([e]:List Expr).length+([]:List Keyword).length+(if ([]:List Keyword).isEmpty then 0 else 1)<30))=true
  line:(apos.endLine == cpos.line)=true
  trees:backTo cpos (starEach [e] X.env)=[(false,eval e X.env)]
def Q3(H:Hp)(a:Addr):Prop:=(∃ aZ,Rd H a (.dK aZ))\/∃ aZ,Rd H a (.dT aZ)
theorem Ir{s:Shared} (I:Inv X pins σ H s) (d:Q3 H a) :
    s.TypeIs (.ref a) "dict"/\(∀ b,Value.ref a=.ref b->∃ ob,s.heap.get? b=some ob/\ob.dict=none)/\(a == sysModules)=false:=by
  rcases d with⟨aZ,e⟩ | ⟨aZ,e⟩
  . obtain⟨_,hd,vs,_,dd⟩:=EJ I.bh e;refine⟨dd.typeIs,fun b q=>?_,hd⟩;cases q;obtain⟨ob,_,_,h1,h2,_⟩:=dd;exact⟨ob,h1,h2.2.1⟩
  . obtain⟨_,hd,xs,_,dd⟩:=LS I.bh e;refine⟨dd.typeIs,fun b q=>?_,hd⟩;cases q;obtain⟨ob,_,_,h1,h2,_⟩:=dd;exact⟨ob,h1,h2.2.1⟩
end L2
namespace Mi
open PySem
inductive PV where
  | aU | bl (b:Bool) | int (i:Int) | str (x:Str) | tup (l:List PV) | lst (l:List PV)
  | exc (c:Nat)            -- an exception PR Vx Q4,by its class
  | iO                     -- an empty dict
  | ins (c:Nat)            -- an instance without attributes,by its class
  | own (l:List PV)        -- a list PR one name alone holds (a Q5 value,never an Iu)
inductive R (α:Type) where
  | ok (a:α) | exc (c:Nat) | stuck
noncomputable def R.bind{α β:Type}(r:R α)(f:α->R β):R β:=match r with
  | .ok a=>f a
  | .exc c=>.exc c
  | .stuck=>.stuck
@[simp] theorem R.bind_ok {α β:Type} (a:α) (f:α->R β):(R.ok a).bind f=f a:=rfl
abbrev ay:=List (Option PV)
abbrev FE:=ay->R PV
abbrev FA:=ay->R (List PV)
abbrev FT:=ay->R Bool
inductive SR where
  | next (ρ:ay) | ret (v:PV) | brk (ρ:ay) | cont (ρ:ay) | exc (c:Nat) (ρ:ay) | stuck
abbrev FS:=ay->SR
noncomputable def bY:Option PV->R PV
  | some (.own _)=>.stuck
  | some v=>.ok v
  | none=>.stuck
noncomputable def iP:ay->Nat->R PV
  | [],_=>.stuck
  | o::_,0=>bY o
  | _::r,n+1=>iP r n
noncomputable abbrev nb(i:Int):Nat:=Builtin.Int.intBits i
mutual
noncomputable def dO:PV->PV->Bool
  | .aU,.aU=>true
  | .bl a,.bl b=>a == b
  | .bl a,.int b=>(if a then 1 else 0) == b
  | .int a,.bl b=>a ==(if b then 1 else 0)
  | .int a,.int b=>a == b
  | .str a,.str b=>a == b
  | .tup a,.tup b=>cY a b
  | .lst a,.lst b=>cY a b
  | _,_=>false
noncomputable def cY:List PV->List PV->Bool
  | [],[]=>true
  | x::xs,y::ys=>dO x y&&cY xs ys
  | _,_=>false
end
noncomputable def bD:Nat->PV->Bool
  | _,.aU=>true
  | _,.bl _=>true
  | _,.int _=>true
  | _,.str _=>true
  | n+1,.tup l=>l.all (bD n)
  | n+1,.lst l=>l.all (bD n)
  | _,_=>false
noncomputable abbrev oB(p:PV):Bool:=bD 6 p
noncomputable def eR:PV->R Bool
  | .bl b=>.ok b
  | .int i=>.ok (i != 0)
  | .aU=>.ok false
  | .lst l=>.ok (!l.isEmpty)
  | .str z=>if z.length<=sizeLine then .ok ((z.length:Int) != 0) else .stuck
  | _=>.stuck
noncomputable abbrev rZ:Nat:=134217728
noncomputable def ar:PV->PV->R PV
  | .int a,.int b=>.ok (.int (a+b))
  | .str a,.str b=>if a.length+b.length<=sizeLine then .ok (.str (a++b)) else .stuck
  | .lst a,.lst b=>if a.length+b.length<=sizeLine then .ok (.lst (a++b)) else .stuck
  | .tup a,.tup b=>if (a.length≠0/\b.length≠0)/\a.length+b.length<=sizeLine then .ok (.tup (a++b)) else .stuck
  | _,_=>.stuck
noncomputable def fh:PV->PV->R PV
  | .int a,.int b=>.ok (.int (a - b))
  | _,_=>.stuck
noncomputable def ja:PV->PV->R PV
  | .int a,.int b=>if nb a<=64\/nb b<=64\/nb a+nb b<=rZ then .ok (.int (a*b)) else .stuck
  | _,_=>.stuck
noncomputable def oDiv:PV->PV->R PV
  | .int a,.int b=>if 0<b/\nb b<=9000 then .ok (.int (a/b)) else .stuck
  | _,_=>.stuck
noncomputable def oMod:PV->PV->R PV
  | .int a,.int b=>if 0<b then .ok (.int (a%b)) else .stuck
  | _,_=>.stuck
noncomputable def yD:PV->PV->R PV
  | .int a,.int b=>if 0<=b/\b<=1000000/\nb a<=64 then .ok (.int (a ^ b.toNat)) else .stuck
  | _,_=>.stuck
noncomputable def jL:PV->PV->R PV
  | .int a,.int b=>if 0<=b/\nb a+b<=134217728 then .ok (.int (a*2 ^ b.toNat)) else .stuck
  | _,_=>.stuck
noncomputable def pS:PV->PV->R PV
  | .int a,.int b=>if 0<=b then .ok (.int (a/2 ^ b.toNat)) else .stuck
  | _,_=>.stuck
noncomputable def pT:PV->PV->R PV
  | .int a,.int b=>.ok (.int (Builtin.bitAnd a b))
  | _,_=>.stuck
noncomputable def Iv:PV->PV->R PV
  | .int a,.int b=>.ok (.int (Builtin.bitOr a b))
  | _,_=>.stuck
noncomputable def C9:PV->PV->R PV
  | .int a,.int b=>.ok (.int (Builtin.bitXor a b))
  | _,_=>.stuck
noncomputable def jb:PV->R PV
  | .int a=>.ok (.int (-a))
  | _=>.stuck
noncomputable def pA:PV->PV->R PV
  | .int a,.int b=>.ok (.bl (decide (a<b)))
  | _,_=>.stuck
noncomputable def wX:PV->PV->R PV
  | .int a,.int b=>.ok (.bl (decide (a<=b)))
  | _,_=>.stuck
noncomputable def pB:PV->PV->R PV
  | .int a,.int b=>.ok (.bl (decide (b<a)))
  | _,_=>.stuck
noncomputable def EK:PV->PV->R PV
  | .int a,.int b=>.ok (.bl (decide (b<=a)))
  | _,_=>.stuck
noncomputable def AK:PV->PV->Bool
  | .iO,.str _=>true
  | _,_=>false
noncomputable def bQ(a b:PV):R PV:=if oB a&&oB b then .ok (.bl (dO a b)) else if AK a b then .ok (.bl false) else .stuck
noncomputable def hU(a b:PV):R PV:=if oB a&&oB b then .ok (.bl (!dO a b)) else .stuck
noncomputable def isNone:PV->Bool
  | .aU=>true
  | _=>false
noncomputable def yE(a:PV):R PV:=.ok (.bl (isNone a))
noncomputable def yF(a:PV):R PV:=.ok (.bl (!isNone a))
mutual
noncomputable def ik:PV->Bool
  | .aU=>true
  | .bl _=>true
  | .int _=>true
  | .str _=>true
  | _=>false
end
noncomputable def pC(x y:PV):R PV:=match y with
  | .tup l=>if ik x&&l.all ik then .ok (.bl (l.any fun z=>dO z x)) else .stuck
  | .lst l=>if ik x&&l.all ik then .ok (.bl (l.any fun z=>dO z x)) else .stuck
  | .str z=>(match x with
    | .str y=>.ok (.bl (!(Builtin.Str.occurrences z y 0 z.length 1).isEmpty))
    | _=>.stuck)
  | _=>.stuck
noncomputable def nz(n:Nat)(i:Int):Option Nat:=if 0<=i then (if i<n then some i.toNat else none) else if -(n:Int)<=i then some (i+n).toNat else none
noncomputable def il(l:List PV)(i:Int):R PV:=match nz l.length i with
  | some j=>(match l[j]? with | some v=>.ok v | none=>.stuck)
  | none=>.stuck
noncomputable def aB:PV->PV->R PV
  | .tup l,.int i=>il l i
  | .lst l,.int i=>il l i
  | .str z,.int i=>(match nz z.cps.toList.length i with
    | some j=>(match z.cps.toList[j]? with | some c=>if z.length<=sizeLine then .ok (.str ⟨#[c]⟩) else .stuck | none=>.stuck)
    | none=>.stuck)
  | _,_=>.stuck
noncomputable def fE:List PV->R PV
  | [.tup l]=>.ok (.int l.length)
  | [.lst l]=>.ok (.int l.length)
  | [.str z]=>if z.length<=sizeLine then .ok (.int z.length) else .stuck
  | _=>.stuck
noncomputable def uN:List PV->R PV
  | [.int i]=>.ok (.int (if i<0 then -i else i))
  | _=>.stuck
noncomputable def PS:List PV->R PV
  | [.int i,.int j]=>.ok (.int (if j<i then j else i))
  | _=>.stuck
noncomputable def yG:List PV->R PV
  | [.int i,.int j]=>.ok (.int (if j>i then j else i))
  | _=>.stuck
noncomputable def uO:List PV->R PV
  | [.int i]=>.ok (.int i)
  | [.bl k]=>.ok (.int (if k then 1 else 0))
  | _=>.stuck
noncomputable def jX:PV->R PV
  | .int i=>.ok (.int (nb i))
  | _=>.stuck
noncomputable def EL:List PV->R PV
  | [.tup l]=>.ok (.lst l)
  | [.lst l]=>.ok (.lst l)
  | _=>.stuck
noncomputable def AL:List PV->R PV
  | [.tup l]=>.ok (.tup l)
  | [.lst l]=>.ok (.tup l)
  | _=>.stuck
inductive Ty where | int | bool | str | tuple | list | dict
noncomputable def dG:PV->Ty->Option Bool
  | .aU,_=>some false
  | .bl _,.int=>some true
  | .bl _,.bool=>some true
  | .bl _,_=>some false
  | .int _,.int=>some true
  | .int _,_=>some false
  | .str _,.str=>some true
  | .str _,_=>some false
  | .tup _,.tuple=>some true
  | .tup _,_=>some false
  | .lst _,.list=>some true
  | .lst _,_=>some false
  | .iO,.dict=>some true
  | .iO,_=>some false
  | _,_=>none
noncomputable def ae(i:Nat):FE:=fun ρ=>iP ρ i
noncomputable def fC(v:PV):FE:=fun _=>.ok v
noncomputable def ag(o:PV->PV->R PV)(a b:FE):FE:=fun ρ=>(a ρ).bind fun x=>(b ρ).bind fun y=>o x y
noncomputable def gA(o:PV->R PV)(a:FE):FE:=fun ρ=>(a ρ).bind o
noncomputable def gB:PV->R Bool
  | .bl b=>.ok b
  | _=>.stuck
noncomputable def me(a b:FE):FE:=fun ρ=>(a ρ).bind fun x=>(gB x).bind fun c=>if c then b ρ else .ok (.bl false)
noncomputable def EM(a b:FE):FE:=fun ρ=>(a ρ).bind fun x=>(gB x).bind fun c=>if c then .ok (.bl true) else b ρ
noncomputable def pU(a:FE):FE:=fun ρ=>(a ρ).bind fun x=>(gB x).bind fun c=>.ok (.bl (!c))
noncomputable def gf(o o':PV->PV->R PV)(a b c:FE):FE:=fun ρ=>(a ρ).bind fun x=>(b ρ).bind fun y=>(o x y).bind fun r=>(gB r).bind fun k =>
  if k then (c ρ).bind fun z=>o' y z else .ok (.bl false)
noncomputable def iQ(t:FT)(a b:FE):FE:=fun ρ=>(t ρ).bind fun c=>if c then a ρ else b ρ
noncomputable def ax:FA:=fun _=>.ok []
noncomputable def af(a:FE)(r:FA):FA:=fun ρ=>(a ρ).bind fun x=>(r ρ).bind fun xs=>.ok (x::xs)
noncomputable def eT(a:FA):FE:=fun ρ=>(a ρ).bind fun xs=>if xs.length<=sizeLine then .ok (.tup xs) else .stuck
noncomputable def cB(a:FA):FE:=fun ρ=>(a ρ).bind fun xs=>if xs.length<=sizeLine then .ok (.lst xs) else .stuck
noncomputable def aF(F:List PV->R PV)(a:FA):FE:=fun ρ=>(a ρ).bind F
noncomputable def iH(t:Ty)(a:FE):FE:=fun ρ=>(a ρ).bind fun x=>match dG x t with | some b=>.ok (.bl b) | none=>.stuck
noncomputable def under(c d:Nat):Bool:=c == d||d == 0
noncomputable def gh(ks:List Nat)(d:Nat)(a:FE):FE:=fun ρ=>(a ρ).bind fun x=>match x with
  | .exc c=>if ks.contains c then .ok (.bl (under c d)) else .stuck
  | .aU=>.ok (.bl false)
  | _=>.stuck
noncomputable def qF(ks:List Nat)(a:FE):FE:=fun ρ=>(a ρ).bind fun x=>match x with
  | .exc c=>if ks.contains c then .ok (.bl true) else .stuck
  | .aU=>.ok (.bl false)
  | _=>.stuck
noncomputable def aP(a:FE):FT:=fun ρ=>(a ρ).bind eR
noncomputable def yH(a b:FT):FT:=fun ρ=>(a ρ).bind fun c=>if c then b ρ else .ok false
noncomputable def nA(a b:FT):FT:=fun ρ=>(a ρ).bind fun c=>if c then .ok true else b ρ
noncomputable def jc(a:FT):FT:=fun ρ=>(a ρ).bind fun c=>.ok (!c)
noncomputable def fH(n d:Nat):Option Int->Nat
  | none=>d
  | some v=>if v<0 then (v+(n:Int)).toNat else min v.toNat n
noncomputable def jM(l:List PV)(lo hi:Option Int):List PV:=(l.drop (fH l.length 0 lo)).take (fH l.length l.length hi - fH l.length 0 lo)
abbrev FO:=ay->R (Option Int)
noncomputable def mf:FO:=fun _=>.ok none
noncomputable def jr(a:FE):FO:=fun ρ=>(a ρ).bind fun x=>match x with | .int i=>.ok (some i) | _=>.stuck
noncomputable def nB(z:Str)(lo hi:Option Int):Str:=⟨((z.cps.toList.drop (fH z.cps.toList.length 0 lo)).take (fH z.cps.toList.length z.cps.toList.length hi - fH z.cps.toList.length 0 lo)).toArray⟩
noncomputable def lz(x:PV)(lo hi:Option Int):R PV:=match x with
  | .str z=>if z.length<=sizeLine then .ok (.str (nB z lo hi)) else .stuck
  | .lst l=>.ok (.lst (jM l lo hi))
  | _=>.stuck
noncomputable def mh(a:FE)(l h:FO):FE:=fun ρ=>(a ρ).bind fun x=>(l ρ).bind fun lo=>(h ρ).bind fun hi=>lz x lo hi
noncomputable def bM:FS:=fun ρ=>.next ρ
noncomputable def aH(f g:FS):FS:=fun ρ=>match f ρ with
  | .next ρ'=>g ρ'
  | o=>o
noncomputable def Iw:FS:=fun ρ=>.brk ρ
noncomputable def LV:FS:=fun ρ=>.cont ρ
noncomputable def jS(r:R PV)(ρ:ay)(k:PV->SR):SR:=match r with
  | .ok v=>k v
  | .exc c=>.exc c ρ
  | .stuck=>.stuck
noncomputable def bg(a:FE):FS:=fun ρ=>jS (a ρ) ρ fun v=>.ret v
noncomputable def LW:FS:=fun _=>.ret .aU
noncomputable def d7(a:FE):FS:=fun ρ=>jS (a ρ) ρ fun _=>.next ρ
noncomputable def bf(i:Nat)(a:FE):FS:=fun ρ=>jS (a ρ) ρ fun v=>.next (ρ.set i (some v))
noncomputable def jy:List Nat->List PV->ay->Option ay
  | [],[],ρ=>some ρ
  | i::r,v::vs,ρ=>jy r vs (ρ.set i (some v))
  | _,_,_=>none
noncomputable def cy(t:FT)(f g:FS):FS:=fun ρ=>match t ρ with
  | .ok c=>if c then f ρ else g ρ
  | .exc c=>.exc c ρ
  | .stuck=>.stuck
noncomputable def Iy(c:Nat):FS:=fun ρ=>.exc c ρ
noncomputable def eB:R PV->Bool
  | .ok (.int i)=>decide (i.natAbs<18446744073709551616)
  | _=>false
noncomputable def cJ(k:ay->Bool)(c:Nat):FS:=fun ρ=>if k ρ then .exc c ρ else .stuck
noncomputable def forL(i:Nat)(body:FS):List PV->FS
  | [],ρ=>.next ρ
  | x::r,ρ=>match body (ρ.set i (some x))with
    | .next ρ'=>forL i body r ρ'
    | .cont ρ'=>forL i body r ρ'
    | .brk ρ'=>.next ρ'
    | o=>o
noncomputable def lA(i:Nat)(it:FA)(body:FS):FS:=fun ρ=>match it ρ with
  | .ok l=>forL i body l ρ
  | .exc c=>.exc c ρ
  | .stuck=>.stuck
noncomputable def lB(a:FE):FA:=fun ρ=>(a ρ).bind fun x=>match x with
  | .lst l=>.ok l
  | .tup l=>.ok l
  | _=>.stuck
noncomputable def gI(lo hi st:Int):Nat:=(if st>0 then (if lo<hi then (hi - lo - 1)/st+1 else 0) else (if lo>hi then (lo - hi - 1)/(-st)+1 else 0)).toNat
noncomputable def cV(lo hi st:Int):List PV:=(List.range (gI lo hi st)).map fun(k:Nat)=>.int (lo+(k:Int)*st)
def cC(i:Int):Prop:=-(2 ^ 60)<=i/\i<2 ^ 60
noncomputable instance (i:Int):Decidable (cC i):=inferInstanceAs (Decidable (_/\_))
noncomputable def eD(a:FA):FA:=fun ρ=>(a ρ).bind fun xs=>match xs with
  | [.int hi]=>if cC hi then .ok (cV 0 hi 1) else .stuck
  | [.int lo,.int hi]=>if cC lo/\cC hi then .ok (cV lo hi 1) else .stuck
  | [.int lo,.int hi,.int st]=>if cC lo/\cC hi/\cC st/\st≠0 then .ok (cV lo hi st) else .stuck
  | _=>.stuck
noncomputable def lC(a:FE):FA:=fun ρ=>(a ρ).bind fun x=>match x with
  | .str z=>.ok (z.cps.toList.map fun c=>.str ⟨#[c]⟩)
  | _=>.stuck
noncomputable def fO(t:FT)(body:FS):Nat->FS
  | 0,_=>.stuck
  | n+1,ρ=>match t ρ with
    | .ok true=>(match body ρ with
      | .next ρ'=>fO t body n ρ'
      | .cont ρ'=>fO t body n ρ'
      | .brk ρ'=>.next ρ'
      | o=>o)
    | .ok false=>.next ρ
    | .exc c=>.exc c ρ
    | .stuck=>.stuck
noncomputable def pV:Nat:=100000
noncomputable def jz(t:FT)(body:FS):FS:=fun ρ=>fO t body pV ρ
noncomputable def Iz(body:FS)(ks:List Nat)(d n x:Nat):FS:=fun ρ=>match body ρ with
  | .exc c ρ'=>if ks.contains c&&under c d then .next (((ρ'.set n (some (.exc c))).set x (some (.exc c))).set n none) else .stuck
  | o=>o
noncomputable def start(n:Nat)(vs:List PV):ay:=vs.map some++List.replicate (n - vs.length) none
noncomputable def a9(n:Nat)(b:FS)(vs:List PV):R PV:=match b (start n vs)with
  | .next _=>.ok .aU
  | .ret v=>.ok v
  | .exc c _=>.exc c
  | _=>.stuck
end Mi
namespace Mi
open PySem
noncomputable def qG:FE:=fun _=>.stuck
noncomputable def oC(i:Nat)(g:FS):FS:=fun ρ=>match ρ[i]? with
  | some (some (.own l))=>g (ρ.set i (some (.lst l)))
  | _=>g ρ
noncomputable def uP(i:Nat)(a:FE):FS:=fun ρ=>jS (a ρ) ρ fun v=>match v with
  | .lst l=>.next (ρ.set i (some (.own l)))
  | _=>.stuck
noncomputable def lM(i:Nat)(g:FA):FS:=fun ρ=>match ρ[i]? with
  | some (some (.own l))=>(match g ρ with
    | .ok [v]=>if l.length<sizeLine then .next (ρ.set i (some (.own (l ++[v])))) else .stuck
    | .ok _=>.stuck
    | .exc c=>.exc c ρ
    | .stuck=>.stuck)
  | _=>.stuck
def uQ(f:Obj->Obj):Prop:=∀ o,(f o).cls=o.cls/\(f o).dict=o.dict/\(f o).isFreed=o.isFreed
def Kd(e:Addr)(h h':Heap):Prop:=∀ o,h.get? e=some o->∃ o',h'.get? e=some o'/\o'.cls=o.cls/\o'.dict=o.dict
theorem Kd.refl(e:Addr)(h:Heap):Kd e h h:=fun o q=>⟨o,q,rfl,rfl⟩
theorem Kd.trans(a:Kd e h h1)(b:Kd e h1 h2):Kd e h h2:=fun o q=>by
  obtain⟨o1,q1,c1,d1⟩:=a o q;obtain⟨o2,q2,c2,d2⟩:=b o1 q1;exact⟨o2,q2,c2.trans c1,d2.trans d1⟩
inductive Tame:{α:Type}->Sem α->Prop where
  | pure {α:Type} (a:α):Tame (.pure a)
  | raise {α:Type} (e:Value):Tame (.raise e:Sem α)
  | unsupported {α:Type} (w:String):Tame (.unsupported w:Sem α)
  | rule {α:Type}{t:String}{k:Unit->Sem α} (h:Tame (k ())):Tame (.rule t k)
  | load {α:Type}{a:Addr}{p:Option Value}{k:Obj->Sem α} (h:∀ o,Tame (k o)):Tame (.load a p k)
  | update {α:Type}{a:Addr}{p:Option Value}{f:Obj->Obj}{k:Unit->Sem α} (hf:uQ f) (h:Tame (k ())):Tame (.update a p f k)
  | alloc {α:Type}{o:Obj}{k:Addr->Sem α} (h:∀ a,Tame (k a)):Tame (.alloc o k)
  | register {α:Type}{a:Addr}{k:Unit->Sem α}:Tame (.register a k)
  | stack {α:Type}{k:List (Code×Pos)->Sem α} (h:∀ a,Tame (k a)):Tame (.stack k)
theorem Tame.bind{α β:Type}{t:Sem α}{f:α->Sem β}(h:Tame t)(g:∀ a,Tame (f a)):Tame (t >>= f):=by
  show Tame (t.bind f)
  induction h with
  | pure a=>exact g a
  | raise e=>exact .raise e
  | unsupported w=>exact .unsupported w
  | rule _ ih=>exact .rule ih
  | load _ ih=>exact .load fun o=>ih o
  | update hf _ ih=>exact .update hf ih
  | alloc _ ih=>exact .alloc fun a=>ih a
  | register=>exact .register
  | stack _ ih=>exact .stack fun a=>ih a
theorem sR{h:Heap}{f:Obj->Obj} (hf:uQ f):Kd e h (h.update a f):=fun o q=>by
  by_cases ha:a=e
  . subst ha;have nf:o.isFreed=false:=(Heap.get?_some_iff.mp q).2
    exact⟨f o,Heap.get?_update_self f q (by rw[(hf o).2.2];exact nf),(hf o).1,(hf o).2.1⟩
  . exact⟨o,(Yv _ _ ha).trans q,rfl,rfl⟩
theorem Tame.keep{α:Type}{t:Sem α}(h:Tame t)(e:Addr):∀{Q:α->Pos->Shared->Prop}{E:Value->Pos->Shared->Prop}{p:Pos}{s:Shared},Sem.wp M Γ t Q E p s ->
    Sem.wp M Γ t (fun a p s'=>Q a p s'/\Kd e s.heap s'.heap) (fun x p s'=>E x p s'/\Kd e s.heap s'.heap) p s:=by
  induction h with
  | pure a=>intro Q E p s w;exact⟨w,Kd.refl _ _⟩
  | raise x=>intro Q E p s w;exact⟨w,Kd.refl _ _⟩
  | unsupported x=>intro Q E p s w;exact w.elim
  | rule _ ih=>intro Q E p s w;exact ih w
  | load _ ih=>intro Q E p s w;obtain⟨o,h1,h2⟩:=w;exact⟨o,h1,ih o h2⟩
  | update hf _ ih =>
    intro Q E p s w;obtain⟨h1,h2⟩:=w;exact⟨h1,Sem.wp_mono M Γ _ (fun a p s' ⟨q,k⟩=>⟨q,(sR hf).trans k⟩) (fun x p s' ⟨q,k⟩=>⟨q,(sR hf).trans k⟩) _ _ (ih h2)⟩
  | alloc _ ih =>
    intro Q E p s w;have k0:∀(o:Obj),Kd e s.heap (s.heap.push o):=fun o o' q=>⟨o',VW _ q,rfl,rfl⟩
    exact Sem.wp_mono M Γ _ (fun a p s' ⟨q,k⟩=>⟨q,(k0 _).trans k⟩) (fun x p s' ⟨q,k⟩=>⟨q,(k0 _).trans k⟩) _ _ (ih _ w)
  | register=>intro Q E p s w;exact w.elim
  | stack _ ih=>intro Q E p s w;exact ih _ w
theorem Tame.any{α:Type}{t:Sem α}(h:Tame t)(e:Addr){Q:α->Shared->Prop}{E:Value->Shared->Prop}{s:Shared}(w:wpAny M A t Q E s) :
    wpAny M A t (fun a s'=>Q a s'/\Kd e s.heap s'.heap) (fun x s'=>E x s'/\Kd e s.heap s'.heap) s:=fun Γ p hΓ=>h.keep e (w Γ p hΓ)
theorem wx(g:Array Value->Array Value):uQ (Obj.mapFields g):=fun o=>by
  obtain⟨c,d,dt,sl⟩:=o;cases dt<;>exact⟨rfl,rfl,rfl⟩
theorem yI(g:Obj->Array (Option Value)):uQ (fun o=>{ o with slots:=g o }):=fun o=>by
  obtain⟨c,d,dt,sl⟩:=o;cases dt<;>exact⟨rfl,rfl,rfl⟩
theorem nC(a:Addr):Tame (PySem.load a):=.load fun o=>.pure o
theorem pD(a:Addr){f:Obj->Obj}(h:uQ f):Tame (PySem.update a f):=.update h (.pure ())
theorem tY(v:Value):Tame (fieldsOf v):=by
  unfold fieldsOf;cases v<;>first | exact .unsupported _ | skip
  refine Tame.bind (nC _) fun o=>?_;cases o.data<;>first | exact .unsupported _ | exact .pure _
theorem jY(v:Value)(i:Nat):Tame (field v i):=by
  unfold field;refine Tame.bind (tY v) fun vs=>?_;split
  . exact .pure _
  . exact .unsupported _
theorem ip(v:Value)(i:Nat)(x:Value):Tame (setField v i x):=by
  unfold setField;cases v<;>first | exact .unsupported _ | skip
  unfold updateField;refine Tame.bind (nC _) fun o=>?_;cases o.data<;>first | exact .unsupported _ | skip
  dsimp only;split
  . exact pD _ (wx _)
  . exact .unsupported _
theorem jd(e:Value)(f:Option Addr):Tame (setFlight e f):=by
  unfold setFlight;refine Tame.bind (jY _ _) fun tb=>?_;split
  . exact ip _ _ _
  . exact .pure _
theorem mj:Tame PySem.stack:=.stack fun a=>.pure a
theorem wz(env:Env)(outer:List Env):Tame (behindIsImport env outer):=by
  unfold behindIsImport;split
  . exact .pure _
  . split
    . exact .pure _
    . exact Tame.bind (jY _ _) fun _=>.pure _
theorem AM(env:Env)(b:Bool):∀ l,Tame (keptBack env b l)
  | []=>by
    show Tame (if (env.scope.isGenerator||env.scope.isCoroutine)=true then Pure.pure Value.none else _);split
    . exact .pure _
    . refine Tame.bind ?_ fun x=>?_
      . unfold underTheClaimsCaller;exact Tame.bind mj fun _=>.pure _
      . exact .pure _
  | c::r=>.pure _
theorem qH:∀ l,Tame (readyFrames l)
  | []=>.pure _
  | env::outer=>by
    unfold readyFrames;split
    . refine Tame.bind (nC _) fun o=>?_;split
      . exact .pure _
      . refine Tame.bind (wz _ _) fun _=>Tame.bind (AM _ _ _) fun _=>Tame.bind (pD _ (yI _)) fun _=>qH outer
    . exact .unsupported _
theorem pW:∀ l,Tame (frameObject l)
  | []=>.pure _
  | env::outer=>by unfold frameObject;exact Tame.bind (qH _) fun _=>.pure _
theorem nD(env:Env):Tame (frameOf env):=by
  unfold frameOf;refine Tame.bind (Tame.bind mj fun _=>.pure _) fun l=>Tame.bind (pW _) fun x=>?_;split
  . exact .pure _
  . exact .unsupported _
theorem qI(f:Addr)(b:Bool):Tame (entryPlaceOf f b):=by
  unfold entryPlaceOf;refine Tame.bind mj fun a=>?_;split<;>exact .pure _
theorem qJ(a b c d e:Value)(l:List Value):Tame (EntryCells.newEntry a b c d e l):=by
  have al:∀ o:Obj,Tame (do let a <- PySem.alloc o;Pure.pure (Value.ref a)):=fun o=>Tame.bind (.alloc fun a=>.pure a) fun a=>.pure _;unfold EntryCells.newEntry newFields newObj newObjAsIs;dsimp only;generalize (if l.isEmpty=true then List.replicate 6 Value.none else l)=l';split
  . exact Tame.bind (.unsupported _) fun _=>al _
  . exact al _
theorem AN(e:Value)(env:Env):Tame (noteFrame e env):=by
  unfold noteFrame;split
  . refine Tame.bind (jY _ _) fun head=>?_;split
    . refine Tame.bind (jY _ _) fun x=>?_;split
      . exact .pure _
      . refine Tame.bind (ip _ _ _) fun _=>Tame.bind (nD _) fun _=>Tame.bind (qI _ _) fun _=>Tame.bind (qJ ..) fun _=>ip _ _ _
    . refine Tame.bind (nD _) fun _=>Tame.bind (qI _ _) fun _=>Tame.bind (qJ ..) fun _=>ip _ _ _
  . exact .unsupported _
open PySem.Spec PyProof.Rows L2
abbrev SV:=L2.St
noncomputable def uR(a C:Addr):HO:=.ext fun h=>∃ o vs,h.get? a=some o/\o.cls=.ref C/\o.dict=none/\o.data=.fields vs
mutual
inductive Rp (K:PySem.W.Frag) (cl:Nat->Addr) (Hf:Hp):V->PV->Prop where
  | aU:Rp K cl Hf .aU .aU
  | bl (b:Bool):Rp K cl Hf (.bl b) (.bl b)
  | int (i:Int):Rp K cl Hf (.int i) (.int i)
  | str (x:Str):Rp K cl Hf (.str x) (.str x)
  | tup {a:Addr}{xs:List V}{ps:List PV} (h:iG K Hf a xs) (r:bB K cl Hf xs ps):Rp K cl Hf (.ref a) (.tup ps)
  | lst {a:Addr}{xs:List V}{ps:List PV} (h:fV K Hf a xs) (r:bB K cl Hf xs ps):Rp K cl Hf (.ref a) (.lst ps)
  | exc {a:Addr}{c:Nat} (h:Hf a=some (uR a (cl c))):Rp K cl Hf (.ref a) (.exc c)
  | iO {a:Addr} (h:Hf a=some (.dK [])):Rp K cl Hf (.ref a) .iO
  | ins {a dx:Addr}{c:Nat} (h:Hf a=some (.ins (cl c) dx [])):Rp K cl Hf (.ref a) (.ins c)
inductive bB (K:PySem.W.Frag) (cl:Nat->Addr) (Hf:Hp):List V->List PV->Prop where
  | nil:bB K cl Hf [] []
  | cons {v:V}{p:PV}{vs:List V}{ps:List PV} (r:Rp K cl Hf v p) (t:bB K cl Hf vs ps):bB K cl Hf (v::vs) (p::ps)
end
section
variable {K:PySem.W.Frag}{cl:Nat->Addr}{Hf ao:Hp}
theorem aO.dX(e:aO H H')(h:iG K H a xs):iG K H' a xs:=by
  rcases h with(h | ⟨o,h⟩) | h
  . exact .inl (.inl (e _ _ h))
  . exact .inl (.inr ⟨o,e _ _ h⟩)
  . exact .inr h
mutual
theorem Rp.keep(s:aO Hf ao):∀{v:V}{p:PV},Rp K cl Hf v p->Rp K cl ao v p
  | _,_,.aU=>.aU
  | _,_,.bl b=>.bl b
  | _,_,.int i=>.int i
  | _,_,.str x=>.str x
  | _,_,.tup h r=>.tup (aO.dX s h) (bB.keep s r)
  | _,_,.lst h r=>.lst (s.seq h) (bB.keep s r)
  | _,_,.exc h=>.exc (s _ _ h)
  | _,_,.iO h=>.iO (s _ _ h)
  | _,_,.ins h=>.ins (s _ _ h)
theorem bB.keep(s:aO Hf ao):∀{vs:List V}{ps:List PV},bB K cl Hf vs ps->bB K cl ao vs ps
  | _,_,.nil=>.nil
  | _,_,.cons r t=>.cons (Rp.keep s r) (bB.keep s t)
end
theorem bB.length:∀{vs:List V}{ps:List PV},bB K cl Hf vs ps->vs.length=ps.length
  | _,_,.nil=>rfl
  | _,_,.cons _ t=>Xq (·+1) (bB.length t)
theorem bB.get:∀{vs:List V}{ps:List PV}{i:Nat}{p:PV},bB K cl Hf vs ps->ps[i]?=some p->∃ v,vs[i]?=some v/\Rp K cl Hf v p
  | _,_,_,_,.nil,e=>by simp at e
  | _,_,0,_,.cons r _,e=>by simp at e;subst e;exact⟨_,rfl,r⟩
  | _,_,i+1,p,.cons _ t,e=>by
    obtain⟨v,h1,h2⟩:=bB.get (i:=i) (p:=p) t (by simpa using e);exact⟨v,by simpa using h1,h2⟩
theorem bB.get':∀{vs:List V}{ps:List PV}{i:Nat}{v:V},bB K cl Hf vs ps->vs[i]?=some v->∃ p,ps[i]?=some p/\Rp K cl Hf v p
  | _,_,_,_,.nil,e=>by simp at e
  | _,_,0,_,.cons r _,e=>by simp at e;subst e;exact⟨_,rfl,r⟩
  | _,_,i+1,v,.cons _ t,e=>by
    obtain⟨p,h1,h2⟩:=bB.get' (i:=i) (v:=v) t (by simpa using e);exact⟨p,by simpa using h1,h2⟩
theorem bB.append:∀{vs ws:List V}{ps qs:List PV},bB K cl Hf vs ps->bB K cl Hf ws qs->bB K cl Hf (vs++ws) (ps++qs)
  | _,_,_,_,.nil,s=>s
  | _,_,_,_,.cons r t,s=>.cons r (bB.append t s)
theorem bB.take:∀{vs:List V}{ps:List PV}(n:Nat),bB K cl Hf vs ps->bB K cl Hf (vs.take n) (ps.take n)
  | _,_,0,_=>.nil
  | _,_,_+1,.nil=>.nil
  | _,_,n+1,.cons r t=>.cons r (bB.take n t)
theorem bB.drop:∀{vs:List V}{ps:List PV}(n:Nat),bB K cl Hf vs ps->bB K cl Hf (vs.drop n) (ps.drop n)
  | _,_,0,r=>r
  | _,_,_+1,.nil=>.nil
  | _,_,n+1,.cons _ t=>bB.drop n t
theorem bB.ints:∀(ns:List Int),bB K cl Hf (ns.map V.int) (ns.map PV.int)
  | []=>.nil
  | n::r=>.cons (.int n) (bB.ints r)
end
structure Ext(Hf H ao H':Hp):Prop where
  all:aO H H'
  bw:aO Hf ao
  sub:aO ao H'
  old:∀ b,H b≠none->ao b=Hf b
theorem Ext.refl(s:aO Hf H):Ext Hf H Hf H:=⟨aO.refl _,aO.refl _,s,fun _ _=>rfl⟩
theorem Ext.trans(a:Ext Hf H aD H1)(b:Ext aD H1 bG H2):Ext Hf H bG H2 :=
  ⟨a.all.trans b.all,a.bw.trans b.bw,b.sub,fun c n=>by
    have n1:H1 c≠none:=by
      cases e:H c with
      | none=>exact absurd e n
      | some o=>rw[a.all c o e];intro z;cases z
    rw[b.old c n1,a.old c n]⟩
theorem dk{H:Hp}{p:Addr}(h:H p=none)(o:HO):aO H (upd H p o):=fun b u q=>by rw[a7 (fY q h)];exact q
theorem Ext.new(s:aO Hf H){p:Addr}(h:H p=none)(o:HO):Ext Hf H (upd Hf p o) (upd H p o):=by
  have hf:Hf p=none:=s.free h;refine⟨dk h o,dk hf o,fun b u q=>?_,fun b n=>?_⟩
  . by_cases e:b=p
    . subst e;rw[bp]at q ⊢;exact q
    . rw[a7 e]at q ⊢;exact s b u q
  . rw[a7 (fun e=>n (by rw[e];exact h))]
theorem Ext.yJ(s:aO Hf H){p:Addr}(h:H p=none)(o:HO):Ext Hf H Hf (upd H p o) :=
  ⟨dk h o,aO.refl _,fun b u q=>dk h o b u (s b u q),fun _ _=>rfl⟩
def Slot(K:PySem.W.Frag)(cl:Nat->Addr)(H0 Hf H:Hp)(v:V):PV->Prop
  | .own ps=>∃ a xs,v=.ref a/\H a=some (.lst xs)/\Hf a=none/\H0 a=none/\bB K cl Hf xs ps
  | p=>Rp K cl Hf v p
structure Rep(K:PySem.W.Frag)(cl:Nat->Addr)(aA H0 Hf H:Hp)(σ:SV)(ρ:ay):Prop where
  ext:Ext aA H0 Hf H
  slot:∀(i:Nat)(p:PV),ρ[i]?=some (some p)->∃ v,σ[i]?=some (some v)/\Slot K cl H0 Hf H v p
  dist:∀(i j:Nat)(ps qs:List PV)(a:Addr),ρ[i]?=some (some (.own ps))->ρ[j]?=some (some (.own qs))->σ[i]?=some (some (.ref a))->σ[j]?=some (some (.ref a))->i=j
section
variable {K:PySem.W.Frag}{cl:Nat->Addr}{aA H0 Hf H ao H':Hp}{σ:SV}{ρ:ay}
theorem Rep.sub(r:Rep K cl aA H0 Hf H σ ρ):aO Hf H:=r.ext.sub
theorem Slot.keep(e:Ext Hf H ao H')(h:Slot K cl H0 Hf H v p):Slot K cl H0 ao H' v p:=by
  cases p with
  | own ps =>
    obtain⟨a,xs,e1,e2,e3,e4,e5⟩:=h;exact⟨a,xs,e1,e.all _ _ e2,by rw[e.old a (by rw[e2];intro z;cases z)];exact e3,e4,e5.keep e.bw⟩
  | _=>exact Rp.keep e.bw h
theorem Rep.keep(r:Rep K cl aA H0 Hf H σ ρ)(e:Ext Hf H ao H'):Rep K cl aA H0 ao H' σ ρ :=
  ⟨r.ext.trans e,fun i p h=>by
    obtain⟨v,h1,h2⟩:=r.slot i p h;exact⟨v,h1,h2.keep e⟩,r.dist⟩
theorem sT:∀{ρ:ay}{i:Nat}{p:PV},iP ρ i=.ok p->ρ[i]?=some (some p)/\∀ l,p≠.own l
  | [],_,_,h=>by simp[iP]at h
  | o::r,0,p,h=>by
    have h':bY o=.ok p:=h;cases o with
    | none=>simp[bY]at h'
    | some q =>
      cases q<;>first
        | (simp[bY]at h';done)
        | (simp only[bY]at h';cases h';exact⟨rfl,fun l z=>by cases z⟩)
  | o::r,i+1,p,h=>by
    obtain⟨a,b⟩:=sT (ρ:=r) (i:=i) (p:=p) h;exact⟨by simpa using a,b⟩
theorem qK:∀{ρ:ay}{i:Nat}{c:Nat},iP ρ i≠.exc c
  | [],_,_,h=>by simp[iP]at h
  | o::r,0,c,h=>by
    have h':bY o=.exc c:=h;cases o with
    | none=>simp[bY]at h'
    | some q=>cases q<;>simp[bY]at h'
  | o::r,i+1,c,h=>qK (ρ:=r) (i:=i) (c:=c) h
theorem Rep.var(r:Rep K cl aA H0 Hf H σ ρ){p:PV}(h:iP ρ i=.ok p):∃ v,σ[i]?=some (some v)/\Rp K cl Hf v p:=by
  obtain⟨e,n⟩:=sT h;obtain⟨v,h1,h2⟩:=r.slot i p e;refine⟨v,h1,?_⟩;cases p with
  | own l=>exact absurd rfl (n l)
  | _=>exact h2
theorem Rep.set(r:Rep K cl aA H0 Hf H σ ρ)(i:Nat)(h:Rp K cl Hf v p)(hl:i<σ.length):Rep K cl aA H0 Hf H (σ.set i (some v)) (ρ.set i (some p)):=by
  have np:∀ l,p≠.own l:=fun l z=>by subst z;cases h
  refine⟨r.ext,fun j q hq=>?_,fun j k ps qs a h1 h2 h3 h4=>?_⟩
  . by_cases e:i=j
    . subst e;have hi:i<ρ.length:=by
        rw[XO]at hq;by_cases hh:i<ρ.length
        . exact hh
        . simp[hh]at hq
      rw[Wg hi]at hq;cases hq;refine⟨v,by rw[Wg hl],?_⟩;cases p with
      | own l=>exact absurd rfl (np l)
      | _=>exact h
    . rw[V4 e]at hq;obtain⟨w,a,b⟩:=r.slot j q hq;exact⟨w,by rw[V4 e];exact a,b⟩
  . have ne:∀{m:Nat}{l:List PV},(ρ.set i (some p))[m]?=some (some (.own l))->i≠m:=fun{m l} hm z=>by
      subst z;have hi:i<ρ.length:=by
        rw[XO]at hm;by_cases hh:i<ρ.length
        . exact hh
        . simp[hh]at hm
      rw[Wg hi]at hm;cases hm;exact np l rfl
    have n1:=ne h1;have n2:=ne h2
    rw[V4 n1]at h1 h3;rw[V4 n2]at h2 h4;exact r.dist j k ps qs a h1 h2 h3 h4
end
def hV(X:Cx)(pins:List (Addr×Obj))(H:Hp)(b:Addr):Prop :=
  H b≠none\/(∃ p∈X.pn++pins,p.1=b)\/(∃ o,X.s₀.heap.get? b=some o)\/∃ x,X.env.cells.lookup x=some b
def pE(X:Cx)(pins:List (Addr×Obj))(H:Hp)(B h:Heap):Prop:=∀ b o,h.get? b=some o->hV X pins H b->b ∉ fM X.stack->B.get? b=some o
def uS(B:Heap)(l:List Env)(e:Addr)(cls a0:Value)(h:Heap):Prop :=
  B.StaysIn h/\B.get? e=none/\h.FunFrames B l/\∃ oe vs,h.get? e=some oe/\oe.cls=cls/\oe.dict=none/\oe.data=.fields vs/\vs[0]?=some a0/\vs[1]?=some .none
def kL(e:Addr)(h:Heap):Prop:=∃ o,h.get? e=some o/\o.dict=none
def mP(X:Cx)(pins:List (Addr×Obj))(H:Hp)(e C:Addr)(h:Heap):Prop :=
  ∃ B a0,pE X pins H B h/\kL e h/\(uS B X.stack e (.ref C) a0 h\/Heap.HeldW B X.stack e (.ref C) a0 X.env.locals h\/Heap.FlyingW B X.stack e (.ref C) a0 h)
def AO(X:Cx)(cl:Nat->Addr)(pins:List (Addr×Obj))(σ:SV)(Hf H:Hp)(c:Nat)(u:Value)(s:Shared):Prop :=
  ∃ e ao H',u=.ref e/\Inv X pins σ H' s/\Ext Hf H ao H'/\mP X pins H' e (cl c) s.heap
theorem AO.from{cl:Nat->Addr} (e:Ext Hf H aD H1) (x:AO X cl pins σ aD H1 c u s):AO X cl pins σ Hf H c u s:=by
  obtain⟨a,ao,H',h1,h2,h3,h4⟩:=x;exact⟨a,ao,H',h1,h2,e.trans h3,h4⟩
section
variable (X:Cx) (cl:Nat->Addr)
def eU(pins:List (Addr×Obj))(σ:SV)(Hf H:Hp)(r:R PV)(u:Value)(s:Shared):Prop :=
  ∃ p v ao H',r=.ok p/\Inv X pins σ H' s/\RelV v u/\Ext Hf H ao H'/\Rp X.K cl ao v p
def bW{α:Type}(pins:List (Addr×Obj))(σ:SV)(Hf H:Hp)(r:R α)(u:Value)(s:Shared):Prop :=
  ∃ c,r=.exc c/\AO X cl pins σ Hf H c u s
def mQ(pins:List (Addr×Obj))(σ:SV)(Hf H:Hp)(r:R Bool)(b:Bool)(s:Shared):Prop :=
  ∃ ao H',r=.ok b/\Inv X pins σ H' s/\Ext Hf H ao H'
def Q6(pins:List (Addr×Obj))(σ:SV)(Hf H:Hp)(r:R (List PV))(us:List Value)(s:Shared):Prop :=
  ∃ ps vs ao H',r=.ok ps/\Inv X pins σ H' s/\Vals vs us/\Ext Hf H ao H'/\bB X.K cl ao vs ps
structure ME(e:Expr)(f:FE):Prop where
  run':∀(pins:List (Addr×Obj))(s:Shared)(σ:SV)(aA H0 Hf H:Hp)(ρ:ay),Inv X pins σ H s->Rep X.K cl aA H0 Hf H σ ρ->f ρ≠.stuck ->
    wpAny (model X.prog X.w) X.A (eval e X.env) (eU X cl pins σ Hf H (f ρ)) (bW X cl pins σ Hf H (f ρ)) s
noncomputable instance {e:Expr}{f:FE}:CoeFun (ME X cl e f) fun _=>∀(pins:List (Addr×Obj))(s:Shared)(σ:SV)(aA H0 Hf H:Hp)(ρ:ay),Inv X pins σ H s->Rep X.K cl aA H0 Hf H σ ρ->f ρ≠.stuck ->
    wpAny (model X.prog X.w) X.A (eval e X.env) (eU X cl pins σ Hf H (f ρ)) (bW X cl pins σ Hf H (f ρ)) s:=⟨ME.run'⟩
structure MT(e:Expr)(f:FT):Prop where
  run':∀(pins:List (Addr×Obj))(s:Shared)(σ:SV)(aA H0 Hf H:Hp)(ρ:ay),Inv X pins σ H s->Rep X.K cl aA H0 Hf H σ ρ->f ρ≠.stuck ->
    wpAny (model X.prog X.w) X.A (isTrue e X.env (eval e X.env)) (mQ X pins σ Hf H (f ρ)) (bW X cl pins σ Hf H (f ρ)) s
noncomputable instance {e:Expr}{f:FT}:CoeFun (MT X cl e f) fun _=>∀(pins:List (Addr×Obj))(s:Shared)(σ:SV)(aA H0 Hf H:Hp)(ρ:ay),Inv X pins σ H s->Rep X.K cl aA H0 Hf H σ ρ->f ρ≠.stuck ->
    wpAny (model X.prog X.w) X.A (isTrue e X.env (eval e X.env)) (mQ X pins σ Hf H (f ρ)) (bW X cl pins σ Hf H (f ρ)) s:=⟨MT.run'⟩
end
section
variable {X:Cx}{cl:Nat->Addr}{pins:List (Addr×Obj)}{s:Shared}{σ:SV}{aA H0 Hf H aD H1:Hp}{ρ:ay}{α:Type}
theorem ME.run(h:ME X cl e f)(I:Inv X pins σ H1 s)(r:Rep X.K cl aA H0 aD H1 σ ρ)(e0:Ext Hf H aD H1){k:PV->R α}(hs:(f ρ).bind k≠.stuck){Q:Value->Shared->Prop}
    (ok:∀ p v u s' ao H',(f ρ).bind k=k p->Inv X pins σ H' s'->RelV v u->Ext aD H1 ao H'->Rp X.K cl ao v p->Q u s') :
    wpAny (model X.prog X.w) X.A (eval e X.env) Q (bW X cl pins σ Hf H ((f ρ).bind k)) s:=by
  have hf:f ρ≠.stuck:=fun z=>hs (by rw[z];rfl);refine VN (h pins s σ aA H0 aD H1 ρ I r hf) (fun u s' q=>?_) fun u s' q=>?_
  . obtain⟨p,v,ao,H',e1,I',rv,ex,rp⟩:=q;exact ok p v u s' ao H' (by rw[e1];rfl) I' rv ex rp
  . obtain⟨c,e1,x⟩:=q;exact⟨c,by rw[e1];rfl,x.from e0⟩
theorem EN{t:Sem Value}{E:Value->Shared->Prop}
    (h:wpAny (model X.prog X.w) X.A t (EP (X.bR E) pins σ fun v H'=>∃ ao,Ext Hf H ao H'/\Rp X.K cl ao v p) E s):wpAny (model X.prog X.w) X.A t (eU X cl pins σ Hf H (.ok p)) E s :=
  ft h fun u s' ⟨v,H',I',rv,ao,ex,rp⟩=>⟨p,v,ao,H',rfl,I'.nh,rv,ex,rp⟩
theorem eU.from{e0:Ext Hf H aD H1}(h:eU X cl pins σ aD H1 r u s'):eU X cl pins σ Hf H r u s':=by
  obtain⟨p,v,ao,H',e1,I',rv,ex,rp⟩:=h;exact⟨p,v,ao,H',e1,I',rv,e0.trans ex,rp⟩
theorem bW.from{e0:Ext Hf H aD H1}{r:R α}(h:bW X cl pins σ aD H1 r u s'):bW X cl pins σ Hf H r u s':=by
  obtain⟨c,e1,x⟩:=h;exact⟨c,e1,x.from e0⟩
theorem IA{i:Nat}{x:Str}{pos:Pos}(hN:X.N[i]?=some x)(hv:kK X.env.scope x) (hd:(x ==("__debug__" : Str))=false:=by decide) (cU:(x ==("__classdict__" : Str))=false:=by decide) :
    ME X cl (.Name x pos) (ae i):=by
  refine⟨?_⟩;intro pins s σ aA H0 Hf H ρ I r hs;unfold ae at hs ⊢;cases e:iP ρ i with
  | stuck=>exact absurd e hs
  | exc c=>exact absurd e qK
  | ok p =>
    obtain⟨v,h1,h2⟩:=r.var e;generalize bW X cl pins σ Hf H (R.ok p)=E;refine EN ?_;refine(uD (X:=X.bR E) hN hv hd cU) pins s σ H _ (I.bR E) ?_;exact⟨v,h1,Hf,Ext.refl r.sub,h2⟩
theorem ki(h:∀ E,PE (X.bR E) e (tC v))(r:∀ Hf,Rp X.K cl Hf v p):ME X cl e (fC p):=by
  refine⟨?_⟩;intro pins s σ aA H0 Hf H ρ I rr hs;generalize bW X cl pins σ Hf H (fC p ρ)=E;refine EN ?_;refine h E pins s σ H _ (I.bR E) ?_;exact⟨Hf,Ext.refl rr.sub,r Hf⟩
theorem aj{i:Int}{j:Nat}{pos:Pos}:ME X cl (.Constant (.int i) j pos) (fC (.int i)):=ki (fun _=>HW) fun _=>.int i
theorem iq{b:Bool}{j:Nat}{pos:Pos}:ME X cl (.Constant (.bool b) j pos) (fC (.bl b)):=ki (fun _=>LO) fun _=>.bl b
theorem uT{j:Nat}{pos:Pos}:ME X cl (.Constant .none j pos) (fC .aU):=ki (fun _=>HX) fun _=>.aU
theorem ai{x:Str}{j:Nat}{pos:Pos}:ME X cl (.Constant (.str x) j pos) (fC (.str x)):=ki (fun _=>HY) fun _=>.str x
theorem GB{u:Value}{pos:Pos} (hg:Gl X x) (hm:X.mg x=some u) (rv:RelV v u) (r:∀ Hf,Rp X.K cl Hf v p) (hd:(x ==("__debug__" : Str))=false:=by decide):ME X cl (.Name x pos) (fC p) :=
  ki (fun _=>Gp hg hm rv hd) r
def cO(X:Cx)(cl:Nat->Addr)(f:Value->Value->Sem Value)(o:PV->PV->R PV):Prop :=
  ∀(pins:List (Addr×Obj))(s:Shared)(σ:SV)(Hf H:Hp)(x y:V)(v u:Value)(p q:PV),Inv X pins σ H s->aO Hf H->RelV x v->RelV y u->Rp X.K cl Hf x p->Rp X.K cl Hf y q->o p q≠.stuck ->
    wpAny (model X.prog X.w) X.A (f v u) (eU X cl pins σ Hf H (o p q)) (bW X cl pins σ Hf H (o p q)) s
theorem two{f:Value->Value->Sem Value}{o:PV->PV->R PV} (ha:ME X cl a fa) (hb:ME X cl b fb) (rule:cO X cl f o) (I:Inv X pins σ H s) (r:Rep X.K cl aA H0 Hf H σ ρ) (hs:ag o fa fb ρ≠.stuck) :
    wpAny (model X.prog X.w) X.A (eval a X.env) (fun v s₁=>wpAny (model X.prog X.w) X.A (eval b X.env) (fun u s₂=>wpAny (model X.prog X.w) X.A (f v u)
      (eU X cl pins σ Hf H (ag o fa fb ρ)) (bW X cl pins σ Hf H (ag o fa fb ρ)) s₂) (bW X cl pins σ Hf H (ag o fa fb ρ)) s₁) (bW X cl pins σ Hf H (ag o fa fb ρ)) s:=by
  unfold ag at hs ⊢;refine ha.run I r (Ext.refl r.sub) hs fun p v u s1 aD H1 e1 I1 rv x1 rp=>?_;rw[e1]at hs ⊢;refine hb.run I1 (r.keep x1) x1 hs fun q v' u' s2 bG H2 e2 I2 d0 x2 rq=>?_;rw[e2]at hs ⊢;exact VN (rule pins s2 σ bG H2 v v' u u' p q I2 x2.sub rv d0 (rp.keep x2.bw) rq hs) (fun _ _ h=>h.from (e0:=x1.trans x2)) fun _ _ h=>h.from (e0:=x1.trans x2)
theorem ah{o:PV->PV->R PV}{pos:Pos} (rule:cO X cl (binaryOp op) o) (ha:ME X cl a fa) (hb:ME X cl b fb):ME X cl (.BinOp a op b pos) (ag o fa fb):=by
  refine⟨?_⟩;intro pins s σ aA H0 Hf H ρ I r hs;exact wpAny_BinOp (two ha hb rule I r hs)
theorem fP{a b:Expr}{o:PV->PV->R PV}{pos:Pos}(rule:cO X cl (compareOp op) o)(ha:ME X cl a fa)(hb:ME X cl b fb)(hm:behindInMarks op b=false):ME X cl (.Compare a [op] [b] pos) (ag o fa fb):=by
  refine⟨?_⟩;intro pins s σ aA H0 Hf H ρ I r hs;exact wpAny_Compare1 (two ha hb rule I r hs) hm
def IC(X:Cx)(cl:Nat->Addr)(f:Value->Sem Value)(o:PV->R PV):Prop :=
  ∀(pins:List (Addr×Obj))(s:Shared)(σ:SV)(Hf H:Hp)(x:V)(v:Value)(p:PV),Inv X pins σ H s->aO Hf H->RelV x v->Rp X.K cl Hf x p->o p≠.stuck ->
    wpAny (model X.prog X.w) X.A (f v) (eU X cl pins σ Hf H (o p)) (bW X cl pins σ Hf H (o p)) s
theorem kj{o:PV->R PV}{pos:Pos} (rule:IC X cl (unaryOp op) o) (ha:ME X cl a fa):ME X cl (.UnaryOp op a pos) (gA o fa):=by
  refine⟨?_⟩;intro pins s σ aA H0 Hf H ρ I r hs;unfold gA at hs ⊢;refine UnaryOp_ (ha.run I r (Ext.refl r.sub) hs fun p v u s1 aD H1 e1 I1 rv x1 rp=>?_);rw[e1]at hs ⊢;exact VN (rule pins s1 σ aD H1 v u p I1 x1.sub rv rp hs) (fun _ _ h=>h.from (e0:=x1)) fun _ _ h=>h.from (e0:=x1)
theorem lD{f:Value->Value->Sem Value}{o:PV->PV->R PV}(C:Int->Int->Prop)(g:Int->Int->Int)(ho:∀ p q,o p q≠.stuck->∃ i j,p=.int i/\q=.int j/\C i j/\o p q=.ok (.int (g i j)))
    (rule:∀(i j:Int)(t u:Tok)(s:Shared)(Q:Value->Shared->Prop)(E:Value->Shared->Prop),C i j->Q (.int (g i j) s.toks) { s with toks:=s.toks+1 }->wpAny (model X.prog X.w) X.A (f (.int i t) (.int j u)) Q E s):cO X cl f o:=by
  intro pins s σ Hf H x y v u p q I sm rv ru rp rq hs;obtain⟨i,j,rfl,rfl,hc,e⟩:=ho p q hs;rw[e];cases rp;cases rq;obtain⟨t,rfl⟩:=rv;obtain⟨t',rfl⟩:=ru;exact rule i j t t' s _ _ hc ⟨_,.int (g i j),Hf,H,rfl,I.tok _,⟨_,rfl⟩,Ext.refl sm,.int _⟩
theorem yK{f:Value->Value->Sem Value}{o:PV->PV->R PV}(g:Int->Int->Bool)(ho:∀ p q,o p q≠.stuck->∃ i j,p=.int i/\q=.int j/\o p q=.ok (.bl (g i j)))
    (rule:∀(i j:Int)(t u:Tok)(s:Shared)(Q:Value->Shared->Prop)(E:Value->Shared->Prop),Q (.bool (g i j)) s->wpAny (model X.prog X.w) X.A (f (.int i t) (.int j u)) Q E s):cO X cl f o:=by
  intro pins s σ Hf H x y v u p q I sm rv ru rp rq hs;obtain⟨i,j,rfl,rfl,e⟩:=ho p q hs;rw[e];cases rp;cases rq;obtain⟨t,rfl⟩:=rv;obtain⟨t',rfl⟩:=ru;exact rule i j t t' s _ _ ⟨_,.bl (g i j),Hf,H,rfl,I,rfl,Ext.refl sm,.bl _⟩
end
theorem two_pow_pos'(k:Nat):(0:Int)<2 ^ k:=abo (by decide)
section
variable {X:Cx}{cl:Nat->Addr}
theorem fv:cO X cl (binaryOp .Sub) fh:=lD (fun _ _=>True) (fun i j=>i - j)
  (fun p q h=>by cases p<;>cases q<;>first | exact⟨_,_,rfl,rfl,trivial,rfl⟩ | exact absurd rfl h) fun _ _ _ _ _ _ _ _ q=>sub_int q
theorem cX{c:Prop}[Decidable c]{a:PV}(h:(if c then R.ok a else R.stuck)≠.stuck):c/\(if c then R.ok a else R.stuck)=.ok a:=by
  by_cases hc:c
  . exact⟨hc,VP hc⟩
  . rw[VQ hc]at h;exact absurd rfl h
theorem js:cO X cl (binaryOp .Mult) ja:=lD (fun i j=>nb i<=64\/nb j<=64\/nb i+nb j<=rZ) (fun i j=>i*j)
  (fun p q h=>by
    cases p<;>cases q<;>first
      | exact absurd rfl h
      | exact⟨_,_,rfl,rfl,(cX h).1,(cX h).2⟩) fun i j _ _ _ _ _ hc q=>mul_int q (by
    rcases hc with hc | hc | hc
    . exact .of_left hc
    . exact .of_right hc
    . exact .of_le (VU _) (VU _) hc)
theorem ey:cO X cl (binaryOp .Mod) oMod:=lD (fun _ j=>0<j) (fun i j=>i%j)
  (fun p q h=>by
    cases p<;>cases q<;>first
      | exact absurd rfl h
      | exact⟨_,_,rfl,rfl,(cX h).1,(cX h).2⟩) fun i j _ _ _ _ _ hc q=>mod_int' (by omega) (by rw[Int.fmod_eq_emod_of_nonneg i (by omega)];exact q)
theorem yL{j:Int}{k:Nat}(h0:j≠0)(h:nb j<=k):j.natAbs.log2<k:=by
  have e:nb j=j.natAbs.log2+1:=by
    show(if j == 0 then 0 else j.natAbs.log2+1)=_;rw[VQ (by simpa using h0)]
  omega
theorem mn:cO X cl (binaryOp .FloorDiv) oDiv:=lD (fun _ j=>0<j/\nb j<=9000) (fun i j=>i/j)
  (fun p q h=>by
    cases p<;>cases q<;>first
      | exact absurd rfl h
      | exact⟨_,_,rfl,rfl,(cX h).1,(cX h).2⟩) fun i j _ _ _ _ _ hc q=>floordiv_int (by omega) (by rw[Y9 i (by omega)];exact q)
        (.inl (Zo (yL (by omega) hc.2)))
theorem uU{j:Int}{k:Nat}(h:nb j<=k):j.natAbs<2 ^ k:=PySem.intBits_le_iff.mp h
theorem EO:cO X cl (binaryOp .Pow) yD:=lD (fun i j=>0<=j/\j<=1000000/\nb i<=64) (fun i j=>i ^ j.toNat)
  (fun p q h=>by
    cases p<;>cases q<;>first
      | exact absurd rfl h
      | exact⟨_,_,rfl,rfl,(cX h).1,(cX h).2⟩) fun i j _ _ _ _ _ hc q=>pow_int_small hc.1 hc.2.1 (uU hc.2.2) q
theorem jt:cO X cl (binaryOp .LShift) jL:=lD (fun i j=>0<=j/\nb i+j<=134217728) (fun i j=>i*2 ^ j.toNat)
  (fun p q h=>by
    cases p<;>cases q<;>first
      | exact absurd rfl h
      | exact⟨_,_,rfl,rfl,(cX h).1,(cX h).2⟩) fun i j _ _ _ _ _ hc q=>lshift_int hc.1 hc.2 q
theorem ue:cO X cl (binaryOp .RShift) pS:=lD (fun _ j=>0<=j) (fun i j=>i/2 ^ j.toNat)
  (fun p q h=>by
    cases p<;>cases q<;>first
      | exact absurd rfl h
      | exact⟨_,_,rfl,rfl,(cX h).1,(cX h).2⟩) fun i j _ _ _ _ _ hc q=>rshift_int hc (by rw[Y9 i (Wn (two_pow_pos' _))];exact q)
theorem uf:cO X cl (binaryOp .BitAnd) pT:=lD (fun _ _=>True) (fun i j=>Builtin.bitAnd i j)
  (fun p q h=>by cases p<;>cases q<;>first | exact⟨_,_,rfl,rfl,trivial,rfl⟩ | exact absurd rfl h) fun _ _ _ _ _ _ _ _ q=>and_int q
theorem PT:cO X cl (binaryOp .BitOr) Iv:=lD (fun _ _=>True) (fun i j=>Builtin.bitOr i j)
  (fun p q h=>by cases p<;>cases q<;>first | exact⟨_,_,rfl,rfl,trivial,rfl⟩ | exact absurd rfl h) fun _ _ _ _ _ _ _ _ q=>or_int q
theorem LX:cO X cl (binaryOp .BitXor) C9:=lD (fun _ _=>True) (fun i j=>Builtin.bitXor i j)
  (fun p q h=>by cases p<;>cases q<;>first | exact⟨_,_,rfl,rfl,trivial,rfl⟩ | exact absurd rfl h) fun _ _ _ _ _ _ _ _ q=>xor_int q
theorem nE:cO X cl (compareOp .Lt) pA:=yK (fun i j=>decide (i<j))
  (fun p q h=>by cases p<;>cases q<;>first | exact⟨_,_,rfl,rfl,rfl⟩ | exact absurd rfl h) fun _ _ _ _ _ _ _ q=>lt_int q
theorem yM:cO X cl (compareOp .LtE) wX:=yK (fun i j=>decide (i<=j))
  (fun p q h=>by cases p<;>cases q<;>first | exact⟨_,_,rfl,rfl,rfl⟩ | exact absurd rfl h) fun _ _ _ _ _ _ _ q=>le_int q
theorem yN:cO X cl (compareOp .Gt) pB:=yK (fun i j=>decide (j<i))
  (fun p q h=>by cases p<;>cases q<;>first | exact⟨_,_,rfl,rfl,rfl⟩ | exact absurd rfl h) fun _ _ _ _ _ _ _ q=>gt_int q
theorem ID:cO X cl (compareOp .GtE) EK:=yK (fun i j=>decide (j<=i))
  (fun p q h=>by cases p<;>cases q<;>first | exact⟨_,_,rfl,rfl,rfl⟩ | exact absurd rfl h) fun _ _ _ _ _ _ _ q=>ge_int q
theorem mq:IC X cl (unaryOp .USub) jb:=by
  intro pins s σ Hf H x v p I sm rv rp hs;cases p with
  | int i =>
    cases rp;obtain⟨t,rfl⟩:=rv;exact neg_int ⟨_,.int (-i),Hf,H,rfl,I.tok _,⟨_,rfl⟩,Ext.refl sm,.int _⟩
  | _=>exact absurd rfl hs
end
section
variable {X:Cx}{cl:Nat->Addr}{pins:List (Addr×Obj)}{s:Shared}{σ:SV}{aA H0 Hf H aD H1:Hp}{ρ:ay}{α:Type}
structure MW(X:Cx)(cl:Nat->Addr)(e:Expr)(f:FT):Prop where
  run':∀(whole:Sem Value)(pins:List (Addr×Obj))(s:Shared)(σ:SV)(aA H0 Hf H:Hp)(ρ:ay),Inv X pins σ H s->Rep X.K cl aA H0 Hf H σ ρ->f ρ≠.stuck ->
    wpAny (model X.prog X.w) X.A (isTrue e X.env whole) (mQ X pins σ Hf H (f ρ)) (bW X cl pins σ Hf H (f ρ)) s
noncomputable instance {X:Cx}{cl:Nat->Addr}{e:Expr}{f:FT}:CoeFun (MW X cl e f) fun _=>∀(whole:Sem Value)(pins:List (Addr×Obj))(s:Shared)(σ:SV)(aA H0 Hf H:Hp)(ρ:ay),Inv X pins σ H s->Rep X.K cl aA H0 Hf H σ ρ->f ρ≠.stuck ->
    wpAny (model X.prog X.w) X.A (isTrue e X.env whole) (mQ X pins σ Hf H (f ρ)) (bW X cl pins σ Hf H (f ρ)) s:=⟨MW.run'⟩
theorem MW.mt(h:MW X cl e f):MT X cl e f:=⟨h.run' _⟩
theorem MT.run(h:MT X cl e f)(I:Inv X pins σ H1 s)(r:Rep X.K cl aA H0 aD H1 σ ρ)(e0:Ext Hf H aD H1){k:Bool->R α}(hs:(f ρ).bind k≠.stuck){Q:Bool->Shared->Prop}
    (ok:∀ c s' ao H',(f ρ).bind k=k c->Inv X pins σ H' s'->Ext aD H1 ao H'->Q c s') :
    wpAny (model X.prog X.w) X.A (isTrue e X.env (eval e X.env)) Q (bW X cl pins σ Hf H ((f ρ).bind k)) s:=by
  have hf:f ρ≠.stuck:=fun z=>hs (by rw[z];rfl);refine VN (h pins s σ aA H0 aD H1 ρ I r hf) (fun c s' q=>?_) fun u s' q=>?_
  . obtain⟨ao,H',e1,I',ex⟩:=q;exact ok c s' ao H' (by rw[e1];rfl) I' ex
  . obtain⟨c,e1,x⟩:=q;exact⟨c,by rw[e1];rfl,x.from e0⟩
theorem mQ.from{e0:Ext Hf H aD H1}(h:mQ X pins σ aD H1 r b s'):mQ X pins σ Hf H r b s':=by
  obtain⟨ao,H',e1,I',ex⟩:=h;exact⟨ao,H',e1,I',e0.trans ex⟩
theorem je{E:Value->Shared->Prop} (I:Inv X pins σ H s) (sm:aO Hf H) (rv:RelV v u) (rp:Rp X.K cl Hf v p) (hs:eR p≠.stuck) :
    wpAny (model X.prog X.w) X.A (truthy u) (mQ X pins σ Hf H (eR p)) E s:=by
  cases p with
  | aU=>cases rp;cases rv;exact truthy_none ⟨Hf,H,rfl,I,Ext.refl sm⟩
  | bl b=>cases rp;cases rv;exact WR ⟨Hf,H,rfl,I,Ext.refl sm⟩
  | int i=>cases rp;obtain⟨t,rfl⟩:=rv;exact PySem.P.truthy_int ⟨Hf,H,rfl,I,Ext.refl sm⟩
  | lst l =>
    cases rp with
    | lst h r =>
      cases rv;obtain⟨its,w,pl,z⟩:=I.list (sm.seq h);have hl:its.length=l.length:=by rw[<- w.length,r.length]
      have hz:l.length<=sizeLine:=by rw[<- r.length];exact z
      refine wpAny_truthy_list pl.isList (by
                                             rw[Wl,hl];have:sizeLine<2 ^ 63:=by decide
                                             omega) ⟨Hf,H,?_,I.tok _,Ext.refl sm⟩
      show R.ok (!l.isEmpty)=R.ok _;congr 1;cases its with
      | nil=>cases l with
        | nil=>rfl
        | cons=>simp at hl
      | cons=>cases l with
        | nil=>simp at hl
        | cons=>simp
  | str z =>
    cases rp;obtain⟨t,rfl⟩:=rv;have cu:(if z.length<=sizeLine then R.ok ((z.length:Int) != 0) else R.stuck)≠.stuck:=hs
    have hz:z.length<=sizeLine:=WC fun c=>cu (by rw[VQ c]);refine PySem.P.truthy_str (by
                                  have:sizeLine<2 ^ 63:=by decide
                                  omega) ⟨Hf,H,?_,I.tok _,Ext.refl sm⟩
    show(if z.length<=sizeLine then R.ok ((z.length:Int) != 0) else R.stuck)=_;rw[VP hz]
  | _=>exact absurd rfl hs
theorem cW{e:Expr}(h:ME X cl e f)(he:∀ whole,isTrue e X.env whole=(do let v <- whole;standAt e.pos;holding [v] (truthy v)):=by intro _;rfl):MT X cl e (aP f):=by
  refine⟨?_⟩;intro pins s σ aA H0 Hf H ρ I r hs;unfold aP at hs ⊢;refine isTrue_plain (h.run I r (Ext.refl r.sub) hs fun p v u s1 aD H1 e1 I1 rv x1 rp=>?_) (he _);rw[e1]at hs ⊢;exact ft (je I1 x1.sub rv rp hs) fun _ _ q=>q.from (e0:=x1)
theorem two_t{f:Value->Value->Sem Value}{o:PV->PV->R PV} (ha:ME X cl a fa) (hb:ME X cl b fb) (rule:cO X cl f o) (I:Inv X pins σ H s) (r:Rep X.K cl aA H0 Hf H σ ρ) (hs:aP (ag o fa fb) ρ≠.stuck) :
    wpAny (model X.prog X.w) X.A (eval a X.env) (fun v s₁=>wpAny (model X.prog X.w) X.A (eval b X.env) (fun u s₂=>wpAny (model X.prog X.w) X.A (f v u)
      (fun c s₃=>wpAny (model X.prog X.w) X.A (truthy c) (mQ X pins σ Hf H (aP (ag o fa fb) ρ)) (bW X cl pins σ Hf H (aP (ag o fa fb) ρ)) s₃)
      (bW X cl pins σ Hf H (aP (ag o fa fb) ρ)) s₂) (bW X cl pins σ Hf H (aP (ag o fa fb) ρ)) s₁) (bW X cl pins σ Hf H (aP (ag o fa fb) ρ)) s:=by
  unfold aP at hs ⊢;have cu:ag o fa fb ρ≠.stuck:=fun z=>hs (by rw[z];rfl)
  refine VN (two ha hb rule I r cu) (fun v s1 h1=>VN h1 (fun u s2 h2=>VN h2 (fun c s3 h3=>?_) ?_) ?_) ?_
  . obtain⟨p,v',ao,H',e1,I',rv,ex,rp⟩:=h3;rw[e1]at hs ⊢;exact ft (je I' ex.sub rv rp hs) fun _ _ q=>q.from (e0:=ex)
  all_goals
    intro u s' q;obtain⟨c,e1,x⟩:=q;exact⟨c,by rw[e1];rfl,x⟩
theorem bq{a b:Expr}{o:PV->PV->R PV}{pos:Pos}(rule:cO X cl (compareOp op) o)(ha:ME X cl a fa)(hb:ME X cl b fb)(hm:behindInMarks op b=false):MT X cl (.Compare a [op] [b] pos) (aP (ag o fa fb)):=by
  refine⟨?_⟩;intro pins s σ aA H0 Hf H ρ I r hs;exact XG (two_t ha hb rule I r hs) hm
theorem hW{pos:Pos} (h:MT X cl a f):MT X cl (.UnaryOp .Not a pos) (jc f):=by
  refine⟨?_⟩;intro pins s σ aA H0 Hf H ρ I r hs;unfold jc at hs ⊢;refine isTrue_not (h.run I r (Ext.refl r.sub) hs fun c s1 aD H1 e1 I1 x1=>?_);rw[e1];exact⟨aD,H1,rfl,I1,x1⟩
theorem GC{pos:Pos} (h:MT X cl a f):MW X cl (.BoolOp .And [a] pos) f:=by
  refine⟨?_⟩;intro wh pins s σ aA H0 Hf H ρ I r hs;refine isTrue_and (ft (h pins s σ aA H0 Hf H ρ I r hs) fun c s1 q=>?_);cases c with
  | true=>exact isTrue_and_nil q
  | false=>exact q
theorem km{pos:Pos} (h:MT X cl a f):MW X cl (.BoolOp .Or [a] pos) f:=by
  refine⟨?_⟩;intro wh pins s σ aA H0 Hf H ρ I r hs;refine isTrue_or (ft (h pins s σ aA H0 Hf H ρ I r hs) fun c s1 q=>?_);cases c with
  | false=>exact isTrue_or_nil q
  | true=>exact q
theorem IE{a b:Expr}{rest:List Expr}{pos:Pos}(h:MT X cl a f)(hb:MW X cl (.BoolOp .And (b::rest) pos) g):MW X cl (.BoolOp .And (a::b::rest) pos) (yH f g):=by
  refine⟨?_⟩;intro wh pins s σ aA H0 Hf H ρ I r hs;unfold yH at hs ⊢;refine isTrue_and (h.run I r (Ext.refl r.sub) hs fun c s1 aD H1 e1 I1 x1=>?_);rw[e1]at hs ⊢;cases c with
  | true=>exact VN (hb wh pins s1 σ aA H0 aD H1 ρ I1 (r.keep x1) hs) (fun _ _ q=>q.from (e0:=x1)) fun _ _ q=>q.from (e0:=x1)
  | false=>exact⟨aD,H1,rfl,I1,x1⟩
theorem kM{a b:Expr}{rest:List Expr}{pos:Pos}(h:MT X cl a f)(hb:MW X cl (.BoolOp .Or (b::rest) pos) g):MW X cl (.BoolOp .Or (a::b::rest) pos) (nA f g):=by
  refine⟨?_⟩;intro wh pins s σ aA H0 Hf H ρ I r hs;unfold nA at hs ⊢;refine isTrue_or (h.run I r (Ext.refl r.sub) hs fun c s1 aD H1 e1 I1 x1=>?_);rw[e1]at hs ⊢;cases c with
  | false=>exact VN (hb wh pins s1 σ aA H0 aD H1 ρ I1 (r.keep x1) hs) (fun _ _ q=>q.from (e0:=x1)) fun _ _ q=>q.from (e0:=x1)
  | true=>exact⟨aD,H1,rfl,I1,x1⟩
theorem iR(h:gB p≠.stuck):∃ b,p=.bl b/\gB p=.ok b:=by
  cases p with
  | bl b=>exact⟨b,rfl,rfl⟩
  | _=>exact absurd rfl h
theorem lN{op:BoolOp}{pos:Pos} (h:ME X cl a f):ME X cl (.BoolOp op [a] pos) f:=⟨fun pins s σ aA H0 Hf H ρ I r hs=>BoolOp_one (h pins s σ aA H0 Hf H ρ I r hs)⟩
theorem lO{a b:Expr}{rest:List Expr}{pos:Pos}(h:ME X cl a f)(hb:ME X cl (.BoolOp .And (b::rest) pos) g):ME X cl (.BoolOp .And (a::b::rest) pos) (me f g):=by
  refine⟨?_⟩;intro pins s σ aA H0 Hf H ρ I r hs;unfold me at hs ⊢;refine BoolOp_and (h.run I r (Ext.refl r.sub) hs fun p v u s1 aD H1 e1 I1 rv x1 rp=>?_);rw[e1]at hs ⊢;obtain⟨c,rfl,e2⟩:=iR (p:=p) fun z=>hs (by rw[z];rfl);rw[e2]at hs ⊢;cases rp;cases rv;refine WR ?_;cases c with
  | true=>exact VN (hb pins s1 σ aA H0 aD H1 ρ I1 (r.keep x1) hs) (fun _ _ q=>q.from (e0:=x1)) fun _ _ q=>q.from (e0:=x1)
  | false=>exact⟨_,.bl false,aD,H1,rfl,I1,rfl,x1,.bl false⟩
theorem LY{a b:Expr}{rest:List Expr}{pos:Pos}(h:ME X cl a f)(hb:ME X cl (.BoolOp .Or (b::rest) pos) g):ME X cl (.BoolOp .Or (a::b::rest) pos) (EM f g):=by
  refine⟨?_⟩;intro pins s σ aA H0 Hf H ρ I r hs;unfold EM at hs ⊢;refine BoolOp_or (h.run I r (Ext.refl r.sub) hs fun p v u s1 aD H1 e1 I1 rv x1 rp=>?_);rw[e1]at hs ⊢;obtain⟨c,rfl,e2⟩:=iR (p:=p) fun z=>hs (by rw[z];rfl);rw[e2]at hs ⊢;cases rp;cases rv;refine WR ?_;cases c with
  | false=>exact VN (hb pins s1 σ aA H0 aD H1 ρ I1 (r.keep x1) hs) (fun _ _ q=>q.from (e0:=x1)) fun _ _ q=>q.from (e0:=x1)
  | true=>exact⟨_,.bl true,aD,H1,rfl,I1,rfl,x1,.bl true⟩
theorem qL{pos:Pos} (h:ME X cl a f):ME X cl (.UnaryOp .Not a pos) (pU f):=by
  refine⟨?_⟩;intro pins s σ aA H0 Hf H ρ I r hs;unfold pU at hs ⊢;refine UnaryOp_ (h.run I r (Ext.refl r.sub) hs fun p v u s1 aD H1 e1 I1 rv x1 rp=>?_);rw[e1]at hs ⊢;obtain⟨c,rfl,e2⟩:=iR (p:=p) fun z=>hs (by rw[z];rfl);rw[e2];cases rp;cases rv;exact not_of (WR ⟨_,.bl (!c),aD,H1,rfl,I1,rfl,x1,.bl _⟩)
theorem gN{t:FT}{pos:Pos} (hc:MT X cl c t) (ha:ME X cl a f) (hb:ME X cl b g):ME X cl (.IfExp c a b pos) (iQ t f g):=by
  refine⟨?_⟩;intro pins s σ aA H0 Hf H ρ I r hs;unfold iQ at hs ⊢;refine wpAny_IfExp (hc.run I r (Ext.refl r.sub) hs fun d s1 aD H1 e1 I1 x1=>?_);rw[e1]at hs ⊢;cases d with
  | true=>exact VN (ha pins s1 σ aA H0 aD H1 ρ I1 (r.keep x1) hs) (fun _ _ q=>q.from (e0:=x1)) fun _ _ q=>q.from (e0:=x1)
  | false=>exact VN (hb pins s1 σ aA H0 aD H1 ρ I1 (r.keep x1) hs) (fun _ _ q=>q.from (e0:=x1)) fun _ _ q=>q.from (e0:=x1)
theorem uV{a b c:Expr}{o o':PV->PV->R PV}{pos:Pos}(h1:cO X cl (compareOp op) o)(h2:cO X cl (compareOp AP) o')(ha:ME X cl a fa)(hb:ME X cl b fb)(hc:ME X cl c fc)
    (hm:lastMarks [op,AP] [b,c]=false:=by with_unfolding_all rfl):ME X cl (.Compare a [op,AP] [b,c] pos) (gf o o' fa fb fc):=by
  refine⟨?_⟩;intro pins s σ aA H0 Hf H ρ I r hs;unfold gf at hs ⊢;refine Compare_chain (ha.run I r (Ext.refl r.sub) hs fun p v u s1 aD H1 e1 I1 rv x1 rp=>chain_link ?_) hm;rw[e1]at hs ⊢;refine hb.run I1 (r.keep x1) x1 hs fun q v' u' s2 bG H2 e2 I2 d0 x2 rq=>?_;rw[e2]at hs ⊢;have kN:=x1.trans x2
  have ho:o p q≠.stuck:=fun z=>hs (by rw[z];rfl);refine VN (h1 pins s2 σ bG H2 v v' u u' p q I2 x2.sub rv d0 (rp.keep x2.bw) rq ho) (fun d s3 h3=>?_) fun d s3 h3=>?_
  . obtain⟨z,v3,iI,H3,e3,I3,IF,x3,AQ⟩:=h3;rw[e3]at hs ⊢;have IG:(gB z).bind (fun k=>if k=true then (fc ρ).bind fun w=>o' q w else R.ok (PV.bl false))≠.stuck:=hs
    obtain⟨k,rfl,e4⟩:=iR (p:=z) fun y=>IG (by rw[y];rfl);cases AQ;cases IF;refine WR ?_;have kO:=kN.trans x3
    cases k with
    | false=>exact ite_ff ⟨_,.bl false,iI,H3,rfl,I3,rfl,kO,.bl false⟩
    | true =>
      have lP:(fc ρ).bind (fun w=>o' q w)≠.stuck:=hs;refine ite_tt (chain_last ?_);show wpAny _ _ _ (fun b s₁=>wpAny _ _ _ (eU X cl pins σ Hf H ((fc ρ).bind fun w=>o' q w)) (bW X cl pins σ Hf H ((fc ρ).bind fun w=>o' q w)) s₁) (bW X cl pins σ Hf H ((fc ρ).bind fun w=>o' q w)) s3
      refine hc.run I3 (r.keep kO) kO lP fun w v5 u5 s5 mR H5 e5 I5 IH x5 kh=>?_;rw[e5]at lP ⊢;exact VN (h2 pins s5 σ mR H5 v' v5 u' u5 q w I5 x5.sub d0 IH (rq.keep (x3.trans x5).bw) kh lP) (fun _ _ q=>q.from (e0:=kO.trans x5)) fun _ _ q=>q.from (e0:=kO.trans x5)
  . obtain⟨c,e3,y⟩:=h3;exact⟨c,by rw[e3];rfl,y.from kN⟩
theorem Dc{a b c:Expr}{o o':PV->PV->R PV}{pos:Pos}(h1:cO X cl (compareOp op) o)(h2:cO X cl (compareOp AP) o')(ha:ME X cl a fa)(hb:ME X cl b fb)(hc:ME X cl c fc)
    (hm:lastMarks [op,AP] [b,c]=false:=by with_unfolding_all rfl):MT X cl (.Compare a [op,AP] [b,c] pos) (aP (gf o o' fa fb fc)):=by
  refine⟨?_⟩;intro pins s σ aA H0 Hf H ρ I r hs;have assoc:∀{β γ δ:Type}(x:R β)(f:β->R γ)(g:γ->R δ),(x.bind f).bind g=x.bind fun y=>(f y).bind g:=fun x f g=>by cases x<;>rfl
  have e0:aP (gf o o' fa fb fc) ρ=(fa ρ).bind fun x=>(fb ρ).bind fun y=>(o x y).bind fun r=>(gB r).bind fun k=>if k then (fc ρ).bind fun z=>(o' y z).bind eR else .ok false:=by
    unfold aP gf;rw[assoc];congr 1;funext x;rw[assoc];congr 1;funext y;rw[assoc];congr 1;funext r;rw[assoc];congr 1;funext k;cases k with
    | true=>exact assoc _ _ _
    | false=>rfl
  rw[e0]at hs ⊢;refine isTrue_chain (ha.run I r (Ext.refl r.sub) hs fun p v u s1 aD H1 e1 I1 rv x1 rp=>test_link ?_) hm;rw[e1]at hs ⊢;refine hb.run I1 (r.keep x1) x1 hs fun q v' u' s2 bG H2 e2 I2 d0 x2 rq=>?_;rw[e2]at hs ⊢;have kN:=x1.trans x2
  have ho:o p q≠.stuck:=fun z=>hs (by rw[z];rfl);refine VN (h1 pins s2 σ bG H2 v v' u u' p q I2 x2.sub rv d0 (rp.keep x2.bw) rq ho) (fun d s3 h3=>?_) fun d s3 h3=>?_
  . obtain⟨z,v3,iI,H3,e3,I3,IF,x3,AQ⟩:=h3;rw[e3]at hs ⊢;have IG:(gB z).bind (fun k=>if k=true then (fc ρ).bind fun w=>(o' q w).bind eR else R.ok false)≠.stuck:=hs
    obtain⟨k,rfl,e4⟩:=iR (p:=z) fun y=>IG (by rw[y];rfl);cases AQ;cases IF;refine WR ?_;have kO:=kN.trans x3
    cases k with
    | false=>exact ite_ff ⟨iI,H3,rfl,I3,kO⟩
    | true =>
      have lP:(fc ρ).bind (fun w=>(o' q w).bind eR)≠.stuck:=hs;refine ite_tt (test_last ?_);show wpAny _ _ _ (fun b s₁=>wpAny _ _ _ (fun c s₂=>wpAny _ _ _ (mQ X pins σ Hf H ((fc ρ).bind fun w=>(o' q w).bind eR)) (bW X cl pins σ Hf H ((fc ρ).bind fun w=>(o' q w).bind eR)) s₂) (bW X cl pins σ Hf H ((fc ρ).bind fun w=>(o' q w).bind eR)) s₁) (bW X cl pins σ Hf H ((fc ρ).bind fun w=>(o' q w).bind eR)) s3
      refine hc.run I3 (r.keep kO) kO lP fun w v5 u5 s5 mR H5 e5 I5 IH x5 kh=>?_;rw[e5]at lP ⊢;have nr:o' q w≠.stuck:=fun z=>lP (by rw[z];rfl)
      refine VN (h2 pins s5 σ mR H5 v' v5 u' u5 q w I5 x5.sub d0 IH (rq.keep (x3.trans x5).bw) kh nr) (fun d6 s6 h6=>?_) fun d6 s6 h6=>?_
      . obtain⟨z6,v6,Vy,H6,e6,I6,Q7,x6,AR⟩:=h6;rw[e6]at lP ⊢;exact ft (je I6 x6.sub Q7 AR lP) fun _ _ q=>q.from (e0:=kO.trans (x5.trans x6))
      . obtain⟨c,e6,y⟩:=h6;exact⟨c,by rw[e6];rfl,y.from (kO.trans x5)⟩
  . obtain⟨c,e3,y⟩:=h3;exact⟨c,by rw[e3];rfl,y.from kN⟩
structure MA(X:Cx)(cl:Nat->Addr)(es:List Expr)(f:FA):Prop where
  len:∀ ρ ps,f ρ=.ok ps->ps.length=es.length
  run':∀(pos:Pos)(pins:List (Addr×Obj))(s:Shared)(σ:SV)(aA H0 Hf H:Hp)(ρ:ay),Inv X pins σ H s->Rep X.K cl aA H0 Hf H σ ρ->f ρ≠.stuck ->
    wpAny (model X.prog X.w) X.A (spliced (backTo pos (starEach es X.env))) (Q6 X cl pins σ Hf H (f ρ)) (bW X cl pins σ Hf H (f ρ)) s
theorem aq:MA X cl [] ax:=⟨fun _ ps h=>by cases h;rfl,fun pos pins s σ aA H0 Hf H ρ I r _=>WY ⟨[],[],Hf,H,rfl,I,.nil,Ext.refl r.sub,.nil⟩⟩
theorem aa(h:ME X cl e f)(hr:MA X cl es g)(dE:starEach (e::es) X.env=(false,eval e X.env)::starEach es X.env:=by rfl):MA X cl (e::es) (af f g):=by
  refine⟨fun ρ ps q=>?_,?_⟩
  . unfold af at q;cases e1:f ρ with
    | stuck=>rw[e1]at q;cases q
    | exc c=>rw[e1]at q;cases q
    | ok p =>
      rw[e1]at q;cases e2:g ρ with
      | stuck=>rw[R.bind_ok,e2]at q;cases q
      | exc c=>rw[R.bind_ok,e2]at q;cases q
      | ok qs =>
        rw[R.bind_ok,e2]at q;cases q;have:=hr.1 ρ qs e2
        rw[VT,VT,this]
  intro pos pins s σ aA H0 Hf H ρ I r hs;unfold af at hs ⊢;rw[dE];show wpAny _ _ (spliced ((false,eval e X.env)::backTo pos (starEach es X.env))) _ _ s
  refine WA (h.run I r (Ext.refl r.sub) hs fun p v u s1 aD H1 e1 I1 rv x1 rp=>?_);rw[e1]at hs ⊢;have hg:g ρ≠.stuck:=fun z=>hs (by rw[z];rfl)
  refine VN (hr.2 pos pins s1 σ aA H0 aD H1 ρ I1 (r.keep x1) hg) (fun us s2 h2=>?_) fun u2 s2 h2=>?_
  . obtain⟨ps,vs,bG,H2,e2,I2,II,x2,aT⟩:=h2;exact⟨p::ps,v::vs,bG,H2,by rw[e2];rfl,I2,.cons rv II,x1.trans x2,.cons (rp.keep x2.bw) aT⟩
  . obtain⟨c,e2,y⟩:=h2;exact⟨c,by rw[e2];rfl,y.from x1⟩
theorem MA.run{es:List Expr}(h:MA X cl es f)(pos:Pos)(I:Inv X pins σ H1 s)(r:Rep X.K cl aA H0 aD H1 σ ρ)(e0:Ext Hf H aD H1){k:List PV->R α}(hs:(f ρ).bind k≠.stuck){Q:List Value->Shared->Prop}
    (ok:∀ ps vs us s' ao H',ps.length=es.length->(f ρ).bind k=k ps->Inv X pins σ H' s'->Vals vs us->Ext aD H1 ao H'->bB X.K cl ao vs ps->Q us s') :
    wpAny (model X.prog X.w) X.A (spliced (backTo pos (starEach es X.env))) Q (bW X cl pins σ Hf H ((f ρ).bind k)) s:=by
  have hf:f ρ≠.stuck:=fun z=>hs (by rw[z];rfl);refine VN (h.2 pos pins s σ aA H0 aD H1 ρ I r hf) (fun u s' q=>?_) fun u s' q=>?_
  . obtain⟨ps,vs,ao,H',e1,I',rv,ex,rp⟩:=q;exact ok ps vs u s' ao H' (h.1 ρ ps e1) (by rw[e1];rfl) I' rv ex rp
  . obtain⟨c,e1,x⟩:=q;exact⟨c,by rw[e1];rfl,x.from e0⟩
theorem iw(hn:H s.heap.objs.size=none)(sm:aO Hf H){h':Heap}{tk:Nat}(I:Inv X pins σ (upd H s.heap.objs.size o) { s with heap:=h',toks:=tk })
    (rp:Rp X.K cl (upd Hf s.heap.objs.size o) (.ref s.heap.objs.size) p):eU X cl pins σ Hf H (.ok p) (.ref s.heap.objs.size) { s with heap:=h',toks:=tk } :=
  ⟨p,.ref s.heap.objs.size,_,_,rfl,I,rfl,Ext.new sm hn o,rp⟩
theorem dy{k:Nat}{pos:Pos} (h:MA X cl es f):ME X cl (.Tuple es k pos) (eT f):=by
  refine⟨?_⟩;intro pins s σ aA H0 Hf H ρ I r hs;unfold eT at hs ⊢;refine wpAny_Tuple_spliced (h.run pos I r (Ext.refl r.sub) hs fun ps vs us s1 aD H1 _ e1 I1 rv x1 aT=>?_);rw[e1]at hs ⊢;obtain⟨hz,e2⟩:=cX hs;rw[e2];have z:vs.length<=sizeLine:=by rw[aT.length];exact hz
  refine⟨by rw[<- rv.length];exact z,?_⟩;have hf:H1 s1.heap.objs.size=none:=I1.bh.fresh (VU _)
  refine eU.from (e0:=x1) (iw (tk:=s1.toks) hf x1.sub (I1.laid (t':=s1.toks) (o:=.tup vs) (fun b u e=>VW _ e) (VU _) ?_) (.tup (iG.of bp) (aT.keep (dk (x1.sub.free hf) _))));exact⟨z,us,rv,⟨_,Wi _ rfl,rfl,_,rfl⟩⟩
theorem bJ{pos:Pos} (h:MA X cl es f):ME X cl (.List es pos) (cB f):=by
  refine⟨?_⟩;intro pins s σ aA H0 Hf H ρ I r hs;unfold cB at hs ⊢;refine wpAny_List_spliced (h.run pos I r (Ext.refl r.sub) hs fun ps vs us s1 aD H1 _ e1 I1 rv x1 aT=>?_);rw[e1]at hs ⊢;obtain⟨hz,e2⟩:=cX hs;rw[e2];have z:vs.length<=sizeLine:=by rw[aT.length];exact hz
  refine⟨by rw[<- rv.length];exact z,?_⟩;have hf:H1 s1.heap.objs.size=none:=I1.bh.fresh (VU _)
  refine eU.from (e0:=x1) (iw (tk:=s1.toks) hf x1.sub (I1.laid (t':=s1.toks) (o:=.lst vs) (fun b u e=>VW _ e) (VU _) ?_) (.lst (fV.of bp) (aT.keep (dk (x1.sub.free hf) _))));exact⟨z,us,0,rv,Wi _ rfl⟩
def hZ(cl:Nat->Addr)(P:Program)(w:World):pq:=fun outer H s E e s' =>
  ∃(a:Addr)(c:Nat)(H':Hp)(B:Heap)(a0:Value),e=.ref a/\s'.os=s.os/\AllBare s'.gens/\Un (fM outer) [] H H' s.heap s'.heap/\eL P w H' s'.heap/\Heap.FlyingW B outer a (.ref (cl c)) a0 s'.heap /\
    (∀ b o,s'.heap.get? b=some o->(H' b≠none\/∃ o₀,s.heap.get? b=some o₀)->b ∉ fM outer->B.get? b=some o)/\kL a s'.heap/\E (.ref (cl c)) none H'
def mS(K:PySem.W.Frag)(cl:Nat->Addr)(n:Nat)(F:List PV->R PV):Sp:=fun vs H Q E=>vs.length=n/\∃ Hf ps,aO Hf H/\bB K cl Hf vs ps/\F ps≠.stuck /\
  (∀ p v ao H',F ps=.ok p->Ext Hf H ao H'->Rp K cl ao v p->Q v H')/\∀ c ao H',F ps=.exc c->Ext Hf H ao H'->E (.ref (cl c)) none H'
structure Fn(X:Cx)(cl:Nat->Addr)(k:Nat)(x:Str)(n:Nat)(F:List PV->R PV):Prop where
  ex:∃(f:Addr)(fd:FuncData)(ps:List Str),X.mg x=some (.ref f)/\PySem.W.keepIn X.K (.ref f)=true/\ps.length=n/\d9 X.prog X.w X.K X.mg X.base (hZ cl X.prog X.w) k f fd ps (mS X.K cl n F)/\Binds X.K fd ps []
theorem qM{ps:List PV}{F:List PV->R PV} (I:Inv X pins σ H s) (sm:aO Hf H) (dE:X.stack=X.env::X.outer)
    (h:hZ cl X.prog X.w X.stack H s (fun u o H'=>∃ c ao,F ps=.exc c/\Ext Hf H ao H'/\u=.ref (cl c)) e s') (inj:∀ c d,cl c=cl d->c=d) (hex:∀ b,b ∉ X.ex):bW X cl pins σ Hf H (F ps) e s':=by
  obtain⟨a,c,H',B,a0,rfl,ho,hg,un,bh,fl,mT,nd,c',ao,e1,ex,e2⟩:=h;have ec:c'=c:=inj _ _ (by injection e2 with e2;exact e2.symm)
  subst ec;refine⟨c',e1,a,ao,H',rfl,I.t7 ho un bh hg (fun b z=>absurd z (by simp)),ex,B,a0,?_,nd,.inr (.inr fl)⟩;intro b o hb hc hn;refine mT b o hb ?_ hn;rcases hc with hc | ⟨p,hp,e⟩ | ⟨o₀,hc⟩ | ⟨x,hc⟩
  . exact .inl hc
  . right;rw[<- e];exact⟨_,(I.pin p hp).1⟩
  . right;by_cases hx:b∈X.ex
    . exact absurd hx (hex b)
    . exact I.base.there b o₀ hc hx
  . right;obtain⟨v,o',q,_⟩:=I.cell x b hc;exact⟨o',q⟩
theorem GD{e:Expr}{es:List Expr}{p pos:Pos}{k n:Nat}{F:List PV->R PV}(hF:Fn X cl k x n F)(hr:bH k X.A)(hg:Gl X x)(dE:X.stack=X.env::X.outer)(inj:∀ c d,cl c=cl d->c=d)(hex:∀ b,b ∉ X.ex)
    (ha:MA X cl (e::es) g) (hl:(e::es).length=n) (d4:(x ==("__debug__" : Str))=false:=by decide) (he:starEach (e::es) X.env=(false,eval e X.env)::starEach es X.env:=by rfl) (dD:(backTo pos (starEach es X.env)).any (·.1)=false:=by rfl) :
    ME X cl (.Call (.Name x p) (e::es) [] pos) (aF F g):=by
  obtain⟨f,fd,ps,hm,hk,hn,hf,hb⟩:=hF.ex;refine⟨?_⟩;intro pins s σ aA H0 Hf H ρ I r hs;unfold aF at hs ⊢;refine WJ (fj I hg hm ?_ d4);refine Xd (h₀:=X.base) I.ok.mod.mM hk (ha.run pos I r (Ext.refl r.sub) hs fun qs vs us s1 aD H1 hq e1 I1 rv x1 aT=>⟨I1.dR,?_⟩) he dD;rw[e1]at hs ⊢;have hv:vs.length=n:=by rw[aT.length,hq,hl]
  have gy:mS X.K cl n F vs H1 (fun v H'=>∃ p ao,F qs=.ok p/\Ext aD H1 ao H'/\Rp X.K cl ao v p) (fun u o H'=>∃ c ao,F qs=.exc c/\Ext aD H1 ao H'/\u=.ref (cl c)) :=
    ⟨hv,aD,qs,x1.sub,aT,hs,fun p v ao H' a b c=>⟨p,ao,a,b,c⟩,fun c ao H' a b=>⟨c,ao,a,b,rfl⟩⟩
  have lQ:(us ++[]).length=ps.length:=by rw[Wj,<- rv.length,hv,hn]
  have gz:=hb s1 us I1.dR lQ;rw[Wj]at gz;refine XS (XC (hf.run X.A X.stack s1 H1 ⟨us,[]⟩ us vs _ _ hr I1.pO gz rv gy) fun r s' dz=>?_);cases r with
  | error e=>exact bW.from (e0:=x1) (qM I1 x1.sub dE dz inj hex)
  | ok fl =>
    cases fl with
    | ret u =>
      obtain⟨v,H',I',d0,p,ao,e2,ex,rp⟩:=I1.after dz;exact⟨p,v,ao,H',e2,I',d0,x1.trans ex,rp⟩
    | next=>exact False.elim dz
    | brk=>exact False.elim dz
    | cont=>exact False.elim dz
def ix(X:Cx)(cl:Nat->Addr)(f:Value)(F:List PV->R PV):Prop :=
  ∀(pins:List (Addr×Obj))(s:Shared)(σ:SV)(Hf H:Hp)(xs:List V)(us:List Value)(ps:List PV),Inv X pins σ H s->aO Hf H->Vals xs us->bB X.K cl Hf xs ps->F ps≠.stuck ->
    wpAny (model X.prog X.w) X.A (call f us) (eU X cl pins σ Hf H (F ps)) (bW X cl pins σ Hf H (F ps)) s
theorem cK{id:String}{e:Expr}{es:List Expr}{p pos:Pos}{F:List PV->R PV} (hc:ix X cl (.builtin id) F) (hg:Gl X x) (hm:X.mg x=none) (hv:bootBuiltins x=some (.builtin id)) (ha:MA X cl (e::es) g)
    (hn:x≠"__name__":=by decide) (d4:(x ==("__debug__" : Str))=false:=by decide) (he:starEach (e::es) X.env=(false,eval e X.env)::starEach es X.env:=by rfl) (dD:(backTo pos (starEach es X.env)).any (·.1)=false:=by rfl) :
    ME X cl (.Call (.Name x p) (e::es) [] pos) (aF F g):=by
  refine⟨?_⟩;intro pins s σ aA H0 Hf H ρ I r hs;unfold aF at hs ⊢;refine WJ (jx I hg hm hv ?_ hn d4);refine Xs (ha.run pos I r (Ext.refl r.sub) hs fun qs vs us s1 aD H1 _ e1 I1 rv x1 aT=>?_) he dD;rw[e1]at hs ⊢;exact VN (hc pins s1 σ aD H1 vs us qs I1 x1.sub rv aT hs) (fun _ _ q=>q.from (e0:=x1)) fun _ _ q=>q.from (e0:=x1)
theorem kP{T:String}{e:Expr}{es:List Expr}{p pos:Pos}{F:List PV->R PV} (hc:ix X cl (.type T) F) (hg:Gl X x) (hm:X.mg x=none) (hv:bootBuiltins x=some (.type T)) (ha:MA X cl (e::es) g)
    (hn:x≠"__name__":=by decide) (d4:(x ==("__debug__" : Str))=false:=by decide) (he:starEach (e::es) X.env=(false,eval e X.env)::starEach es X.env:=by rfl) (dD:(backTo pos (starEach es X.env)).any (·.1)=false:=by rfl) :
    ME X cl (.Call (.Name x p) (e::es) [] pos) (aF F g):=by
  refine⟨?_⟩;intro pins s σ aA H0 Hf H ρ I r hs;unfold aF at hs ⊢;refine WJ (jx I hg hm hv ?_ hn d4);refine Y6 (ha.run pos I r (Ext.refl r.sub) hs fun qs vs us s1 aD H1 _ e1 I1 rv x1 aT=>?_) he dD;rw[e1]at hs ⊢;exact VN (hc pins s1 σ aD H1 vs us qs I1 x1.sub rv aT hs) (fun _ _ q=>q.from (e0:=x1)) fun _ _ q=>q.from (e0:=x1)
theorem iS{t:Sem Value}{p:PV}{E:Value->Shared->Prop}{rr:R PV}(hr:rr=.ok p)
    (h:∀ E,wpAny (model X.prog X.w) X.A t (EP (X.bR E) pins σ fun v H'=>∃ ao,Ext Hf H ao H'/\Rp X.K cl ao v p) E s):wpAny (model X.prog X.w) X.A t (eU X cl pins σ Hf H rr) E s:=by
  rw[hr];exact EN (h E)
theorem iT{p:PV}{vs:List V}{K:PySem.W.Frag}(h:bB K cl Hf vs [p]):∃ v,vs=[v]/\Rp K cl Hf v p:=by
  cases h with
  | cons r t=>cases t;exact⟨_,rfl,r⟩
theorem ug{p q:PV}{vs:List V}{K:PySem.W.Frag}(h:bB K cl Hf vs [p,q]):∃ v w,vs=[v,w]/\Rp K cl Hf v p/\Rp K cl Hf w q:=by
  cases h with
  | cons r t =>
    cases t with
    | cons r' t'=>cases t';exact⟨_,_,rfl,r,r'⟩
theorem gO:ix X cl (.builtin "len") fE:=by
  intro pins s σ Hf H xs us ps I sm rv aT hs
  match ps,aT,hs with
  | [.tup l],aT,hs =>
    obtain⟨v,rfl,rp⟩:=iT aT;cases rp with
    | tup h r =>
      refine iS (p:=.int l.length) rfl fun E=>(nu (X:=X.bR E)) pins s σ H _ us _ (I.bR E) rv ?_;exact⟨_,_,rfl,.inr (aO.dX sm h),Hf,Ext.refl sm,by rw[r.length];exact .int _⟩
  | [.lst l],aT,hs =>
    obtain⟨v,rfl,rp⟩:=iT aT;cases rp with
    | lst h r =>
      refine iS (p:=.int l.length) rfl fun E=>(nu (X:=X.bR E)) pins s σ H _ us _ (I.bR E) rv ?_;exact⟨_,_,rfl,.inl (sm.seq h),Hf,Ext.refl sm,by rw[r.length];exact .int _⟩
  | [.str z],aT,hs =>
    obtain⟨v,rfl,rp⟩:=iT aT;cases rp;obtain⟨hz,e⟩:=cX hs;refine iS (p:=.int z.length) e fun E=>(uJ (X:=X.bR E)) pins s σ H _ us _ (I.bR E) rv ?_;exact⟨_,rfl,hz,Hf,Ext.refl sm,.int _⟩
  | [],_,hs=>exact absurd rfl hs
  | [.aU],_,hs=>exact absurd rfl hs
  | [.bl _],_,hs=>exact absurd rfl hs
  | [.int _],_,hs=>exact absurd rfl hs
  | [.exc _],_,hs=>exact absurd rfl hs
  | [.iO],_,hs=>exact absurd rfl hs
  | [.own _],_,hs=>exact absurd rfl hs
  | _::_::_,_,hs=>exact absurd (by unfold fE;split<;>first | rfl | (rename_i h;cases h)) hs
theorem ER:ix X cl (.builtin "abs") uN:=by
  intro pins s σ Hf H xs us ps I sm rv aT hs;have:∃ i,ps=[.int i]:=by
    unfold uN at hs;split at hs
    . exact⟨_,rfl⟩
    . exact absurd rfl hs
  obtain⟨i,rfl⟩:=this;obtain⟨v,rfl,rp⟩:=iT aT;cases rp;refine iS rfl fun E=>(C3 (X:=X.bR E)) pins s σ H _ us _ (I.bR E) rv ?_;exact⟨i,rfl,Hf,Ext.refl sm,.int _⟩
theorem LZ(hc:X.calm=true):ix X cl (.builtin "max") yG:=by
  intro pins s σ Hf H xs us ps I sm rv aT hs;have:∃ i j,ps=[.int i,.int j]:=by
    unfold yG at hs;split at hs
    . exact⟨_,_,rfl⟩
    . exact absurd rfl hs
  obtain⟨i,j,rfl⟩:=this;obtain⟨v,w,rfl,rp,rq⟩:=ug aT;cases rp;cases rq;refine iS rfl fun E=>(Av (X:=X.bR E) hc) pins s σ H _ us _ (I.bR E) rv ?_;exact⟨i,j,rfl,Hf,Ext.refl sm,.int _⟩
theorem L5:ix X cl (.type "int") uO:=by
  intro pins s σ Hf H xs us ps I sm rv aT hs;have:(∃ i,ps=[.int i])\/∃ k,ps=[.bl k]:=by
    unfold uO at hs;split at hs
    . exact .inl ⟨_,rfl⟩
    . exact .inr ⟨_,rfl⟩
    . exact absurd rfl hs
  rcases this with⟨i,rfl⟩ | ⟨k,rfl⟩
  . obtain⟨v,rfl,rp⟩:=iT aT;cases rp;refine iS rfl fun E=>(sG (X:=X.bR E)) pins s σ H _ us _ (I.bR E) rv ?_;exact .inl ⟨i,rfl,Hf,Ext.refl sm,.int _⟩
  . obtain⟨v,rfl,rp⟩:=iT aT;cases rp;refine iS rfl fun E=>(sG (X:=X.bR E)) pins s σ H _ us _ (I.bR E) rv ?_;exact .inr ⟨k,rfl,Hf,Ext.refl sm,.int _⟩
theorem ak:cO X cl (binaryOp .Add) ar:=by
  intro pins s σ Hf H x y v u p q I sm rv ru rp rq hs;cases p<;>cases q<;>first
    | exact absurd rfl hs
    | skip
  . rename_i i j;cases rp;cases rq;obtain⟨t,rfl⟩:=rv;obtain⟨t',rfl⟩:=ru;exact add_int ⟨_,.int (i+j),Hf,H,rfl,I.tok _,⟨_,rfl⟩,Ext.refl sm,.int _⟩
  . rename_i i j;obtain⟨hz,e⟩:=cX hs;cases rp;cases rq;refine iS e fun E=>(yt (X:=X.bR E)) pins s σ H _ _ v u _ (I.bR E) rv ru ?_;exact⟨i,j,rfl,rfl,hz,Hf,Ext.refl sm,.str _⟩
  . rename_i i j;obtain⟨⟨⟨wY,Vz⟩,hz⟩,e⟩:=cX hs;cases rp with
    | tup h1 r1 =>
      cases rq with
      | tup h2 r2 =>
        cases rv;cases ru;obtain⟨its,w1,p1,z1⟩:=I.tuple (aO.dX sm h1);obtain⟨fi,w2,p2,z2⟩:=I.tuple (aO.dX sm h2);have l1:=w1.length
        have l2:=w2.length;have l3:=r1.length
        have l4:=r2.length;rw[show ar (.tup i) (.tup j)=_ from e]
        refine HT.Gs p1 p2 (fun q=>by rw[q]at l1;simp only[Yl]at l1;omega) (fun q=>by rw[q]at l2;simp only[Yl]at l2;omega) (fun _=>?_) (by omega);exact iw (tk:=s.toks) I.fresh sm (I.laid (t':=s.toks) (o:=.tup _) (fun b u e=>VW _ e) (VU _) ⟨by rw[VV];omega,its++fi,w1.append w2,⟨_,Wi _ rfl,rfl,0,rfl⟩⟩) (.tup (iG.of bp) ((r1.append r2).keep (dk (sm.free I.fresh) _)))
  . rename_i i j;obtain⟨hz,e⟩:=cX hs;cases rp with
    | lst h1 r1 =>
      cases rq with
      | lst h2 r2 =>
        cases rv;cases ru;obtain⟨its,w1,p1,z1⟩:=I.list (sm.seq h1);obtain⟨fi,w2,p2,z2⟩:=I.list (sm.seq h2);have l1:=w1.length
        have l2:=w2.length;have l3:=r1.length
        have l4:=r2.length;have e0:its.toArray++fi.toArray=(its++fi).toArray:=by simp
        obtain⟨⟨cls,dd,data,sl⟩,ho,hc,n,hd⟩:=id p1.isList;obtain⟨⟨PF,EF,data2,EG⟩,nr,AB,n2,hd2⟩:=id p2.isList;simp only at hc hd AB hd2;subst hc hd AB hd2;rw[show ar (.lst i) (.lst j)=_ from e]
        refine concat_meets ⟨_,ho,rfl⟩ ⟨_,nr,rfl⟩ noFill_list_add seq_list_add PySem.F.slot_list_add PySem.F.entry_list_add (PySem.F.args_list_add_2 _ _) (list_addW _ _ its.toArray fi.toArray n n2 dd EF sl EG (by simp only[Wl];omega)) ⟨ho,nr,?_⟩;rw[e0];exact iw (tk:=s.toks) I.fresh sm (I.PL (t':=s.toks) (w1.append w2) (by rw[VV];omega)) (.lst (fV.of bp) ((r1.append r2).keep (dk (sm.free I.fresh) _)))
theorem Q8{a:Expr}{j:Nat}{pos pos':Pos}(ha:ME X cl a fa):MT X cl (.Compare a [.Is] [.Constant .none j pos'] pos) (aP (gA yE fa)):=by
  refine⟨?_⟩;intro pins s σ aA H0 Hf H ρ I r hs;have assoc:∀{β γ δ:Type}(x:R β)(f:β->R γ)(g:γ->R δ),(x.bind f).bind g=x.bind fun y=>(f y).bind g:=fun x f g=>by cases x<;>rfl
  unfold aP gA at hs ⊢;rw[assoc]at hs ⊢;refine XG (ha.run I r (Ext.refl r.sub) hs fun p v u s1 aD H1 e1 I1 rv x1 rp=>?_) (uE _ (by decide) (by decide));rw[e1];refine Constant_none (is_none_gen (WR ⟨aD,H1,?_,I1,x1⟩));rw[rv.uF];cases rp<;>rfl
theorem Q9{a:Expr}{j:Nat}{pos pos':Pos}(ha:ME X cl a fa):MT X cl (.Compare a [.IsNot] [.Constant .none j pos'] pos) (aP (gA yF fa)):=by
  refine⟨?_⟩;intro pins s σ aA H0 Hf H ρ I r hs;have assoc:∀{β γ δ:Type}(x:R β)(f:β->R γ)(g:γ->R δ),(x.bind f).bind g=x.bind fun y=>(f y).bind g:=fun x f g=>by cases x<;>rfl
  unfold aP gA at hs ⊢;rw[assoc]at hs ⊢;refine XG (ha.run I r (Ext.refl r.sub) hs fun p v u s1 aD H1 e1 I1 rv x1 rp=>?_) (uE _ (by decide) (by decide));rw[e1];refine Constant_none (isnot_none_gen (WR ⟨aD,H1,?_,I1,x1⟩));rw[rv.uF];cases rp<;>rfl
theorem r9{K:PySem.W.Frag}{v:V}{p:PV}(h:Rp K cl Hf v p)(f:ik p=true):jq v=true:=by
  cases h<;>first | rfl | (simp[ik]at f)
theorem IJ{K:PySem.W.Frag}{v w:V}{p q:PV}(h:Rp K cl Hf v p)(h':Rp K cl Hf w q)(f:ik p=true)(g:ik q=true):pz v w=dO p q:=by
  cases h<;>cases h'<;>first | rfl | (simp[ik]at f;done) | (simp[ik]at g;done)
theorem uW{K:PySem.W.Frag}{w:V}{q:PV}(h':Rp K cl Hf w q)(g:ik q=true):∀{vs:List V}{ps:List PV},bB K cl Hf vs ps->ps.all ik=true->vs.all jq=true/\(vs.any fun y=>pz y w)=ps.any fun z=>dO z q
  | _,_,.nil,_=>⟨rfl,rfl⟩
  | _,_,.cons r t,f=>by
    rw[Xl,VR]at f;obtain⟨a,b⟩:=uW h' g t f.2;exact⟨by rw[Xl,r9 r f.1,a];rfl,by rw[Xw,Xw,IJ r h' f.1 g,b]⟩
theorem wA(b:Str)(u:Tok)(l:Addr)(o:Obj){es:Array DictEntry}{ep:Nat} (hc:o.cls=.type "dict") (hd:o.data=.dict es ep):Meets (Builtin.«str.__eq__» ⟨[.str b u,.ref l],[]⟩) (fun _ R s=>s.heap.get? l=some o/\R (.ok (.ret .notImplemented)) s):=by
  refine .of_wp fun prog w A R s h=>?_;obtain⟨hp,g,d,tk,os⟩:=s;obtain⟨hl,h⟩:=h;obtain⟨c,dd,dt,sl⟩:=o;cases hc;cases hd;have f1:=F.sub_dict_str
  wp_walk using wpAny_loadPart' hl,wpAny_load hl
  exact⟨_,rfl,h⟩
theorem wB(b:Str)(u:Tok)(l:Addr)(o:Obj) (hc:o.cls=.type "dict"):Meets (Builtin.«dict.__eq__» ⟨[.ref l,.str b u],[]⟩) (fun _ R s=>s.heap.get? l=some o/\R (.ok (.ret .notImplemented)) s):=by
  refine .of_wp fun prog w A R s h=>?_;obtain⟨hp,g,d,tk,os⟩:=s;obtain⟨hl,h⟩:=h;obtain⟨c,dd,dt,sl⟩:=o;cases hc;have f1:=F.sub_str_dict
  wp_walk using wpAny_loadPart' hl,wpAny_load hl
  exact⟨_,rfl,h⟩
theorem wC{A:Around}{b:Str}{u:Tok}{o:Obj}{es:Array DictEntry}{ep:Nat}(hl:s.heap.get? l=some o) (hc:o.cls=.type "dict") (hd:o.data=.dict es ep) (hu:A.units<cLine):SeqAt.RcAt A s (.ref l) (.str b u) false:=fun prog w E Q h=>by
  have ty:s.TypeIs (.ref l) "dict":=⟨o,hl,hc⟩;refine SeqAt.rc_eq_decline_or (k:=false) ty (Yc s b u) (by decide) F.sub_str_dict F.slot_dict_eq F.slot_str_eq_refl (fun _ q=>?_) (fun _ q=>?_) (fun _ q=>?_) (.inr hu) h
  . exact Yr F.slot_dict_eq ty F.entry_dict_eq (F.args_dict_eq_2 _ _) (wB b u l o hc) ⟨hl,q⟩
  . exact Yr F.slot_str_eq_refl (Yc s b u) F.entry_str_eq (F.args_str_eq_2 _ _) (wA b u l o hc hd) ⟨hl,q⟩
  . exact wpAny_of_eq (rfl:isSame (.ref l) (.str b u)=pure false) q
theorem IK(I:Inv X pins σ H s)(sm:aO Hf H)(h:Hf l=some (.dK [])):∃ o es ep,s.heap.get? l=some o/\o.cls=.type "dict"/\o.data=.dict es ep:=by
  obtain⟨_,_,vs,_,p⟩:=(show dF X.prog X.w H s.heap l (.dK []) from I.bh l _ (sm _ _ h))
  obtain⟨o,es,ep,h1,h2,h3,_⟩:=p;exact⟨o,es,ep,h1,h2.1,h3⟩
theorem Dd:cO X cl (compareOp .In) pC:=by
  intro pins s σ Hf H x y v u p q I sm rv ru rp rq hs;cases q<;>first
    | exact absurd rfl hs
    | skip
  . rename_i z;cases p<;>first
      | exact absurd rfl hs
      | skip
    cases rp;cases rq;refine iS rfl fun E=>(Au (X:=X.bR E)) pins s σ H _ _ v u _ (I.bR E) rv ru ?_;exact⟨_,_,rfl,rfl,Hf,Ext.refl sm,.bl _⟩
  . rename_i l;obtain⟨hc,e⟩:=cX hs;rw[VR]at hc;cases rq with
    | tup h r =>
      obtain⟨f1,f2⟩:=uW rp hc.1 r hc.2;refine iS e fun E=>(sO (X:=X.bR E)) pins s σ H _ _ v u _ (I.bR E) rv ru ?_;exact⟨_,_,rfl,.inr (aO.dX sm h),r9 rp hc.1,f1,Hf,Ext.refl sm,by show Rp _ _ _ (.bl (wR x _)) _;unfold wR;rw[f2];exact .bl _⟩
  . rename_i l;obtain⟨hc,e⟩:=cX hs;rw[VR]at hc;cases rq with
    | lst h r =>
      obtain⟨f1,f2⟩:=uW rp hc.1 r hc.2;refine iS e fun E=>(sO (X:=X.bR E)) pins s σ H _ _ v u _ (I.bR E) rv ru ?_;exact⟨_,_,rfl,.inl (sm.seq h),r9 rp hc.1,f1,Hf,Ext.refl sm,by show Rp _ _ _ (.bl (wR x _)) _;unfold wR;rw[f2];exact .bl _⟩
theorem uX{K:PySem.W.Frag}{l:List PV}{i:Int}{vs:List V}(h:il l i≠.stuck)(r:bB K cl Hf vs l):∃ v p,il l i=.ok p/\sN vs i=some v/\Rp K cl Hf v p:=by
  unfold il at h ⊢;unfold sN;have e:wQ vs.length i=nz l.length i:=by rw[r.length];rfl
  rw[e];cases q:nz l.length i with
  | none=>rw[q]at h;exact absurd rfl h
  | some j =>
    rw[q]at h;dsimp only at h ⊢;cases w:l[j]? with
    | none=>rw[w]at h;exact absurd rfl h
    | some p =>
      obtain⟨v,h1,h2⟩:=r.get w;exact⟨v,p,rfl,h1,h2⟩
theorem aC{a b:Expr}{fa fb:FE}{pos:Pos}(ha:ME X cl a fa)(hb:ME X cl b fb)(hx:Gv b:=by intro _ _;rfl):ME X cl (.Subscript a b pos) (ag aB fa fb):=by
  refine⟨?_⟩;intro pins s σ aA H0 Hf H ρ I r hs;refine Subscript_ ?_;have rule:cO X cl (fun v u=>subscriptTail a b v u) aB:=by
    intro pins s σ Hf H x y v u p q I sm rv ru rp rq hs;cases q<;>first
      | (cases p<;>exact absurd rfl hs)
      | skip
    rename_i i;cases rq;cases p<;>first
      | exact absurd rfl hs
      | skip
    . rename_i z;cases rp;have cu:aB (.str z) (.int i)≠.stuck:=hs
      unfold aB at cu ⊢;dsimp only at cu ⊢;cases w:nz z.cps.toList.length i with
      | none=>rw[w]at cu;exact absurd rfl cu
      | some j =>
        rw[w]at cu;dsimp only at cu ⊢;cases w2:z.cps.toList[j]? with
        | none=>rw[w2]at cu;exact absurd rfl cu
        | some c =>
          rw[w2]at cu;dsimp only at cu ⊢;obtain⟨hz,e⟩:=cX cu;refine iS e fun E=>(Ii (X:=X.bR E)) a b pins s σ H _ _ v u _ (I.bR E) rv ru ?_ (hx _ _);refine⟨z,i,c,rfl,rfl,hz,?_,Hf,Ext.refl sm,.str _⟩;unfold sN;have e2:wQ z.cps.toList.length i=some j:=w
          rw[e2];exact w2
    . rename_i l;cases rp with
      | tup h r =>
        obtain⟨v',p',e1,e2,e3⟩:=uX (show il l i≠.stuck from hs) r;refine iS (show aB (.tup l) (.int i)=.ok p' from e1) fun E=>(Ih (X:=X.bR E)) a b pins s σ H _ _ v u _ (I.bR E) rv ru ?_ (hx _ _)
        exact⟨_,_,i,v',rfl,rfl,aO.dX sm h,e2,Hf,Ext.refl sm,e3⟩
    . rename_i l;cases rp with
      | lst h r =>
        obtain⟨v',p',e1,e2,e3⟩:=uX (show il l i≠.stuck from hs) r;refine iS (show aB (.lst l) (.int i)=.ok p' from e1) fun E=>(Gw (X:=X.bR E)) a b pins s σ H _ _ v u _ (I.bR E) rv ru ?_ (hx _ _)
        exact⟨_,_,i,v',rfl,rfl,sm.seq h,e2,Hf,Ext.refl sm,e3⟩
  exact two ha hb rule I r hs
structure MO(X:Cx)(cl:Nat->Addr)(e:Option Expr)(f:FO):Prop where
  run':∀(pins:List (Addr×Obj))(s:Shared)(σ:SV)(aA H0 Hf H:Hp)(ρ:ay),Inv X pins σ H s->Rep X.K cl aA H0 Hf H σ ρ->f ρ≠.stuck ->
    wpAny (model X.prog X.w) X.A (evalPart e X.env) (fun u s'=>∃ o ao H',f ρ=.ok o/\Inv X pins σ H' s'/\IsPart u o/\Ext Hf H ao H') (bW X cl pins σ Hf H (f ρ)) s
noncomputable instance {X:Cx}{cl:Nat->Addr}{e:Option Expr}{f:FO}:CoeFun (MO X cl e f) fun _=>∀(pins:List (Addr×Obj))(s:Shared)(σ:SV)(aA H0 Hf H:Hp)(ρ:ay),Inv X pins σ H s->Rep X.K cl aA H0 Hf H σ ρ->f ρ≠.stuck ->
    wpAny (model X.prog X.w) X.A (evalPart e X.env) (fun u s'=>∃ o ao H',f ρ=.ok o/\Inv X pins σ H' s'/\IsPart u o/\Ext Hf H ao H') (bW X cl pins σ Hf H (f ρ)) s:=⟨MO.run'⟩
theorem oE:MO X cl none mf:=by
  refine⟨?_⟩;intro pins s σ aA H0 Hf H ρ I r hs;rw[evalPart_none];exact Ws ⟨none,Hf,H,rfl,I,.none,Ext.refl r.sub⟩
theorem j4(h:ME X cl e f):MO X cl (some e) (jr f):=by
  refine⟨?_⟩;intro pins s σ aA H0 Hf H ρ I r hs;rw[evalPart_some];unfold jr at hs ⊢;refine h.run I r (Ext.refl r.sub) hs fun p v u s1 aD H1 e1 I1 rv x1 rp=>?_;rw[e1]at hs ⊢;cases p<;>first
    | exact absurd rfl hs
    | skip
  rename_i i;cases rp;obtain⟨t,rfl⟩:=rv;exact⟨some i,aD,H1,rfl,I1,.int i t,x1⟩
theorem MO.run(h:MO X cl e f)(I:Inv X pins σ H1 s)(r:Rep X.K cl aA H0 aD H1 σ ρ)(e0:Ext Hf H aD H1){k:Option Int->R α}(hs:(f ρ).bind k≠.stuck){Q:Value->Shared->Prop}
    (ok:∀ o u s' ao H',(f ρ).bind k=k o->Inv X pins σ H' s'->IsPart u o->Ext aD H1 ao H'->Q u s') :
    wpAny (model X.prog X.w) X.A (evalPart e X.env) Q (bW X cl pins σ Hf H ((f ρ).bind k)) s:=by
  have hf:f ρ≠.stuck:=fun z=>hs (by rw[z];rfl);refine VN (h pins s σ aA H0 aD H1 ρ I r hf) (fun u s' q=>?_) fun u s' q=>?_
  . obtain⟨o,ao,H',e1,I',hp,ex⟩:=q;exact ok o u s' ao H' (by rw[e1];rfl) I' hp ex
  . obtain⟨c,e1,x⟩:=q;exact⟨c,by rw[e1];rfl,x.from e0⟩
theorem AS(n d:Nat)(hd:d<=n)(o:Option Int):fH n d o<=n:=by
  cases o with
  | none=>exact hd
  | some v=>unfold fH;simp only;split<;>omega
theorem yO(n:Nat)(lo hi:Option Int):Builtin.Str.strSliceIndices lo hi 1 n=(List.range (fH n n hi - fH n 0 lo)).map (fH n 0 lo+·):=by
  have clip:∀(o:Option Int)(d:Nat),d<=n->(match o with
      | none=>(d:Int)
      | some i=>if (1:Int)>0 then max 0 (min (if i<0 then i+(n:Int) else i) (n:Int)) else max (-1) (min (if i<0 then i+(n:Int) else i) ((n:Int) - 1)))=(fH n d o:Int):=by
    intro o d hd;cases o with
    | none=>rfl
    | some i =>
      simp only[fH];rw[VP (by decide)];by_cases h:i<0
      . rw[VP h,VP h];omega
      . rw[VQ h,VQ h];omega
  have c1:=clip lo 0 (Xp n);have c2:=clip hi n (VU n)
  refine(congr (Xq (fun p q=>sliceRange p q 1) c1) c2:Builtin.Str.strSliceIndices lo hi 1 n=sliceRange (fH n 0 lo:Int) (fH n n hi:Int) 1).trans ?_;generalize fH n 0 lo=a;generalize fH n n hi=b;unfold sliceRange;simp only[show(1:Int)>0 from by decide,W2]
  have hc:(if (a:Int)<(b:Int) then ((b:Int) - (a:Int)+1 - 1)/1 else 0).toNat=b - a:=by
    by_cases h:(a:Int)<(b:Int)
    . rw[VP h,aa3];omega
    . rw[VQ h];omega
  rw[hc];refine W9 fun k _=>?_;omega
theorem GF(z:Str)(lo hi:Option Int):Txt.slice z lo hi=nB z lo hi:=by
  have hn:z.length=z.cps.toList.length:=by show z.cps.size=_;simp
  have M8:=AS z.cps.toList.length 0 (Xp _) lo;have IL:=AS z.cps.toList.length z.cps.toList.length (VU _) hi
  unfold Txt.slice nB;rw[hn,yO];generalize fH z.cps.toList.length 0 lo=a at M8 ⊢;generalize fH z.cps.toList.length z.cps.toList.length hi=b at IL ⊢;split
  . rename_i h;simp only[V5,WI,WM,aaw,Wo]at h;by_cases hz:z.cps.toList.length=0
    . have e:z.cps.toList=[]:=List.length_eq_zero_iff.mp hz;rw[e];simp only[List.drop_nil,List.take_nil];cases z with | mk c=>simp at e ⊢;exact e
    . have ha:a=0:=by omega
      have hb:b=z.cps.toList.length:=by omega
      subst ha;subst hb;rw[Z1,Nat.sub_zero,List.take_length]
  . congr 1;congr 1;by_cases sU:a<=b
    . have:=StrLaws.sliced_plain z (a:=a) (b:=b) sU (by rw[hn];exact IL);rw[StrLaws.strSliceIndices_plain sU (by rw[hn];exact IL)]at this;exact this
    . rw[show b - a=0 by omega];simp
theorem nF{e:Expr}{lo hi:Option Expr}{f:FE}{l h:FO}{p2 pos:Pos}(he:ME X cl e f)(hl:MO X cl lo l)(hh:MO X cl hi h):ME X cl (.Subscript e (.Slice lo hi none p2) pos) (mh f l h):=by
  refine⟨?_⟩;intro pins s σ aA H0 Hf H ρ I r hs;unfold mh at hs ⊢;refine Subscript_ (he.run I r (Ext.refl r.sub) hs fun p v u s1 aD H1 e1 I1 rv x1 rp=>?_);rw[e1]at hs ⊢;refine wpAny_Slice (hl.run I1 (r.keep x1) x1 hs fun o vl s2 bG H2 e2 I2 IM x2=>?_);rw[e2]at hs ⊢;have kN:=x1.trans x2
  refine hh.run I2 (r.keep kN) kN hs fun o' vu s3 iI H3 e3 I3 IP x3=>?_;rw[e3]at hs ⊢;have kO:=kN.trans x3
  rw[evalPart_none];refine Ws ?_;have I4:Inv X pins σ H3 { s3 with heap:=s3.heap.push { cls:=.type "slice",data:=.fields #[vl,vu,.none] } }:=I3.kept (t':=s3.toks) fun b ob q=>VW _ q
  cases p<;>first
    | exact absurd rfl hs
    | skip
  . rename_i z;obtain⟨hz,e⟩:=cX hs;rw[show lz (.str z) o o'=.ok (.str (nB z o o')) from e]
    cases rp;obtain⟨t,rfl⟩:=rv;generalize bW X cl pins σ Hf H _=E;have fin:∀(l u:Option (Int×Tok)),l.map (·.1)=o->u.map (·.1)=o'->∀{E:Value->Shared->Prop},vl=partValue l->vu=partValue u->wpAny (model X.prog X.w) X.A (getItem (.str z t) (.ref s3.heap.objs.size)) (eU X cl pins σ Hf H (.ok (.str (nB z o o')))) E { s3 with heap:=s3.heap.push { cls:=.type "slice",data:=.fields #[vl,vu,.none] } }:=by
      intro l u hl hu E el eu;subst el eu;refine wpAny_getItem_str_slice (l:=l) (u:=u) (st:=none) ⟨_,Wi _ rfl,rfl,rfl⟩ rfl ?_;have e2:Txt.slice z (l.map (·.1)) (u.map (·.1))=nB z o o':=by rw[hl,hu];exact GF z o o'
      refine post_val_or_str ⟨Wh (Txt.slice_le z (l.map (·.1)) (u.map (·.1))) hz,fun t' k=>?_⟩;refine⟨_,.str (nB z o o'),iI,H3,rfl,I4.tok _,⟨t',?_⟩,kO,.str _⟩;rw[<- e2];rfl
    refine tail_any (ops:=[.ref s3.heap.objs.size,.str z t]) (Yc _ _ _) F.slot_str_getitem.lookup ?_ (by with_unfolding_all rfl);cases IM with
    | none=>cases IP with
      | none=>exact fin none none rfl rfl rfl rfl
      | int j tj=>exact fin none (some (j,tj)) rfl rfl rfl rfl
    | int i ti=>cases IP with
      | none=>exact fin (some (i,ti)) none rfl rfl rfl rfl
      | int j tj=>exact fin (some (i,ti)) (some (j,tj)) rfl rfl rfl rfl
  rename_i l';have AQ:=rp.keep (x2.trans x3).bw
  cases AQ with
  | lst hq rr =>
    have PU:∀ xs:List V,bB X.K cl iI xs l'->bB X.K cl iI (rW xs o o') (jM l' o o'):=fun xs rx=>by
      unfold rW jM;have hl:=rx.length
      rw[hl];exact(rx.drop _).take _
    generalize bW X cl pins σ Hf H (lz (.lst l') o o')=E;obtain⟨T,id,hT,ht,hg⟩:=(Gx (X:=X.bR E)) pins { s3 with heap:=s3.heap.push { cls:=.type "slice",data:=.fields #[vl,vu,.none] } } σ H3 _ u vl vu o o' s3.heap.objs.size
      (fun w H'=>∃ ao,Ext iI H3 ao H'/\Rp X.K cl ao w (.lst (jM l' o o'))) (I4.bR E) rv (Heap.IsSliceOf.new ..) IM IP
      ⟨_,_,rfl,x3.sub.seq hq,fun a ha=>⟨_,Ext.new x3.sub ha _,.lst (fV.of bp) ((PU _ rr).keep (dk (x3.sub.free ha) _))⟩⟩
    refine tail_any (ops:=[.ref s3.heap.objs.size,u]) ht hT ?_ (by with_unfolding_all rfl);refine ft (EN hg) fun _ _ q=>eU.from (e0:=kO) q
noncomputable def mU(ps qs:List PV)(j:Nat):Bool:=match ps[j]?,qs[j]? with
  | some a,some b=>dO a b
  | _,_=>false
theorem De(a b:PV)(ps qs:List PV)(j:Nat):mU (a::ps) (b::qs) (j+1)=mU ps qs j:=by simp[mU]
theorem se(n:Nat)(e:Nat->Bool):(List.range (n+1)).all e=(e 0&&(List.range n).all fun j=>e (j+1)):=by
  rw[ZK,Xl,List.all_map];rfl
theorem mr:∀(ps qs:List PV),cY ps qs=((List.range (min ps.length qs.length)).all (mU ps qs)&&ps.length == qs.length)
  | [],[]=>by simp[cY]
  | [],_::_=>by simp[cY]
  | _::_,[]=>by simp[cY]
  | a::ps,b::qs=>by
    have ih:=mr ps qs;show(dO a b&&cY ps qs)=_
    have h1:min (a::ps).length (b::qs).length=min ps.length qs.length+1:=by simp only[VT];omega
    rw[h1,se,ih];have h2:mU (a::ps) (b::qs) 0=dO a b:=rfl
    have h3:(fun j=>mU (a::ps) (b::qs) (j+1))=mU ps qs:=by funext j;exact De a b ps qs j
    rw[h2,h3];have h4:((a::ps).length ==(b::qs).length)=(ps.length == qs.length):=by simp
    rw[h4,Bool.and_assoc]
theorem AU{ps qs:List PV}(h:ps.length=qs.length):cY ps qs=(List.range ps.length).all (mU ps qs):=by
  rw[mr,<- h];simp
theorem Df{ps qs:List PV}(h:ps.length≠qs.length):cY ps qs=false:=by
  rw[mr];have:(ps.length == qs.length)=false:=by simpa using h
  rw[this,Y1]
theorem sV{ps:List PV}{j:Nat}{p:PV} (h:ps.all (bD n)=true) (e:ps[j]?=some p):bD n p=true:=by
  rw[Ww]at h;exact h p (XR e)
theorem wZ(I:Inv X pins σ H s)(sm:aO Hf H):∀(n:Nat){v:V}{p q:PV},Rp X.K cl Hf v p->Rp X.K cl Hf v q->bD n p=true->bD n q=true->dO p q=true:=by
  intro n
  induction n with
  | zero =>
    intro v p q hp hq cp cq;cases hp<;>cases hq<;>first | (simp[dO];done) | (simp[bD]at cp;done)
  | succ n ih =>
    have all:∀{vs:List V}{ps qs:List PV},bB X.K cl Hf vs ps->bB X.K cl Hf vs qs->ps.all (bD n)=true->qs.all (bD n)=true->cY ps qs=true:=by
      intro vs
      induction vs with
      | nil=>intro ps qs r1 r2 _ _;cases r1;cases r2;rfl
      | cons v vs Ra =>
        intro ps qs r1 r2 c1 c2;cases r1 with
        | cons a1 t1 =>
          cases r2 with
          | cons a2 t2 =>
            rw[Xl,VR]at c1 c2;show(dO _ _&&cY _ _)=true
            rw[ih a1 a2 c1.1 c2.1,Ra t1 t2 c1.2 c2.2];rfl
    intro v p q hp hq cp cq;have IQ:∀{a:Addr}{xs ys:List V},fV X.K Hf a xs->iG X.K Hf a ys->False:=fun{a xs ys} h1 h2=>by
      obtain⟨its,_,⟨o,n1,e1,c1,_⟩,_⟩:=I.list (sm.seq h1);obtain⟨fi,_,⟨o2,e2,c2,_⟩,_⟩:=I.tuple (aO.dX sm h2);rw[e1]at e2;cases e2;rw[c1]at c2;injection c2 with c3;exact absurd c3 (by decide)
    cases hp with
    | tup h1 r1 =>
      cases hq with
      | tup h2 r2 =>
        have e:=I.sE (aO.dX sm h1) (aO.dX sm h2);subst e;exact all r1 r2 cp cq
      | lst h2 r2=>exact(IQ h2 h1).elim
      | _=>simp[bD]at cq
    | lst h1 r1 =>
      cases hq with
      | tup h2 r2=>exact(IQ h1 h2).elim
      | lst h2 r2 =>
        have e:=I.uG (sm.seq h1) (sm.seq h2);subst e;exact all r1 r2 cp cq
      | _=>simp[bD]at cq
    | _=>cases hq<;>first | (simp[dO];done) | (simp[bD]at cp;done)
theorem w4(I:Inv X pins σ H s)(sm:aO Hf H):∀(n:Nat){A:Around}{x y:V}{v u:Value}{p q:PV},A.units+n<cLine->RelV x v->RelV y u->Rp X.K cl Hf x p->Rp X.K cl Hf y q->bD n p=true->bD n q=true ->
    SeqAt.RcAt A s v u (dO p q)/\SeqAt.EqAt A s v u (dO p q)/\SeqAt.RcNeAt A s v u (!dO p q):=by
  intro n
  induction n with
  | zero =>
    intro A x y v u p q hu rv ru rp rq cp cq;cases rp<;>first | (simp[bD]at cp;done) | skip
    all_goals (cases rq<;>first | (simp[bD]at cq;done) | skip)
    . cases rv;cases ru;exact⟨SeqAt.RcAt.none_none,Yj _,SeqAt.RcNeAt.none_none⟩
    . cases rv;cases ru;exact⟨SeqAt.RcAt.none_bool _,YE _,SeqAt.RcNeAt.none_bool _⟩
    . cases rv;obtain⟨t,rfl⟩:=ru;exact⟨SeqAt.RcAt.none_int _ _,YQ _ _,SeqAt.RcNeAt.none_int _ _⟩
    . cases rv;obtain⟨t,rfl⟩:=ru;exact⟨SeqAt.RcAt.none_str _ _,YR _ _,SeqAt.RcNeAt.none_str _ _⟩
    . cases rv;cases ru;exact⟨SeqAt.RcAt.bool_none _,YF _,SeqAt.RcNeAt.bool_none _⟩
    . cases rv;cases ru;exact⟨SeqAt.RcAt.bool_bool _ _,YG _ _,SeqAt.RcNeAt.bool_bool _ _⟩
    . cases rv;obtain⟨t,rfl⟩:=ru;exact⟨SeqAt.RcAt.bool_int _ _ _,YS _ _ _,SeqAt.RcNeAt.bool_int _ _ _⟩
    . cases rv;obtain⟨t,rfl⟩:=ru;exact⟨SeqAt.RcAt.bool_str _ _ _,YT _ _ _,SeqAt.RcNeAt.bool_str _ _ _⟩
    . obtain⟨t,rfl⟩:=rv;cases ru;exact⟨SeqAt.RcAt.int_none _ _,YU _ _,SeqAt.RcNeAt.int_none _ _⟩
    . obtain⟨t,rfl⟩:=rv;cases ru;exact⟨SeqAt.RcAt.int_bool _ _ _,YV _ _ _,SeqAt.RcNeAt.int_bool _ _ _⟩
    . obtain⟨t,rfl⟩:=rv;obtain⟨t',rfl⟩:=ru;exact⟨SeqAt.RcAt.int_int _ _ _ _,Y4 _ _ _ _,SeqAt.RcNeAt.int_int _ _ _ _⟩
    . obtain⟨t,rfl⟩:=rv;obtain⟨t',rfl⟩:=ru;exact⟨SeqAt.RcAt.int_str _ _ _ _,Ym _ _ _ _,SeqAt.RcNeAt.int_str _ _ _ _⟩
    . obtain⟨t,rfl⟩:=rv;cases ru;exact⟨SeqAt.RcAt.str_none _ _,YW _ _,SeqAt.RcNeAt.str_none _ _⟩
    . obtain⟨t,rfl⟩:=rv;cases ru;exact⟨SeqAt.RcAt.str_bool _ _ _,YX _ _ _,SeqAt.RcNeAt.str_bool _ _ _⟩
    . obtain⟨t,rfl⟩:=rv;obtain⟨t',rfl⟩:=ru;exact⟨SeqAt.RcAt.str_int _ _ _ _,Yn _ _ _ _,SeqAt.RcNeAt.str_int _ _ _ _⟩
    . obtain⟨t,rfl⟩:=rv;obtain⟨t',rfl⟩:=ru;exact⟨SeqAt.RcAt.str_str _ _ _ _,Y5 _ _ _ _,SeqAt.RcNeAt.str_str _ _ _ _⟩
  | succ n ih =>
    intro A x y v u p q hu rv ru rp rq cp cq;have bZ:A.units<cLine:=by omega
    have Rb:A.in1.units+n<cLine:=by show A.units+1+n<cLine;omega
    have items:∀{xs ys:List V}{its fi:List Value}{ps qs:List PV},bB X.K cl Hf xs ps->bB X.K cl Hf ys qs->Vals xs its->Vals ys fi->ps.all (bD n)=true->qs.all (bD n)=true ->
        ∀ j (h1:j<its.toArray.size) (h2:j<fi.toArray.size),SeqAt.EqAt A.in1 s its.toArray[j] fi.toArray[j] (mU ps qs j):=by
      intro xs ys its fi ps qs r1 r2 w1 w2 c1 c2 j h1 h2;have g1:j<ps.length:=by rw[<- r1.length,w1.length];simpa using h1
      have g2:j<qs.length:=by rw[<- r2.length,w2.length];simpa using h2
      obtain⟨a,ea,ra⟩:=r1.get (V9 g1);obtain⟨b,eb,rb⟩:=r2.get (V9 g2);obtain⟨ua,M9,Rc⟩:=w1.get ea;obtain⟨ub,Na,Rf⟩:=w2.get eb;have f1:its.toArray[j]=ua:=by
        have:its[j]?=some its.toArray[j]:=by simp
        rw[this]at M9;exact WL M9
      have f2:fi.toArray[j]=ub:=by
        have:fi[j]?=some fi.toArray[j]:=by simp
        rw[this]at Na;exact WL Na
      rw[f1,f2];have e:mU ps qs j=dO ps[j] qs[j]:=by
        unfold mU;rw[V9 g1,V9 g2]
      rw[e];exact(ih Rb Rc Rf ra rb (sV c1 (V9 g1)) (sV c2 (V9 g2))).2.1
    cases rp<;>first | (simp[bD]at cp;done) | skip
    all_goals (cases rq<;>first | (simp[bD]at cq;done) | skip)
    . cases rv;cases ru;exact⟨SeqAt.RcAt.none_none,Yj _,SeqAt.RcNeAt.none_none⟩
    . cases rv;cases ru;exact⟨SeqAt.RcAt.none_bool _,YE _,SeqAt.RcNeAt.none_bool _⟩
    . cases rv;obtain⟨t,rfl⟩:=ru;exact⟨SeqAt.RcAt.none_int _ _,YQ _ _,SeqAt.RcNeAt.none_int _ _⟩
    . cases rv;obtain⟨t,rfl⟩:=ru;exact⟨SeqAt.RcAt.none_str _ _,YR _ _,SeqAt.RcNeAt.none_str _ _⟩
    . rename_i h r;cases rv;cases ru;obtain⟨its,w,pl,z⟩:=I.tuple (aO.dX sm h);exact⟨SeqAt.RcAt.none_tuple pl bZ,SeqAt.EqAt.none_tuple pl bZ,SeqAt.RcNeAt.none_tuple pl bZ⟩
    . rename_i h r;cases rv;cases ru;obtain⟨its,w,pl,z⟩:=I.list (sm.seq h);exact⟨SeqAt.RcAt.none_list pl.isList bZ,SeqAt.EqAt.none_list pl.isList bZ,SeqAt.RcNeAt.none_list pl.isList bZ⟩
    . cases rv;cases ru;exact⟨SeqAt.RcAt.bool_none _,YF _,SeqAt.RcNeAt.bool_none _⟩
    . cases rv;cases ru;exact⟨SeqAt.RcAt.bool_bool _ _,YG _ _,SeqAt.RcNeAt.bool_bool _ _⟩
    . cases rv;obtain⟨t,rfl⟩:=ru;exact⟨SeqAt.RcAt.bool_int _ _ _,YS _ _ _,SeqAt.RcNeAt.bool_int _ _ _⟩
    . cases rv;obtain⟨t,rfl⟩:=ru;exact⟨SeqAt.RcAt.bool_str _ _ _,YT _ _ _,SeqAt.RcNeAt.bool_str _ _ _⟩
    . rename_i h r;cases rv;cases ru;obtain⟨its,w,pl,z⟩:=I.tuple (aO.dX sm h);exact⟨SeqAt.RcAt.bool_tuple _ pl bZ,SeqAt.EqAt.bool_tuple _ pl bZ,SeqAt.RcNeAt.bool_tuple _ pl bZ⟩
    . rename_i h r;cases rv;cases ru;obtain⟨its,w,pl,z⟩:=I.list (sm.seq h);exact⟨SeqAt.RcAt.bool_list _ pl.isList bZ,SeqAt.EqAt.bool_list _ pl.isList bZ,SeqAt.RcNeAt.bool_list _ pl.isList bZ⟩
    . obtain⟨t,rfl⟩:=rv;cases ru;exact⟨SeqAt.RcAt.int_none _ _,YU _ _,SeqAt.RcNeAt.int_none _ _⟩
    . obtain⟨t,rfl⟩:=rv;cases ru;exact⟨SeqAt.RcAt.int_bool _ _ _,YV _ _ _,SeqAt.RcNeAt.int_bool _ _ _⟩
    . obtain⟨t,rfl⟩:=rv;obtain⟨t',rfl⟩:=ru;exact⟨SeqAt.RcAt.int_int _ _ _ _,Y4 _ _ _ _,SeqAt.RcNeAt.int_int _ _ _ _⟩
    . obtain⟨t,rfl⟩:=rv;obtain⟨t',rfl⟩:=ru;exact⟨SeqAt.RcAt.int_str _ _ _ _,Ym _ _ _ _,SeqAt.RcNeAt.int_str _ _ _ _⟩
    . rename_i h r;obtain⟨t,rfl⟩:=rv;cases ru;obtain⟨its,w,pl,z⟩:=I.tuple (aO.dX sm h);exact⟨SeqAt.RcAt.int_tuple _ _ pl bZ,SeqAt.EqAt.int_tuple _ _ pl bZ,SeqAt.RcNeAt.int_tuple _ _ pl bZ⟩
    . rename_i h r;obtain⟨t,rfl⟩:=rv;cases ru;obtain⟨its,w,pl,z⟩:=I.list (sm.seq h);exact⟨SeqAt.RcAt.int_list _ _ pl.isList bZ,SeqAt.EqAt.int_list _ _ pl.isList bZ,SeqAt.RcNeAt.int_list _ _ pl.isList bZ⟩
    . obtain⟨t,rfl⟩:=rv;cases ru;exact⟨SeqAt.RcAt.str_none _ _,YW _ _,SeqAt.RcNeAt.str_none _ _⟩
    . obtain⟨t,rfl⟩:=rv;cases ru;exact⟨SeqAt.RcAt.str_bool _ _ _,YX _ _ _,SeqAt.RcNeAt.str_bool _ _ _⟩
    . obtain⟨t,rfl⟩:=rv;obtain⟨t',rfl⟩:=ru;exact⟨SeqAt.RcAt.str_int _ _ _ _,Yn _ _ _ _,SeqAt.RcNeAt.str_int _ _ _ _⟩
    . obtain⟨t,rfl⟩:=rv;obtain⟨t',rfl⟩:=ru;exact⟨SeqAt.RcAt.str_str _ _ _ _,Y5 _ _ _ _,SeqAt.RcNeAt.str_str _ _ _ _⟩
    . rename_i h r;obtain⟨t,rfl⟩:=rv;cases ru;obtain⟨its,w,pl,z⟩:=I.tuple (aO.dX sm h);exact⟨SeqAt.RcAt.str_tuple _ _ pl bZ,SeqAt.EqAt.str_tuple _ _ pl bZ,SeqAt.RcNeAt.str_tuple _ _ pl bZ⟩
    . rename_i h r;obtain⟨t,rfl⟩:=rv;cases ru;obtain⟨its,w,pl,z⟩:=I.list (sm.seq h);exact⟨SeqAt.RcAt.str_list _ _ pl.isList bZ,SeqAt.EqAt.str_list _ _ pl.isList bZ,SeqAt.RcNeAt.str_list _ _ pl.isList bZ⟩
    . rename_i h r;cases rv;cases ru;obtain⟨its,w,pl,z⟩:=I.tuple (aO.dX sm h);exact⟨SeqAt.RcAt.tuple_none pl bZ,SeqAt.EqAt.tuple_none pl bZ,SeqAt.RcNeAt.tuple_none pl bZ⟩
    . rename_i h r _;cases rv;cases ru;obtain⟨its,w,pl,z⟩:=I.tuple (aO.dX sm h);exact⟨SeqAt.RcAt.tuple_bool _ pl bZ,SeqAt.EqAt.tuple_bool _ pl bZ,SeqAt.RcNeAt.tuple_bool _ pl bZ⟩
    . rename_i h r _;cases rv;obtain⟨t',rfl⟩:=ru;obtain⟨its,w,pl,z⟩:=I.tuple (aO.dX sm h);exact⟨SeqAt.RcAt.tuple_int _ _ pl bZ,SeqAt.EqAt.tuple_int _ _ pl bZ,SeqAt.RcNeAt.tuple_int _ _ pl bZ⟩
    . rename_i h r _;cases rv;obtain⟨t',rfl⟩:=ru;obtain⟨its,w,pl,z⟩:=I.tuple (aO.dX sm h);exact⟨SeqAt.RcAt.tuple_str _ _ pl bZ,SeqAt.EqAt.tuple_str _ _ pl bZ,SeqAt.RcNeAt.tuple_str _ _ pl bZ⟩
    . rename_i a xs ps h r b ys qs h' r';cases rv;cases ru;obtain⟨its,w,pl,z⟩:=I.tuple (aO.dX sm h);obtain⟨fi,w2,kn,z2⟩:=I.tuple (aO.dX sm h');have it:=items r r' w w2 cp cq
      have e:((List.range (min its.toArray.size fi.toArray.size)).all (mU ps qs)&&its.toArray.size == fi.toArray.size)=dO (.tup ps) (.tup qs):=by
        show _=cY ps qs;rw[mr,Wl,Wl,<- w.length,<- w2.length,r.length,r'.length]
      have c1:=SeqAt.RcAt.tuples (A:=A) pl kn bZ it;have c2:=SeqAt.RcNeAt.tuples (A:=A) pl kn bZ it
      rw[e]at c1 c2;refine⟨c1,?_,c2⟩;by_cases sU:a=b
      . subst sU;rw[wZ I sm (n+1) (Rp.tup h r) (Rp.tup h' r') cp cq];exact Yj _
      . exact .of_refs sU c1
    . rename_i a xs ps h r b ys qs h' r';cases rv;cases ru;obtain⟨its,w,pl,z⟩:=I.tuple (aO.dX sm h);obtain⟨fi,w2,kn,z2⟩:=I.list (sm.seq h');exact⟨SeqAt.RcAt.tuple_list pl kn.isList bZ,SeqAt.EqAt.tuple_list pl kn.isList bZ,SeqAt.RcNeAt.tuple_list pl kn.isList bZ⟩
    . rename_i h r;cases rv;cases ru;obtain⟨its,w,pl,z⟩:=I.list (sm.seq h);exact⟨SeqAt.RcAt.list_none pl.isList bZ,SeqAt.EqAt.list_none pl.isList bZ,SeqAt.RcNeAt.list_none pl.isList bZ⟩
    . rename_i h r _;cases rv;cases ru;obtain⟨its,w,pl,z⟩:=I.list (sm.seq h);exact⟨SeqAt.RcAt.list_bool _ pl.isList bZ,SeqAt.EqAt.list_bool _ pl.isList bZ,SeqAt.RcNeAt.list_bool _ pl.isList bZ⟩
    . rename_i h r _;cases rv;obtain⟨t',rfl⟩:=ru;obtain⟨its,w,pl,z⟩:=I.list (sm.seq h);exact⟨SeqAt.RcAt.list_int _ _ pl.isList bZ,SeqAt.EqAt.list_int _ _ pl.isList bZ,SeqAt.RcNeAt.list_int _ _ pl.isList bZ⟩
    . rename_i h r _;cases rv;obtain⟨t',rfl⟩:=ru;obtain⟨its,w,pl,z⟩:=I.list (sm.seq h);exact⟨SeqAt.RcAt.list_str _ _ pl.isList bZ,SeqAt.EqAt.list_str _ _ pl.isList bZ,SeqAt.RcNeAt.list_str _ _ pl.isList bZ⟩
    . rename_i a xs ps h r b ys qs h' r';cases rv;cases ru;obtain⟨its,w,pl,z⟩:=I.list (sm.seq h);obtain⟨fi,w2,kn,z2⟩:=I.tuple (aO.dX sm h');exact⟨SeqAt.RcAt.list_tuple pl.isList kn bZ,SeqAt.EqAt.list_tuple pl.isList kn bZ,SeqAt.RcNeAt.list_tuple pl.isList kn bZ⟩
    . rename_i a xs ps h r b ys qs h' r';cases rv;cases ru;obtain⟨its,w,pl,z⟩:=I.list (sm.seq h);obtain⟨fi,w2,kn,z2⟩:=I.list (sm.seq h');have it:=items r r' w w2 cp cq
      have l1:its.toArray.size=ps.length:=by rw[Wl,<- w.length,r.length]
      have l2:fi.toArray.size=qs.length:=by rw[Wl,<- w2.length,r'.length]
      have both:SeqAt.RcAt A s (.ref a) (.ref b) (cY ps qs)/\SeqAt.RcNeAt A s (.ref a) (.ref b) (!cY ps qs):=by
        by_cases hl:ps.length=qs.length
        . have c1:=SeqAt.RcAt.lists (A:=A) pl.isList kn.isList (by rw[l1,l2,hl]) bZ it;have c2:=SeqAt.RcNeAt.lists (A:=A) pl.isList kn.isList (by rw[l1,l2,hl]) bZ it
          rw[l1,<- AU hl]at c1 c2;exact⟨c1,c2⟩
        . rw[Df hl];have IS:(its.toArray.size != fi.toArray.size)=true:=by rw[l1,l2];simpa using hl
          exact⟨SeqAt.RcAt.lists_lengths pl.isList kn.isList IS bZ,SeqAt.RcNeAt.lists_lengths pl.isList kn.isList IS bZ⟩
      refine⟨both.1,?_,both.2⟩;by_cases sU:a=b
      . subst sU;rw[wZ I sm (n+1) (Rp.lst h r) (Rp.lst h' r') cp cq];exact Yj _
      . exact .of_refs sU both.1
theorem cE(hu:X.A.units+64<cLine):cO X cl (compareOp .Eq) bQ:=by
  intro pins s σ Hf H x y v u p q I sm rv ru rp rq hs;unfold bQ at hs ⊢;by_cases IT:(oB p&&oB q)=true;rotate_left
  . rw[VQ IT]at hs ⊢;obtain⟨hd,e⟩:=cX hs;rw[e];cases p<;>cases q<;>first
      | (simp[AK]at hd;done)
      | skip
    cases rp with
    | iO h =>
      cases rq;cases rv;obtain⟨t,rfl⟩:=ru;obtain⟨o,es,ep,h1,h2,h3⟩:=IK I sm h;exact wC h1 h2 h3 (by omega) _ _ _ _ ⟨_,.bl false,Hf,H,rfl,I,rfl,Ext.refl sm,.bl _⟩
  rw[VP IT]at hs ⊢;have e:(R.ok (PV.bl (dO p q)):R PV)=.ok (.bl (dO p q)):=rfl
  have hc:=IT;rw[e];rw[VR]at hc;exact(w4 I sm 6 (by omega) rv ru rp rq hc.1 hc.2).1 _ _ _ _ ⟨_,.bl _,Hf,H,rfl,I,rfl,Ext.refl sm,.bl _⟩
theorem ko(hu:X.A.units+64<cLine):cO X cl (compareOp .NotEq) hU:=by
  intro pins s σ Hf H x y v u p q I sm rv ru rp rq hs;unfold hU at hs ⊢;obtain⟨hc,e⟩:=cX hs;rw[e];rw[VR]at hc;exact(w4 I sm 6 (by omega) rv ru rp rq hc.1 hc.2).2.2 _ _ _ _ ⟨_,.bl _,Hf,H,rfl,I,rfl,Ext.refl sm,.bl _⟩
end
theorem wD{h:Heap} (x:dF P w H h a o):∃ ob,h.get? a=some ob:=by
  cases o with
  | lst xs=>obtain⟨_,_,_,_,e⟩:=x;exact⟨_,e⟩
  | tup xs=>obtain⟨_,_,_,ob,e,_⟩:=x;exact⟨_,e⟩
  | dK aZ=>obtain⟨_,_,_,_,o,_,_,e,_⟩:=x;exact⟨_,e⟩
  | dT aZ=>obtain⟨_,_,_,_,o,_,_,e,_⟩:=x;exact⟨_,e⟩
  | set S n=>obtain⟨o,_,_,_,e,_⟩:=x;exact⟨_,e⟩
  | ins C dx fs=>obtain⟨_,_,_,e,_⟩:=x;exact⟨_,e⟩
  | own y=>exact x
  | xd fs=>obtain⟨_,⟨_,_,_,e,_⟩,_⟩:=x;exact⟨_,e⟩
  | oU lo hi=>obtain⟨_,_,_,e⟩:=x;exact⟨_,e⟩
  | bw ob u=>exact⟨_,x.1⟩
  | eP ps=>exact⟨_,(show h.get? a=some _ from x)⟩
  | met f y=>exact⟨_,(show h.get? a=some _ from x)⟩
  | ext φ=>exact x.2.1
section
variable {X:Cx}{cl:Nat->Addr}{pins:List (Addr×Obj)}{s:Shared}{σ:SV}{aA H0 Hf H aD H1:Hp}{ρ:ay}{α:Type}{B h':Heap}
structure Own(X:Cx):Prop where
  oV:X.stack=X.env::X.outer
  fr:X.env.frame=some X.env.locals
  ex:∀ b,b ∉ X.ex
  fn:∀ x,X.fn x=true
theorem nG(W:Own X)(I:Inv X pins σ H s)(h:hV X pins H b):∃ o,s.heap.get? b=some o:=by
  rcases h with h | ⟨p,hp,e⟩ | ⟨o,h⟩ | ⟨x,h⟩
  . cases e:H b with
    | none=>exact absurd e h
    | some u=>exact wD (I.bh b u e)
  . rw[<- e];exact⟨_,(I.pin p hp).1⟩
  . exact I.base.there b o h (W.ex b)
  . obtain⟨v,o',q,_⟩:=I.cell x b h;exact⟨o',q⟩
theorem jf(W:Own X){b:Addr}:b∈fM X.stack↔b=X.env.locals\/b∈X.fs:=by
  rw[W.oV];unfold fM;rw[Yi,W.fr];exact WD
theorem pE.iy(W:Own X)(I:Inv X pins σ H s)(c:pE X pins H B s.heap)(st:B.StaysIn h'):pE X pins H B h':=by
  intro b o e hs hn;obtain⟨o',e'⟩:=nG W I hs;have q:=c b o' e' hs hn
  have:=st b o' q;rw[e]at this;cases this;exact q
theorem Inv.iy(W:Own X)(I:Inv X pins σ H s)(c:pE X pins H B s.heap)(st:B.StaysIn h')(u:s.heap.UpToSlots h'){tk:Nat}:Inv X pins σ H { s with heap:=h',toks:=tk }:=by
  have keep:∀ b o,s.heap.get? b=some o->hV X pins H b->b ∉ fM X.stack->h'.get? b=some o:=fun b o e hs hn=>st b o (c b o e hs hn);have fr:∀ b∈fM X.stack,∃ o,s.heap.get? b=some o/\∀ vs,o.data≠.fields vs:=fun b hb=>((I.stack).mem hb).2
  have VA:X.env.locals∈fM X.stack:=(jf W).mpr (.inl rfl);have Dg:eL X.prog X.w H h':=fun a o e=>by
    have na:a ∉ fM X.stack:=fun z=>by rw[I.oz a z]at e;cases e
    refine(I.bh a o e).ng (fun b v hb q=>?_) (fun _ q=>q) fun _ _ q=>q;rcases hb with rfl | hb
    . exact keep _ v q (.inl (by rw[e];intro z;cases z)) na
    . have nb:b ∉ fM X.stack:=fun z=>by rw[I.oz b z]at hb;cases hb
      exact keep b v q (.inl (by rw[hb];intro z;cases z)) nb
  obtain⟨m,hn,hl⟩:=I.loc;have old:∀ b o,X.s₀.heap.get? b=some o->b≠X.env.locals:=fun b o e z=>by
    have:=V8 e;rw[z]at this;exact absurd (Wc this I.ok.above) (Xk _)
  have cells:∀ x cc v,X.env.cells.lookup x=some cc->s.heap.IsCell cc v->h'.IsCell cc v:=fun x cc v e q=>by
    obtain⟨o,ho,hd⟩:=q;have nf:cc ∉ fM X.stack:=fun z=>by
      rcases(jf W).mp z with z | z
      . exact I.oX x cc e z
      . obtain⟨_,o',mO,_⟩:=I.ok.gZ.mem z;exact absurd (Wc (V8 mO) (I.ok.sC x cc (W.fn x) e)) (Xk _)
    exact⟨o,keep cc o ho (.inr (.inr (.inr ⟨x,e⟩))) nf,hd⟩
  refine⟨I.ok,I.os,I.bare,⟨fun b o e n hb hx=>?_,fun b o e n hb hx=>?_,I.base.free,fun b o e hx=>?_,I.base.ke,I.base.jK,I.base.kf⟩,⟨m,u.ns hn,fun i x v e1 e2 e3=>?_⟩,fun x cc e=>?_,I.free,I.fI,fun p hp=>?_,Dg,I.len⟩
  . exact keep b o (I.base.keep b o e n hb hx) (.inr (.inr (.inl ⟨o,e⟩))) fun z=>((jf W).mp z).elim (old b o e) hb
  . obtain⟨sl,q⟩:=I.base.slot b o e n hb hx;obtain⟨o',mO,nI⟩:=fr b ((jf W).mpr (.inr hb));rw[q]at mO;cases mO;obtain⟨qB,q'⟩:=u b _ q nI;exact⟨qB,q'⟩
  . obtain⟨o',q⟩:=I.base.there b o e hx;by_cases hb:b∈fM X.stack
    . obtain⟨o2,nr,nI⟩:=fr b hb;obtain⟨qB,q'⟩:=u b _ nr nI;exact⟨_,q'⟩
    . exact⟨o',keep b o' q (.inr (.inr (.inl ⟨o,e⟩))) hb⟩
  . obtain⟨uu,r,l⟩:=hl i x v e1 e2 e3;refine⟨uu,r,?_⟩;rcases l with l | ⟨hk,cc,hc,ma⟩
    . exact .inl l
    . exact .inr ⟨hk,cc,hc,cells x cc _ hc ma⟩
  . obtain⟨v,q⟩:=I.cell x cc e;exact⟨v,cells x cc v e q⟩
  . obtain⟨p1,p2,p3,p4,p5⟩:=I.pin p hp;exact⟨keep p.1 p.2 p1 (.inr (.inl ⟨p,hp,rfl⟩)) fun z=>((jf W).mp z).elim p3 p4,p2,p3,p4,p5⟩
theorem pE.uh{pl:List (Addr×Obj)}(c:pE X (pins++pl) H B h'):pE X pins H B h':=fun b o e hs hn=>c b o e (by
  rcases hs with h | ⟨p,hp,q⟩ | h | h
  . exact .inl h
  . refine .inr (.inl ⟨p,?_,q⟩);rcases XF.mp hp with z | z
    . exact Ya _ z
    . exact We _ (Ya _ z)
  . exact .inr (.inr (.inl h))
  . exact .inr (.inr (.inr h))) hn
theorem mP.uh{pl:List (Addr×Obj)}(x:mP X (pins++pl) H e C h'):mP X pins H e C h':=by
  obtain⟨B,a0,c,d,r⟩:=x;exact⟨B,a0,c.uh,d,r⟩
theorem kL.keep{h h':Heap} (d:kL e h) (k:Kd e h h'):kL e h':=by
  obtain⟨o,h1,h2⟩:=d;obtain⟨o',h3,_,h4⟩:=k o h1;exact⟨o',h3,h4.trans h2⟩
theorem Dh{A:Around}{E:Value->Shared->Prop}{e C:Addr}{Q:Unit->Shared->Prop} (W:Own X) (nJ:A.frames=some X.stack)
    (x:uS B X.stack e (.ref C) a0 s.heap\/Heap.HeldW B X.stack e (.ref C) a0 X.env.locals s.heap\/Heap.FlyingW B X.stack e (.ref C) a0 s.heap)
    (h:∀ h',Heap.HeldW B X.stack e (.ref C) a0 X.env.locals h'->s.heap.UpToSlots h'->Q () { s with heap:=h' }):wpAny M A (noteFrame (.ref e) X.env) Q E s:=by
  rw[W.oV]at x h nJ;rcases x with⟨f1,f2,f3,oe,vs,he,hc,VB,hd,h0,h1⟩ | x | x
  . unfold noteFrame;simp only[W.fr];refine V0 (wpAny_field he hd h1 ?_);rw[VQ (by decide)];refine wpAny_entryW nJ f3 W.fr he f1 f2 hd (Za.mp h1).1 h0 fun h' hN=>?_;obtain⟨k1,k2,k3,k4⟩:=hN;rw[hc]at k3;exact h h' ⟨k1,f2,k2,k3⟩ k4
  . exact wpAny_noteFrame_againW W.fr x.2.2.2 (h s.heap x (Heap.UpToSlots.refl _))
  . exact wpAny_looks_onW nJ W.fr x h
theorem sf{A:Around}{E:Value->Shared->Prop}{e C:Addr}{Q:Unit->Shared->Prop} (W:Own X) (nJ:A.frames=some X.stack) (nd:kL e s.heap)
    (x:uS B X.stack e (.ref C) a0 s.heap\/Heap.HeldW B X.stack e (.ref C) a0 X.env.locals s.heap\/Heap.FlyingW B X.stack e (.ref C) a0 s.heap)
    (h:∀ h',Heap.HeldW B X.stack e (.ref C) a0 X.env.locals h'->s.heap.UpToSlots h'->kL e h'->Q () { s with heap:=h' }):wpAny M A (noteFrame (.ref e) X.env) Q E s :=
  VN ((AN (.ref e) X.env).any e (Dh (E:=fun _ _=>False) (Q:=fun _ s'=>∃ h',s'={ s with heap:=h' }/\Heap.HeldW B X.stack e (.ref C) a0 X.env.locals h'/\s.heap.UpToSlots h') W nJ x fun h' a b=>⟨h',rfl,a,b⟩))
    (fun _ s' ⟨⟨h',e1,a,b⟩,k⟩=>by subst e1;exact h h' a b (nd.keep k)) fun _ _ ⟨z,_⟩=>z.elim
theorem uY{E:Value->Shared->Prop}{e C:Addr}{Q:Unit->Shared->Prop} (nd:kL e s.heap) (R:Heap.HeldW B l e (.ref C) a0 L s.heap)
    (h:∀ h',Heap.FlyingW B l e (.ref C) a0 h'->s.heap.UpToSlots h'->kL e h'->Q () { s with heap:=h' }):wpAny M A (setFlight (.ref e) none) Q E s :=
  VN ((jd (.ref e) none).any e (wpAny_landsW (E:=fun _ _=>False) (Q:=fun _ s'=>∃ h',s'={ s with heap:=h' }/\Heap.FlyingW B l e (.ref C) a0 h'/\s.heap.UpToSlots h') R fun h' a b=>⟨h',rfl,a,b⟩))
    (fun _ s' ⟨⟨h',e1,a,b⟩,k⟩=>by subst e1;exact h h' a b (nd.keep k)) fun _ _ ⟨z,_⟩=>z.elim
theorem Di{E:Value->Shared->Prop}{e C:Addr}{Q:Unit->Shared->Prop} (nd:kL e s.heap) (R:Heap.FlyingW B l e (.ref C) a0 s.heap)
    (h:∀ h',Heap.FlyingW B l e (.ref C) a0 h'->s.heap.UpToSlots h'->kL e h'->Q () { s with heap:=h' }):wpAny M A (setFlight (.ref e) none) Q E s :=
  VN ((jd (.ref e) none).any e (lands_againW (E:=fun _ _=>False) (Q:=fun _ s'=>∃ h',s'={ s with heap:=h' }/\Heap.FlyingW B l e (.ref C) a0 h'/\s.heap.UpToSlots h') R fun h' a b=>⟨h',rfl,a,b⟩))
    (fun _ s' ⟨⟨h',e1,a,b⟩,k⟩=>by subst e1;exact h h' a b (nd.keep k)) fun _ _ ⟨z,_⟩=>z.elim
theorem yP{E:Value->Shared->Prop}{e C:Addr}{Q:Unit->Shared->Prop} (R:Heap.HeldW B l e (.ref C) a0 L s.heap)
    (h:∀ h',Heap.HeldW B l e (.ref C) a0 L h'->s.heap.UpToSlots h'->Q () { s with heap:=h' }):wpAny M A (setFlight (.ref e) (some L)) Q E s:=by
  obtain⟨Rg,Rh,hl,oe,vs,T,oT,ts,he,hcls,hd,h1,Nb,Nc,hT,ES,h3⟩:=R;have IU:3<ts.size:=(Za.mp h3).1
  have other:∀ b,b≠T->(s.heap.update T (Obj.mapFields (·.setIfInBounds 3 ((some L).elim Value.none fun f=>rawInt f)))).get? b=s.heap.get? b :=
    fun b hb=>Yv _ _ (Xb hb)
  have uZ:∀ b o,s.heap.get? b=some o->(∀ vs,o.data≠.fields vs)->b≠T:=fun b o hb nI q=>by
    rw[q,hT]at hb;injection hb with hb;subst hb;exact nI ts ES
  unfold setFlight;refine V0 (wpAny_field he hd h1 ?_);rw[VP (show(Value.ref T != Value.none)=true from by simp)]
  refine wpAny_setField hT ES IU (h _ ⟨fun b o IV=>(other b fun q=>by rw[q,Nb]at IV;cases IV).trans (Rg b o IV),Rh,
    hl.of_keeps fun b o hb nI=>⟨o,(other b (uZ b o hb nI)).trans hb,rfl⟩,?_⟩ fun b o hb nI=>⟨o.slots,(other b (uZ b o hb nI)).trans hb⟩)
  exact⟨oe,vs,T,_,_,(other e (Xb Nc)).trans he,hcls,hd,h1,Nb,Nc,Heap.get?_update_self _ hT (Obj.isFreed_of_fields (Obj.data_mapFields ES _)),Obj.data_mapFields ES _,by simp[IU]⟩
theorem AV{E:Value->Shared->Prop}{e C:Addr}{Q:Unit->Shared->Prop} (nd:kL e s.heap) (R:Heap.HeldW B l e (.ref C) a0 L s.heap)
    (h:∀ h',Heap.HeldW B l e (.ref C) a0 L h'->s.heap.UpToSlots h'->kL e h'->Q () { s with heap:=h' }):wpAny M A (setFlight (.ref e) (some L)) Q E s :=
  VN ((jd (.ref e) (some L)).any e (yP (E:=fun _ _=>False) (Q:=fun _ s'=>∃ h',s'={ s with heap:=h' }/\Heap.HeldW B l e (.ref C) a0 L h'/\s.heap.UpToSlots h') R fun h' a b=>⟨h',rfl,a,b⟩))
    (fun _ s' ⟨⟨h',e1,a,b⟩,k⟩=>by subst e1;exact h h' a b (nd.keep k)) fun _ _ ⟨z,_⟩=>z.elim
theorem sW(W:Own X){E:Value->Shared->Prop}(hE:∀ u s,E u s->∃ pins σ H e C,u=.ref e/\Inv X pins σ H s/\mP X pins H e C s.heap/\∀ h',Inv X pins σ H { s with heap:=h' }->mP X pins H e C h'->E u { s with heap:=h' }) :
    PassesOwn (model X.prog X.w) X.A X.env E:=by
  intro u s hu;obtain⟨pins,σ,H,e,C,rfl,I,⟨B,a0,c,nd,x⟩,k⟩:=hE u s hu;refine sf W I.ok.frames nd x fun h1 hh u1 AX=>?_;have I1:=Inv.iy W I c hh.1 u1 (tk:=s.toks)
  have c1:=c.iy W I hh.1;show wpAny _ _ _ _ _ _
  have Ri:=hh;obtain⟨k1,k2,k3,oe,vs,T,oT,ts,he,hcls,hd,w5,_⟩:=Ri;refine V0 (wpAny_field he hd w5 ?_);rw[VQ (show ¬((Value.ref T == Value.none)=true) from by simp)]
  rw[W.fr]
  first
    | refine V0 (Ws ?_)
    | skip
  refine AV (s:={ s with heap:=h1 }) AX hh fun h2 IW u2 AY=>?_;have I2:=Inv.iy W I1 c1 IW.1 u2 (tk:=s.toks)
  exact k h2 I2 ⟨B,a0,c1.iy W I1 IW.1,AY,.inr (.inl IW)⟩
end
section
variable (X:Cx) (cl:Nat->Addr)
def nK(pins:List (Addr×Obj))(aA H0 Hg:Hp)(r:SR)(f:Flow)(s:Shared):Prop:=match f with
  | .next=>∃ ρ σ Hf H,r=.next ρ/\Inv X pins σ H s/\Rep X.K cl aA H0 Hf H σ ρ/\aO Hg Hf
  | .brk=>∃ ρ σ Hf H,r=.brk ρ/\Inv X pins σ H s/\Rep X.K cl aA H0 Hf H σ ρ/\aO Hg Hf
  | .cont=>∃ ρ σ Hf H,r=.cont ρ/\Inv X pins σ H s/\Rep X.K cl aA H0 Hf H σ ρ/\aO Hg Hf
  | .ret u=>∃ p v σ Hf H,r=.ret p/\Inv X pins σ H s/\Ext aA H0 Hf H/\RelV v u/\Rp X.K cl Hf v p
def iU(pins:List (Addr×Obj))(aA H0 Hg:Hp)(r:SR)(u:Value)(s:Shared):Prop :=
  ∃ c ρ σ Hf H e,r=.exc c ρ/\u=.ref e/\Inv X pins σ H s/\Rep X.K cl aA H0 Hf H σ ρ/\aO Hg Hf/\mP X pins H e (cl c) s.heap
structure MS(st:Stmt)(f:FS):Prop where
  run':∀(pins:List (Addr×Obj))(s:Shared)(σ:SV)(aA H0 Hf H:Hp)(ρ:ay),Inv X pins σ H s->Rep X.K cl aA H0 Hf H σ ρ->f ρ≠.stuck ->
    wpAny (model X.prog X.w) X.A (exec st X.env) (nK X cl pins aA H0 Hf (f ρ)) (iU X cl pins aA H0 Hf (f ρ)) s
noncomputable instance {st:Stmt}{f:FS}:CoeFun (MS X cl st f) fun _=>∀(pins:List (Addr×Obj))(s:Shared)(σ:SV)(aA H0 Hf H:Hp)(ρ:ay),Inv X pins σ H s->Rep X.K cl aA H0 Hf H σ ρ->f ρ≠.stuck ->
    wpAny (model X.prog X.w) X.A (exec st X.env) (nK X cl pins aA H0 Hf (f ρ)) (iU X cl pins aA H0 Hf (f ρ)) s:=⟨MS.run'⟩
structure ia(st:List Stmt)(f:FS):Prop where
  run':∀(pins:List (Addr×Obj))(s:Shared)(σ:SV)(aA H0 Hf H:Hp)(ρ:ay),Inv X pins σ H s->Rep X.K cl aA H0 Hf H σ ρ->f ρ≠.stuck ->
    wpAny (model X.prog X.w) X.A (execs st X.env) (nK X cl pins aA H0 Hf (f ρ)) (iU X cl pins aA H0 Hf (f ρ)) s
noncomputable instance {st:List Stmt}{f:FS}:CoeFun (ia X cl st f) fun _=>∀(pins:List (Addr×Obj))(s:Shared)(σ:SV)(aA H0 Hf H:Hp)(ρ:ay),Inv X pins σ H s->Rep X.K cl aA H0 Hf H σ ρ->f ρ≠.stuck ->
    wpAny (model X.prog X.w) X.A (execs st X.env) (nK X cl pins aA H0 Hf (f ρ)) (iU X cl pins aA H0 Hf (f ρ)) s:=⟨ia.run'⟩
end
section
variable {X:Cx}{cl:Nat->Addr}{pins:List (Addr×Obj)}{s:Shared}{σ:SV}{aA H0 Hf H aD H1:Hp}{ρ:ay}{α:Type}
theorem iV(r:Rep X.K cl aA H0 Hf H σ ρ)(x:AO X cl pins σ Hf H c u s'):iU X cl pins aA H0 Hf (.exc c ρ) u s':=by
  obtain⟨e,ao,H',rfl,I,ex,st⟩:=x;exact⟨c,ρ,σ,ao,H',e,rfl,rfl,I,r.keep ex,ex.bw,st⟩
theorem nK.from(g:aO Hg IY)(h:nK X cl pins aA H0 IY r fl s'):nK X cl pins aA H0 Hg r fl s':=by
  cases fl with
  | next=>obtain⟨ρ,σ,Hf,H,a,b,c,d⟩:=h;exact⟨ρ,σ,Hf,H,a,b,c,g.trans d⟩
  | brk=>obtain⟨ρ,σ,Hf,H,a,b,c,d⟩:=h;exact⟨ρ,σ,Hf,H,a,b,c,g.trans d⟩
  | cont=>obtain⟨ρ,σ,Hf,H,a,b,c,d⟩:=h;exact⟨ρ,σ,Hf,H,a,b,c,g.trans d⟩
  | ret u=>exact h
theorem iU.from(g:aO Hg IY)(h:iU X cl pins aA H0 IY r u s'):iU X cl pins aA H0 Hg r u s':=by
  obtain⟨c,ρ,σ,Hf,H,e,a,b,d,f,k,l⟩:=h;exact⟨c,ρ,σ,Hf,H,e,a,b,d,f,g.trans k,l⟩
theorem ME.lR(h:ME X cl e f)(I:Inv X pins σ H s)(r:Rep X.K cl aA H0 Hf H σ ρ){k:PV->SR}(hs:jS (f ρ) ρ k≠.stuck){Q:Value->Shared->Prop}
    (ok:∀ p v u s' ao H',jS (f ρ) ρ k=k p->Inv X pins σ H' s'->RelV v u->Ext Hf H ao H'->Rp X.K cl ao v p->Q u s') :
    wpAny (model X.prog X.w) X.A (eval e X.env) Q (iU X cl pins aA H0 Hf (jS (f ρ) ρ k)) s:=by
  have hf:f ρ≠.stuck:=fun z=>hs (by rw[z];rfl);refine VN (h pins s σ aA H0 Hf H ρ I r hf) (fun u s' q=>?_) fun u s' q=>?_
  . obtain⟨p,v,ao,H',e1,I',rv,ex,rp⟩:=q;exact ok p v u s' ao H' (by rw[e1];rfl) I' rv ex rp
  . obtain⟨c,e1,x⟩:=q;rw[e1];exact iV r x
theorem bu:ia X cl [] bM:=⟨fun pins s σ aA H0 Hf H ρ I r _=>Xf ⟨ρ,σ,Hf,H,rfl,I,r,aO.refl _⟩⟩
theorem au{st:Stmt}{rest:List Stmt}{f g:FS}(h1:MS X cl st f)(h2:ia X cl rest g):ia X cl (st::rest) (aH f g):=by
  refine⟨?_⟩;intro pins s σ aA H0 Hf H ρ I r hs;have hf:f ρ≠.stuck:=fun z=>hs (by unfold aH;rw[z])
  refine XX (VN (h1 pins s σ aA H0 Hf H ρ I r hf) (fun fl s1 q=>?_) fun u s1 q=>?_)
  . cases fl with
    | next =>
      obtain⟨ρ',σ',ao,H',e1,I',r',sm⟩:=q;have e2:aH f g ρ=g ρ':=by unfold aH;rw[e1]
      rw[e2]at hs ⊢;exact VN (h2 pins s1 σ' aA H0 ao H' ρ' I' r' hs) (fun _ _ q=>q.from sm) fun _ _ q=>q.from sm
    | brk =>
      obtain⟨ρ',σ',ao,H',e1,I',r',sm⟩:=q;have e2:aH f g ρ=.brk ρ':=by unfold aH;rw[e1]
      rw[e2];exact⟨ρ',σ',ao,H',rfl,I',r',sm⟩
    | cont =>
      obtain⟨ρ',σ',ao,H',e1,I',r',sm⟩:=q;have e2:aH f g ρ=.cont ρ':=by unfold aH;rw[e1]
      rw[e2];exact⟨ρ',σ',ao,H',rfl,I',r',sm⟩
    | ret u =>
      obtain⟨p,v,σ',ao,H',e1,I',ex,rv,rp⟩:=q;have e2:aH f g ρ=.ret p:=by unfold aH;rw[e1]
      rw[e2];exact⟨p,v,σ',ao,H',rfl,I',ex,rv,rp⟩
  . obtain⟨c,ρ',σ',ao,H',e,e1,eu,I',r',sm,x⟩:=q;have e2:aH f g ρ=.exc c ρ':=by unfold aH;rw[e1]
    rw[e2];exact⟨c,ρ',σ',ao,H',e,rfl,eu,I',r',sm,x⟩
theorem aE{st:Stmt}{f:FS}(h1:MS X cl st f):ia X cl [st] f:=by
  refine⟨?_⟩;intro pins s σ aA H0 Hf H ρ I r hs;refine XX (ft (h1 pins s σ aA H0 Hf H ρ I r hs) fun fl s1 q=>?_);cases fl with
  | next=>exact Xf q
  | ret v=>exact q
  | brk=>exact q
  | cont=>exact q
theorem cZ{pos:Pos} (h:ME X cl e f) (ib:swapsWith e none pos.line X.env=pure false:=by rfl):MS X cl (.Expr e pos) (d7 f):=by
  refine⟨?_⟩;intro pins s σ aA H0 Hf H ρ I r hs;unfold d7 at hs ⊢;refine aaa (h.lR I r hs fun p v u s1 aD H1 e1 I1 rv x1 rp=>?_) I.quiet ib;rw[e1];exact⟨ρ,σ,aD,H1,rfl,I1,r.keep x1,x1.bw⟩
theorem aM{pos:Pos} (h:ME X cl e f):MS X cl (.Return (some e) pos) (bg f):=by
  refine⟨?_⟩;intro pins s σ aA H0 Hf H ρ I r hs;unfold bg at hs ⊢;refine Zc (h.lR I r hs fun p v u s1 aD H1 e1 I1 rv x1 rp=>?_);rw[e1];exact⟨p,v,σ,aD,H1,rfl,I1,r.ext.trans x1,rv,rp⟩
theorem aQ{i:Nat}{x:Str}{pos pos':Pos}(hN:X.N.Nodup)(hi:X.N[i]?=some x)(hx:Loc X.env.scope x)(he:ME X cl e f)(ib:swapsWith e (some (.Name x pos')) pos.line X.env=pure false:=by rfl)
    (hf:X.fn x=true\/X.env.scope.names.lookup x=some .local:=by first | exact .inl rfl | exact .inr rfl | assumption):MS X cl (.Assign [.Name x pos'] e pos) (bf i f):=by
  refine⟨?_⟩;intro pins s σ aA H0 Hf H ρ I r hs;unfold bf at hs ⊢;refine Yu (he.lR I r hs fun p v u s1 aD H1 e1 I1 rv x1 rp=>?_) ib;rw[e1];have hl:i<σ.length:=by rw[I.len];exact(VS.mp hi).1
  exact fB I1 hN hi hx rv (fun s2 I2=>⟨_,_,aD,H1,rfl,I2,(r.keep x1).set i rp hl,x1.bw⟩) hf
theorem bV{t:FT}{pos:Pos} (hc:MT X cl c t) (ha:ia X cl a f) (hb:ia X cl b g):MS X cl (.If c a b pos) (cy t f g):=by
  refine⟨?_⟩;intro pins s σ aA H0 Hf H ρ I r hs;have ht:t ρ≠.stuck:=fun z=>hs (by unfold cy;rw[z])
  refine wpAny_If (VN (hc pins s σ aA H0 Hf H ρ I r ht) (fun d s1 q=>?_) fun u s1 q=>?_)
  . obtain⟨aD,H1,e1,I1,x1⟩:=q;cases d with
    | true =>
      have e2:cy t f g ρ=f ρ:=by unfold cy;rw[e1];rfl
      rw[e2]at hs ⊢;exact VN (ha pins s1 σ aA H0 aD H1 ρ I1 (r.keep x1) hs) (fun _ _ q=>q.from x1.bw) fun _ _ q=>q.from x1.bw
    | false =>
      have e2:cy t f g ρ=g ρ:=by unfold cy;rw[e1];rfl
      rw[e2]at hs ⊢;exact VN (hb pins s1 σ aA H0 aD H1 ρ I1 (r.keep x1) hs) (fun _ _ q=>q.from x1.bw) fun _ _ q=>q.from x1.bw
  . obtain⟨c,e1,x⟩:=q;have e2:cy t f g ρ=.exc c ρ:=by unfold cy;rw[e1]
    rw[e2];exact iV r x
def Over(J:It)(Hg:Hp)(vs:List V):Prop:=∀ H i,aO Hg H->(i<vs.length->J.go i H/\∀ x H',J.HZ i H x H'->H'=H/\vs[i]?=some x)/\(vs.length<=i->J.stop i H)
def ET(X:Cx)(cl:Nat->Addr)(tg:Expr)(pins:List (Addr×Obj))(σ:SV)(Hf H:Hp)(r:R (List PV))(sF:Value)(s2:Shared):Prop :=
  ∃(ps:List PV)(vs:List V)(ao:Hp),r=.ok ps/\QS X pins σ tg (fun J H'=>Ext Hf H ao H'/\Over J ao vs/\bB X.K cl ao vs ps) sF s2
structure MI(X:Cx)(cl:Nat->Addr)(tg iter:Expr)(f:FA):Prop where
  run':∀(pins:List (Addr×Obj))(s:Shared)(σ:SV)(aA H0 Hf H:Hp)(ρ:ay),Inv X pins σ H s->Rep X.K cl aA H0 Hf H σ ρ->f ρ≠.stuck ->
    wpAny (model X.prog X.w) X.A (eval iter X.env) (fun v s1=>wpAny (model X.prog X.w) X.A (pyIter v) (ET X cl tg pins σ Hf H (f ρ)) (bW X cl pins σ Hf H (f ρ)) s1) (bW X cl pins σ Hf H (f ρ)) s
noncomputable instance {X:Cx}{cl:Nat->Addr}{tg iter:Expr}{f:FA}:CoeFun (MI X cl tg iter f) fun _=>∀(pins:List (Addr×Obj))(s:Shared)(σ:SV)(aA H0 Hf H:Hp)(ρ:ay),Inv X pins σ H s->Rep X.K cl aA H0 Hf H σ ρ->f ρ≠.stuck ->
    wpAny (model X.prog X.w) X.A (eval iter X.env) (fun v s1=>wpAny (model X.prog X.w) X.A (pyIter v) (ET X cl tg pins σ Hf H (f ρ)) (bW X cl pins σ Hf H (f ρ)) s1) (bW X cl pins σ Hf H (f ρ)) s:=⟨MI.run'⟩
theorem Dj{K:PySem.W.Frag}{a:Addr}{xs:List V}{Hg:Hp}(h:iG K Hg a xs):Over (MY K a) Hg xs:=fun H i sm =>
  ⟨fun hi=>⟨⟨xs,xs[i],aO.dX sm h,by simp[hi]⟩,fun x H' ⟨e,y⟩=>⟨e,y xs (aO.dX sm h)⟩⟩,fun hi=>⟨xs,aO.dX sm h,hi⟩⟩
theorem yQ{K:PySem.W.Frag}{a:Addr}{xs:List V}{Hg:Hp}(h:fV K Hg a xs):Over (MX K a) Hg xs:=fun H i sm =>
  ⟨fun hi=>⟨⟨xs,xs[i],sm.seq h,by simp[hi]⟩,fun x H' ⟨e,y⟩=>⟨e,y xs (sm.seq h)⟩⟩,fun hi=>⟨xs,sm.seq h,hi⟩⟩
theorem qN{tg iter:Expr}(h:ME X cl iter f):MI X cl tg iter (lB f):=by
  refine⟨?_⟩;intro pins s σ aA H0 Hf H ρ I r hs;unfold lB at hs ⊢;refine h.run I r (Ext.refl r.sub) hs fun p v u s1 aD H1 e1 I1 rv x1 rp=>?_;rw[e1]at hs ⊢;cases p<;>first
    | exact absurd rfl hs
    | skip
  . rename_i l;cases rp with
    | tup hq rr =>
      cases rv;obtain⟨its,w,pl,hz⟩:=I1.tuple (aO.dX x1.sub hq);refine wpAny_pyIter_tuple (show s1.heap.IsTuple _ its.toArray from pl) ?_;refine⟨l,_,aD,rfl,s1.heap.objs.size,[s1.heap.objs.size],_,_,H1,rfl,I1.kept (t':=s1.toks) fun b o e=>VW _ e,yr _ _,⟨_,Wi _ rfl,rfl,rfl⟩,fun b hb=>?_,x1,Dj hq,rr⟩;have e:b=s1.heap.objs.size:=by simpa using hb
      subst e;exact I1.rT (VU _) (I1.bh.fresh (VU _))
  . rename_i l;cases rp with
    | lst hq rr =>
      cases rv;obtain⟨its,w,pl,hz⟩:=I1.list (x1.sub.seq hq);refine wpAny_pyIter_list pl.isList ?_;refine⟨l,_,aD,rfl,s1.heap.objs.size,[s1.heap.objs.size],_,_,H1,rfl,I1.kept (t':=s1.toks) fun b o e=>VW _ e,Ar _ _,⟨_,Wi _ rfl,rfl,rfl⟩,fun b hb=>?_,x1,yQ hq,rr⟩;have e:b=s1.heap.objs.size:=by simpa using hb
      subst e;exact I1.rT (VU _) (I1.bh.fresh (VU _))
theorem qO(W:Own X):PassesOwn (model X.prog X.w) X.A X.env (iU X cl pins aA H0 Hg r):=sW W fun u s ⟨c,ρ,σ,Hf,H,e,e1,eu,I,rr,sm,x⟩ =>
  ⟨pins,σ,H,e,cl c,eu,I,x,fun h' I' x'=>⟨c,ρ,σ,Hf,H,e,e1,eu,I',rr,sm,x'⟩⟩
theorem AZ{i:Nat}{x:Str}{iter:Expr}{body:List Stmt}{pos pos':Pos}(W:Own X)(hc:X.calm=true)(hN:X.N.Nodup)(hi:X.N[i]?=some x)(hx:Loc X.env.scope x)(h:MI X cl (.Name x pos') iter f)(hb:ia X cl body g)
    (hf:X.fn x=true\/X.env.scope.names.lookup x=some .local:=by first | exact .inl rfl | exact .inr rfl | assumption) (ic:∀ y,foldedSetIterable iter X.env y=pure y:=by intro _;rfl) :
    MS X cl (.For (.Name x pos') iter body [] pos) (lA i f g):=by
  refine⟨?_⟩;intro pins s σ aA H0 Hf H ρ I r hs;have nJ:f ρ≠.stuck:=fun z=>hs (by unfold lA;rw[z])
  have hE:∀ u s',bW X cl pins σ Hf H (f ρ) u s'->iU X cl pins aA H0 Hf (lA i f g ρ) u s':=fun u s' ⟨c,e1,y⟩=>by
    have e2:lA i f g ρ=.exc c ρ:=by unfold lA;rw[e1]
    rw[e2];exact iV r y
  refine wpAny_For (VN (h pins s σ aA H0 Hf H ρ I r nJ) (fun v s1 h1=>VN h1 (fun sF s2 h2=>?_) hE) hE) ic;obtain⟨ps,vs,bG,e1,it,fp,tn,J,H2,e,I2,T,gi,f2,x2,ov,aT⟩:=h2;subst e;have e2:lA i f g ρ=forL i g ps ρ:=by unfold lA;rw[e1]
  rw[e2]at hs ⊢;have hp:PassesOwn (model X.prog X.w) X.A X.env (iU X cl pins aA H0 Hf (forL i g ps ρ)):=qO W
  have iz:∀{H':Hp},(∀ b∈fp,H' b=none)->∀ b∈fp,gG X pins H' b:=fun hn b hb=>⟨hn b hb,(f2 b hb).2⟩;have u4:∀{σ':SV}{H':Hp}{s':Shared},Inv X pins σ' H' s'->i<σ'.length:=fun I'=>by rw[I'.len];exact(VS.mp hi).1
  refine codeAny_forLoop_any (fun n s'=>∃ k ρ' σ' ao H',Inv X pins σ' H' s'/\tn k s'.heap/\(∀ b∈fp,H' b=none)/\Rep X.K cl aA H0 ao H' σ' ρ'/\aO bG ao/\n=ps.length - k/\k<=ps.length/\forL i g (ps.drop k) ρ'=forL i g ps ρ) ?_ ps.length
    ⟨0,ρ,σ,bG,H2,I2,gi,fun b hb=>(f2 b hb).1,r.keep x2,aO.refl _,rfl,Xp _,rfl⟩
  rintro n s3 ⟨k,ρ3,σ3,iI,H3,I3,nL,A0,r3,w6,rfl,hk,e3⟩;have nM:=aT.length
  have nN:aO bG H3:=w6.trans r3.sub;by_cases gJ:k<ps.length
  . obtain⟨go,yl⟩:=(ov H3 k nN).1 (by rw[nM];exact gJ);refine WT hp (VN (T.item X rfl rfl rfl hc k pins s3 σ3 H3 (iU X cl pins aA H0 Hf (forL i g ps ρ)) I3 (iz A0) nL go) (fun rr s4 ⟨u,hr,h4⟩=>?_) fun _ _ z=>z);subst hr;refine WT hp (ft h4 fun _ s5 ⟨x5,H5,I5,r5,y5,u6,IZ⟩=>?_);obtain⟨eH,I0⟩:=yl x5 H5 y5;subst eH;obtain⟨p5,A2,A3⟩:=aT.get' I0;have Dl:=A3.keep w6
    have mw:ps.drop k=p5::ps.drop (k+1):=by
      rw[XT gJ];rw[V9 gJ]at A2;rw[WL A2]
    have Ja:=I5.pinned (iz IZ) (T.obj _ _ u6);refine WT hp (XQ (fB Ja hN hi hx r5 (fun s6 I6=>?_) hf));have r6:=r3.set i Dl (u4 I3)
    rw[mw]at e3;have step:forL i g (p5::ps.drop (k+1)) ρ3=(match g (ρ3.set i (some p5))with | .next ρ'=>forL i g (ps.drop (k+1)) ρ' | .cont ρ'=>forL i g (ps.drop (k+1)) ρ' | .brk ρ'=>.next ρ' | o=>o):=rfl
    rw[step]at e3;have hg:g (ρ3.set i (some p5))≠.stuck:=fun z=>hs (by rw[<- e3,z])
    have Jb:aO Hf iI:=x2.bw.trans w6;refine WT hp (VN (hb _ s6 _ aA H0 iI H5 _ I6 r6 hg) (fun fl s7 q7=>?_) fun u s7 q7=>?_)
    . have again:∀{ρ7:ay}{σ7:SV}{eh H7:Hp},Inv X (pins++lL fp s5.heap) σ7 H7 s7->Rep X.K cl aA H0 eh H7 σ7 ρ7->aO bG eh->forL i g (ps.drop (k+1)) ρ7=forL i g ps ρ ->
          ∃ m,m<ps.length - k/\∃ k ρ' σ' ao H',Inv X pins σ' H' s7/\tn k s7.heap/\(∀ b∈fp,H' b=none)/\Rep X.K cl aA H0 ao H' σ' ρ'/\aO bG ao/\m=ps.length - k/\k<=ps.length/\forL i g (ps.drop k) ρ'=forL i g ps ρ:=fun{ρ7 σ7 eh H7} I7 r7 jA e7=>by
        refine⟨ps.length - (k+1),by omega,k+1,ρ7,σ7,eh,H7,I7.fD,T.keep _ _ _ u6 fun b hb o e=>(I7.pin (b,o) (We _ (We _ (fu hb e)))).1,fun b hb=>?_,r7,jA,rfl,gJ,e7⟩;obtain⟨o,e,d⟩:=T.obj _ _ u6 b hb;exact(I7.pin (b,o) (We _ (We _ (fu hb e)))).2.1
      cases fl with
      | next =>
        obtain⟨ρ7,σ7,eh,H7,e7,I7,r7,jA⟩:=q7;rw[e7]at e3;exact again I7 r7 (w6.trans jA) e3
      | cont =>
        obtain⟨ρ7,σ7,eh,H7,e7,I7,r7,jA⟩:=q7;rw[e7]at e3;exact again I7 r7 (w6.trans jA) e3
      | brk =>
        obtain⟨ρ7,σ7,eh,H7,e7,I7,r7,jA⟩:=q7;rw[e7]at e3;rw[<- e3];exact⟨ρ7,σ7,eh,H7,rfl,I7.fD,r7,Jb.trans jA⟩
      | ret u =>
        obtain⟨p7,v7,σ7,eh,H7,e7,I7,Jc,A4,A5⟩:=q7;rw[e7]at e3;rw[<- e3];exact⟨p7,v7,σ7,eh,H7,rfl,I7.fD,Jc,A4,A5⟩
    . obtain⟨c7,ρ7,σ7,eh,H7,A6,e7,A7,I7,r7,jA,x7⟩:=q7;rw[e7]at e3;rw[<- e3];exact⟨c7,ρ7,σ7,eh,H7,A6,rfl,A7,I7.fD,r7,Jb.trans jA,x7.uh⟩
  . have u7:k=ps.length:=by omega
    subst u7;refine WT hp (ft (T.done X rfl rfl rfl hc ps.length pins s3 σ3 H3 _ I3 (iz A0) nL ((ov H3 ps.length nN).2 (by rw[nM];exact VU _))) fun rr s4 ⟨hr,I4⟩=>?_);subst hr;rw[YA]at e3;rw[<- e3];exact Xf ⟨ρ3,σ3,iI,H3,rfl,I4,r3,x2.bw.trans w6⟩
theorem Dm{body:List Stmt}{t:FT}{pos:Pos} (W:Own X) (hc:MT X cl c t) (hb:ia X cl body g):MS X cl (.While c body [] pos) (jz t g):=by
  refine⟨?_⟩;intro pins s σ aA H0 Hf H ρ I r hs;have hp:PassesOwn (model X.prog X.w) X.A X.env (iU X cl pins aA H0 Hf (jz t g ρ)):=qO W
  refine wpAny_While (codeAny_whileLoop (fun n s'=>∃ ρ' σ' ao H',Inv X pins σ' H' s'/\Rep X.K cl aA H0 ao H' σ' ρ'/\aO Hf ao/\fO t g n ρ'=jz t g ρ) ?_ pV ⟨ρ,σ,Hf,H,I,r,aO.refl _,rfl⟩);rintro n s1 ⟨ρ1,σ1,aD,H1,I1,r1,Nd,e1⟩;cases n with
  | zero=>exact absurd e1.symm hs
  | succ n =>
    have step:fO t g (n+1) ρ1=(match t ρ1 with | .ok true=>(match g ρ1 with | .next ρ'=>fO t g n ρ' | .cont ρ'=>fO t g n ρ' | .brk ρ'=>.next ρ' | o=>o) | .ok false=>.next ρ1 | .exc c=>.exc c ρ1 | .stuck=>.stuck):=rfl;rw[step]at e1;have ht:t ρ1≠.stuck:=fun z=>hs (by rw[<- e1,z])
    refine WT hp (VN (hc pins s1 σ1 aA H0 aD H1 ρ1 I1 r1 ht) (fun b s2 q=>?_) fun u s2 q=>?_)
    . obtain⟨bG,H2,e2,I2,x2⟩:=q;rw[e2]at e1;have r2:=r1.keep x2
      have A8:=Nd.trans x2.bw;cases b with
      | true =>
        rw[VP rfl];have iJ:(match g ρ1 with | .next ρ'=>fO t g n ρ' | .cont ρ'=>fO t g n ρ' | .brk ρ'=>.next ρ' | o=>o)=jz t g ρ:=e1
        have hg:g ρ1≠.stuck:=fun z=>hs (by rw[<- iJ,z]);refine WT hp (VN (hb pins s2 σ1 aA H0 bG H2 ρ1 I2 r2 hg) (fun fl s3 q3=>?_) fun u s3 q3=>?_)
        . cases fl with
          | next =>
            obtain⟨ρ7,σ7,eh,H7,e7,I7,r7,jA⟩:=q3;rw[e7]at iJ;exact⟨n,XW n,ρ7,σ7,eh,H7,I7,r7,A8.trans jA,iJ⟩
          | cont =>
            obtain⟨ρ7,σ7,eh,H7,e7,I7,r7,jA⟩:=q3;rw[e7]at iJ;exact⟨n,XW n,ρ7,σ7,eh,H7,I7,r7,A8.trans jA,iJ⟩
          | brk =>
            obtain⟨ρ7,σ7,eh,H7,e7,I7,r7,jA⟩:=q3;rw[e7]at iJ;rw[<- iJ];exact⟨ρ7,σ7,eh,H7,rfl,I7,r7,A8.trans jA⟩
          | ret u =>
            obtain⟨p7,v7,σ7,eh,H7,e7,I7,Jc,A4,A5⟩:=q3;rw[e7]at iJ;rw[<- iJ];exact⟨p7,v7,σ7,eh,H7,rfl,I7,Jc,A4,A5⟩
        . obtain⟨c7,ρ7,σ7,eh,H7,A6,e7,A7,I7,r7,jA,x7⟩:=q3;rw[e7]at iJ;rw[<- iJ];exact⟨c7,ρ7,σ7,eh,H7,A6,rfl,A7,I7,r7,A8.trans jA,x7⟩
      | false =>
        rw[VQ W5];have iJ:SR.next ρ1=jz t g ρ:=e1
        rw[<- iJ];exact Xf ⟨ρ1,σ1,bG,H2,rfl,I2,r2,A8⟩
    . obtain⟨c,e2,y⟩:=q;rw[e2]at e1;have iJ:SR.exc c ρ1=jz t g ρ:=e1
      rw[<- iJ];exact iU.from Nd (iV r1 y)
end
section
variable {K:PySem.W.Frag}{cl:Nat->Addr}{Hf H:Hp}
theorem sX{n:Nat}{N:List Str}(hn:N.length=n)(sm:aO Hf H)(r:bB K cl Hf vs ps):Rep K cl Hf H Hf H (L2.start N vs) (Mi.start n ps):=by
  have hl:=r.length;have get:∀{i:Nat}{p:PV},(Mi.start n ps)[i]?=some (some p)->ps[i]?=some p:=fun{i p} h=>by
    unfold Mi.start at h;by_cases hi:i<ps.length
    . rw[Wb (by simpa using hi),Wt]at h;cases e:ps[i]? with
      | none=>rw[e]at h;cases h
      | some q=>rw[e]at h;cases h;rfl
    . rw[Wm (by simpa using hi),Ys]at h;split at h<;>cases h
  have yR:∀{i:Nat}{l:List PV},ps[i]?≠some (.own l):=fun{i l} e=>by
    obtain⟨v,_,h⟩:=r.get e;cases h
  refine⟨Ext.refl sm,fun i p h=>?_,fun i j a b _ h _ _ _=>absurd (get h) yR⟩;have e:=get h
  obtain⟨v,h1,h2⟩:=r.get e;refine⟨v,?_,?_⟩
  . unfold L2.start;have hi:i<vs.length:=(VS.mp h1).1
    rw[Wb (by simpa using hi),Wt,h1];rfl
  . cases p with
    | own l=>exact absurd e yR
    | _=>exact h2
end
section
variable {P:Program}{w:World}{K:PySem.W.Frag}{mg:Str->Option Value}{base:Heap}{cl:Nat->Addr}
noncomputable abbrev aV(P:Program)(w:World)(K:PySem.W.Frag)(mg:Str->Option Value)(base:Heap)(cl:Nat->Addr)(N:List Str)(qual:Str)(scope:Scope)(f:Addr)(cd:Value)(A:Around)(outer:List Env)(s:Shared)(H:Hp)(E:XK):Cx :=
  rV (hZ cl P w) P w K mg base N qual scope f cd A outer s H E
theorem cP:Own (aV P w K mg base cl N qual scope f cd A outer s H E) :=
  ⟨rfl,rfl,fun b z=>absurd (show b∈([]:List Addr) from z) (by simp),fun _=>rfl⟩
theorem nO{s s':Shared}
    (I:Inv (aV P w K mg base cl N qual scope f cd A outer s H E) pins σ H' s') (x:mP (aV P w K mg base cl N qual scope f cd A outer s H E) pins H' e (cl c) s'.heap) (hE:E (.ref (cl c)) none H') :
    (aV P w K mg base cl N qual scope f cd A outer s H E).xe (.ref e) s':=by
  have W:=cP (P:=P) (w:=w) (K:=K) (mg:=mg) (base:=base) (cl:=cl) (N:=N) (qual:=qual) (scope:=scope) (f:=f) (cd:=cd) (A:=A) (outer:=outer) (s:=s) (H:=H) (E:=E);obtain⟨B,a0,mT,nd,st⟩:=x;show wpAny _ _ (leaving _ _) _ _ s'
  unfold leaving;refine V0 (sf W I.ok.frames nd st fun h1 hh u1 AX=>?_);have I1:=Inv.iy W I mT hh.1 u1 (tk:=s'.toks)
  have c1:=mT.iy W I hh.1;refine uY (s:={ s' with heap:=h1 }) AX hh fun h2 hf u2 AY=>?_;have I2:=Inv.iy W I1 c1 hf.1 u2 (tk:=s'.toks)
  have c2:=c1.iy W I1 hf.1;refine⟨e,c,H',B,a0,rfl,I2.os,I2.bare,I2.base,I2.bh,?_,fun b o hb hc hn=>?_,AY,hE⟩
  . have Rj:Heap.FlyingW B ((aV P w K mg base cl N qual scope f cd A outer s H E).env::outer) e (.ref (cl c)) a0 h2:=hf;obtain⟨k1,k2,⟨_,_,k3⟩,k4⟩:=Rj;exact⟨k1,k2,k3,k4⟩
  . refine c2 b o hb ?_ fun z=>?_
    . rcases hc with hc | hc
      . exact .inl hc
      . exact .inr (.inr (.inl hc))
    . rcases(jf W).mp z with z | z
      . rcases hc with hc | ⟨o₀,hc⟩
        . exact hc (by rw[z];exact I2.free)
        . have h1:=V8 hc;rw[z]at h1;exact absurd (Wc h1 I2.ok.above) (Xk _)
      . exact hn z
theorem sY{x qual:Str}{st:Stmt}{f:Addr}{fd:FuncData}{N ps:List Str}{k n:Nat}{b:FS}(F:wV K x qual st f fd)(S:eo N ps (az st))(hn:ps.length=n)
    (dA:∀(aK:Value)(A:Around)(outer:List Env)(s:Shared)(H:Hp)(E:XK),bH k (A.deeper (envOfC qual (az st) s.heap.objs.size f aK)) ->
      ia (aV P w K mg base cl N qual (az st) f aK A outer s H E) cl (ba st) b):d9 P w K mg base (hZ cl P w) (k+1) f fd ps (mS K cl n (a9 N.length b)):=by
  obtain⟨oc,od,kV,doc,pm,an,aK,ct,eQ,rfl,lk,cU⟩:=F.ex;refine yz lk cU S (fun vs H Q E h=>by rw[h.1,hn]) fun A outer s H vs Q E hr gy=>?_;obtain⟨hl,Hf,qs,sm,aT,hs,bh,hex⟩:=gy;have hb:=dA aK A outer s H E hr
  have cu:b (Mi.start N.length qs)≠.stuck:=fun z=>hs (by unfold a9;rw[z]);refine⟨fun D σ H1=>σ=L2.start N vs/\H1=H/\D={ nx:=fun _ H'=>Q .aU H',rt:=Q },fun pins s1 σ H1 D I h=>?_,rfl,rfl,rfl⟩;obtain⟨rfl,rfl,rfl⟩:=h;refine VN (hb pins s1 _ Hf H1 Hf H1 _ I (sX rfl sm aT) cu) (fun fl s2 q=>?_) fun u s2 q=>?_
  . cases fl with
    | next =>
      obtain⟨ρ',σ',ao,H',e1,I',r',_⟩:=q;exact⟨σ',H',I',bh .aU .aU ao H' (by unfold a9;rw[e1]) r'.ext .aU⟩
    | ret u =>
      obtain⟨p,v,σ',ao,H',e1,I',ex,rv,rp⟩:=q;exact⟨v,σ',H',I',rv,bh p v ao H' (by unfold a9;rw[e1]) ex rp⟩
    | brk =>
      obtain⟨ρ',σ',ao,H',e1,I',r',_⟩:=q;exact absurd (by unfold a9;rw[e1]) hs
    | cont =>
      obtain⟨ρ',σ',ao,H',e1,I',r',_⟩:=q;exact absurd (by unfold a9;rw[e1]) hs
  . obtain⟨c,ρ',σ',ao,H',e,e1,rfl,I',r',_,x⟩:=q;exact nO I' x (hex c ao H' (by unfold a9;rw[e1]) r'.ext)
end
noncomputable def pF:Ty->String
  | .int=>"int" | .bool=>"bool" | .str=>"str" | .tuple=>"tuple" | .list=>"list" | .dict=>"dict"
noncomputable def mV:Ty->Str
  | .int=>"int" | .bool=>"bool" | .str=>"str" | .tuple=>"tuple" | .list=>"list" | .dict=>"dict"
theorem Dn(t:Ty):bootBuiltins (mV t)=some (.type (pF t)):=by
  cases t
  . exact boot_int
  . exact boot_bool
  . exact boot_str
  . exact boot_tuple
  . exact boot_list
  . exact boot_dict
section
variable {K:PySem.W.Frag}
theorem Dp(t:Ty):PySem.W.kitOne K (.type "NoneType") (.type (pF t))=some false:=by cases t<;>rfl
theorem Dq(t:Ty):PySem.W.kitOne K (.type "bool") (.type (pF t))=some (match t with | .int=>true | .bool=>true | _=>false):=by cases t<;>rfl
theorem GG(t:Ty):PySem.W.kitOne K (.type "int") (.type (pF t))=some (match t with | .int=>true | _=>false):=by cases t<;>rfl
theorem GH(t:Ty):PySem.W.kitOne K (.type "str") (.type (pF t))=some (match t with | .str=>true | _=>false):=by cases t<;>rfl
theorem kit_tuple(t:Ty):PySem.W.kitOne K (.type "tuple") (.type (pF t))=some (match t with | .tuple=>true | _=>false):=by cases t<;>rfl
theorem Dr(t:Ty):PySem.W.kitOne K (.type "list") (.type (pF t))=some (match t with | .list=>true | _=>false):=by cases t<;>rfl
theorem Ds(t:Ty):PySem.W.kitOne K (.type "dict") (.type (pF t))=some (match t with | .dict=>true | _=>false):=by cases t<;>rfl
end
section
variable {X:Cx}{cl:Nat->Addr}{pins:List (Addr×Obj)}{s:Shared}{σ:SV}{aA H0 Hf H aD H1:Hp}{ρ:ay}{α:Type}
theorem yS{t:Ty}{b:Bool}{E:Value->Shared->Prop} (I:Inv X pins σ H s) (sm:aO Hf H) (rv:RelV v u) (rp:Rp X.K cl Hf v p) (h:dG p t=some b) :
    wpAny (model X.prog X.w) X.A (call (.builtin "isinstance") [u,.type (pF t)]) (eU X cl pins σ Hf H (.ok (.bl b))) E s:=by
  have fin:∀ tk,eU X cl pins σ Hf H (.ok (.bl b)) (.bool b) { s with toks:=tk }:=fun tk=>⟨.bl b,.bl b,Hf,H,rfl,I.tok _,rfl,Ext.refl sm,.bl b⟩;cases rp with
  | aU=>cases rv;exact Xg PySem.W.kitx_none I.dR True.intro (by rw[Dp];cases t<;>exact h) (fun z=>nomatch z) fin
  | bl c=>cases rv;exact Xg PySem.W.kitx_bool I.dR True.intro (by rw[Dq];cases t<;>exact h) (fun z=>nomatch z) fin
  | int c=>obtain⟨tk,rfl⟩:=rv;exact Xg PySem.W.kitx_int I.dR True.intro (by rw[GG];cases t<;>exact h) (fun z=>nomatch z) fin
  | str c=>obtain⟨tk,rfl⟩:=rv;exact Xg PySem.W.kitx_str I.dR True.intro (by rw[GH];cases t<;>exact h) (fun z=>nomatch z) fin
  | tup hq r =>
    cases rv;obtain⟨its,w,⟨o,h1,h2,_⟩,_⟩:=I.tuple (aO.dX sm hq);exact Xg PySem.W.kitx_tuple I.dR ⟨o,h1,h2⟩ (by rw[kit_tuple];cases t<;>exact h) (fun z=>nomatch z) fin
  | lst hq r =>
    cases rv;obtain⟨its,w,⟨o,n,h1,h2,_⟩,_⟩:=I.list (sm.seq hq);exact Xg PySem.W.kitx_list I.dR ⟨o,h1,h2⟩ (by rw[Dr];cases t<;>exact h) (fun z=>nomatch z) fin
  | exc hq=>cases t<;>cases h
  | ins hq=>cases t<;>cases h
  | iO hq =>
    cases rv;obtain⟨_,_,vs,_,o,es,ep,h1,h2,_⟩:=I.bh _ _ (sm _ _ hq);exact Xg PySem.W.kitx_dict I.dR ⟨o,h1,h2.1⟩ (by rw[Ds];cases t<;>exact h) (fun z=>nomatch z) fin
theorem jB(t:Ty){p p2 pos:Pos}(he:ME X cl e f) (hg:Gl X "isinstance") (hm:X.mg "isinstance"=none) (A9:Gl X (mV t)) (Jd:X.mg (mV t)=none)
    (dE:starEach [e,.Name (mV t) p2] X.env=[(false,eval e X.env),(false,eval (.Name (mV t) p2) X.env)]:=by rfl) (nP:starEach [.Name (mV t) p2] X.env=[(false,eval (.Name (mV t) p2) X.env)]:=by rfl) :
    ME X cl (.Call (.Name "isinstance" p) [e,.Name (mV t) p2] [] pos) (iH t f):=by
  refine⟨?_⟩;intro pins s σ aA H0 Hf H ρ I r hs;unfold iH at hs ⊢;refine WJ (jx I hg hm boot_isinstance ?_);refine Xs ?_ (by rw[dE,nP]) (by rw[nP];rfl);rw[dE];show wpAny _ _ (spliced ((false,eval e X.env)::backTo pos [(false,eval (.Name (mV t) p2) X.env)])) _ _ s
  refine WA (he.run I r (Ext.refl r.sub) hs fun q v u s1 aD H1 e1 I1 rv x1 rp=>?_);rw[e1]at hs ⊢;cases hb:dG q t with
  | none=>rw[hb]at hs;exact absurd rfl hs
  | some b =>
    have hn:mV t≠"__name__":=by cases t<;>decide
    have hd:(mV t ==("__debug__" : Str))=false:=by cases t<;>decide
    show wpAny _ _ (spliced ((false,eval (.Name (mV t) p2) X.env)::[])) _ _ s1;refine WA (jx I1 A9 Jd (Dn t) (WY ?_) hn hd);show wpAny _ _ (call (.builtin "isinstance") [u,.type (pF t)]) (eU X cl pins σ Hf H (.ok (.bl b))) _ s1
    exact ft (yS I1 x1.sub rv rp hb) fun _ _ q=>q.from (e0:=x1)
theorem sZ{apos pos:Pos} (he:ME X cl e f)
    (ht:eval (.Call (.Attribute e "bit_length" apos) [] [] pos) X.env=(do
      let ov <- eval e X.env
      standAt apos.atName
      let (f,first) <- holding [ov] (getMethod ov "bit_length" pl)
      callWith pos f first (backTo pos (starEach [] X.env)) (backToKw pos (keywordEach [] X.env))):=by rfl):ME X cl (.Call (.Attribute e "bit_length" apos) [] [] pos) (gA jX f):=by
  refine⟨?_⟩;intro pins s σ aA H0 Hf H ρ I r hs;unfold gA at hs ⊢;refine WN (pl:=pl) (he.run I r (Ext.refl r.sub) hs fun q v u s1 aD H1 e1 I1 rv x1 rp=>?_) ht;rw[e1]at hs ⊢;cases q<;>first
    | exact absurd rfl hs
    | skip
  rename_i i;cases rp;obtain⟨t,rfl⟩:=rv;refine getMethod_int_bit_length ?_;exact W7 rfl (aaR (call_int_bit_length ⟨_,.int (nb i),aD,H1,rfl,I1.tok _,⟨_,rfl⟩,x1,.int _⟩))
theorem Ba(ha:cC a)(hb:cC b)(hc:cC c)(h0:c≠0):Builtin.Range.small a b c=true:=by
  obtain⟨a1,a2⟩:=ha;obtain⟨b1,b2⟩:=hb;obtain⟨c1,c2⟩:=hc;have key : -(2 ^ 63)<=Builtin.Range.rangeSize a b c/\Builtin.Range.rangeSize a b c<2 ^ 63:=by
    unfold Builtin.Range.rangeSize;by_cases hp:c>0
    . rw[VP hp];by_cases hl:a<b
      . rw[VP hl];have h1:0<=(b - a - 1)/c:=WH (by omega) (by omega)
        have h2:(b - a - 1)/c<=b - a - 1:=Zp _ (by omega);omega
      . rw[VQ hl];omega
    . rw[VQ hp];by_cases hl:a>b
      . rw[VP hl];have h1:0<=(a - b - 1)/(-c):=WH (by omega) (by omega)
        have h2:(a - b - 1)/(-c)<=a - b - 1:=Zp _ (by omega);omega
      . rw[VQ hl];omega
  have fit:∀ i:Int,-(2 ^ 63)<=i->i<2 ^ 63->Builtin.Range.rangeFitsLong i=true:=fun i h1 h2=>by
    unfold Builtin.Range.rangeFitsLong;rw[VX h1,VX h2];rfl
  unfold Builtin.Range.small;rw[fit a (by omega) (by omega),fit b (by omega) (by omega),fit c (by omega) (by omega),fit _ key.1 key.2];have last:(if c>0 then Builtin.Range.rangeFitsLong (b+(c - 1)) else Builtin.Range.rangeFitsLong (b+(c+1)))=true:=by
    by_cases hp:c>0
    . rw[VP hp];exact fit _ (by omega) (by omega)
    . rw[VQ hp];exact fit _ (by omega) (by omega)
  rw[last,Zq];rfl
noncomputable def Je(lo:Int)(st:Int)(n:Nat):It:=⟨fun i _=>i<n,fun i H x H'=>H'=H/\x=.int (lo+i*st),fun i _=>n<=i⟩
theorem wF{P:Program}{w:World}{K:PySem.W.Frag}{tg:Expr}(it:Addr)(lo st:Int)(n:Nat):Turn P w K tg (Je lo st n) [it] it (fun i h=>IsRangeIter h it (lo+(i:Nat)*st) ((n:Int) - (i:Nat)) st) where
  mem:=by simp
  obj:=fun i h st b hb=>by
    have e:b=it:=by simpa using hb
    subst e;exact⟨_,st,fun v z=>by
      have z':Data.fields _=Data.cell v:=z;cases z'⟩
  keep:=fun i h h' st k=>k it (by simp) _ st
  item:=by
    intro X hP hw hK hc i pins s σ H E I hf Bb hg;subst hP hw hK;obtain⟨f0,f1,f2,f3,f4,f5⟩:=hf it (by simp);have W:=Walks.range (prog:=X.prog) (w:=X.w) (I.ok.hd hc) it lo st n
    refine W.item i s _ _ hg Bb fun v h' tk hv gx kk=>?_;obtain⟨t,rfl⟩:=hv;have I1:Inv X pins σ H { s with heap:=h',toks:=tk }:=I.turned (fun b o hb e=>kk b o (by simpa using hb) e) f0 f1 f3 f4 f5
    exact⟨_,rfl,t9 (s:={ s with heap:=h',toks:=tk }) (n:="range_iterator") gx rfl rfl (by decide) ⟨.int (lo+i*st),H,I1,⟨t,rfl⟩,⟨rfl,rfl⟩,gx,fun b hb=>(hf b hb).1⟩⟩
  done:=by
    intro X hP hw hK hc i pins s σ H E I hf Bb hg;subst hP hw hK;obtain⟨f0,f1,f2,f3,f4,f5⟩:=hf it (by simp);exact wpAny_pyNext_range_end (I.ok.hd hc) Bb (by have:n<=i:=hg;omega) fun h' eb=>⟨rfl,I.turned (t':=s.toks) (fun b o hb e=>eb b o hb e) f0 f1 f3 f4 f5⟩
  self:=fun _ _ _ _ _ st h=>wpAny_pyIter_rangeiter st h
noncomputable def u9(lo hi st:Int):List V:=(List.range (gI lo hi st)).map fun(k:Nat)=>.int (lo+(k:Int)*st)
theorem pX(lo hi st:Int):(u9 lo hi st).length=gI lo hi st:=by unfold u9;rw[V5,WI]
theorem yT{lo hi st:Int}{Hg:Hp}:Over (Je lo st (gI lo hi st)) Hg (u9 lo hi st):=fun H i sm =>
  ⟨fun h=>⟨by rw[pX]at h;exact h,fun x H' ⟨e1,e2⟩=>⟨e1,by
    rw[pX]at h;subst e2;unfold u9;rw[Wt,Xx h];rfl⟩⟩,fun h=>by rw[pX]at h;exact h⟩
theorem w7{K:PySem.W.Frag}(g:Nat->V)(h:Nat->PV)(e:∀ i,Rp K cl Hf (g i) (h i)):∀ l:List Nat,bB K cl Hf (l.map g) (l.map h)
  | []=>.nil
  | a::r=>.cons (e a) (w7 g h e r)
theorem Bc{tg:Expr}{E:Value->Shared->Prop}{lo hi st:Int}{t u v:Tok}{tk:Nat}(I:Inv X pins σ H s)(sm:aO Hf H)(h1:cC lo)(h2:cC hi)(h3:cC st)(h0:st≠0) :
    wpAny (model X.prog X.w) X.A (pyIter (.ref s.heap.objs.size)) (ET X cl tg pins σ Hf H (.ok (cV lo hi st))) E { s with heap:=s.heap.push { cls:=.type "range",data:=.fields #[.int lo t,.int hi u,.int st v] },toks:=tk }:=by
  refine wpAny_pyIter_range (IsRange.new ..) (Ba h1 h2 h3 h0) ?_;have I1:Inv X pins σ H { s with heap:=s.heap.push { cls:=.type "range",data:=.fields #[.int lo t,.int hi u,.int st v] },toks:=tk }:=I.kept fun b o e=>VW _ e
  refine⟨_,u9 lo hi st,Hf,rfl,(s.heap.push { cls:=.type "range",data:=.fields #[.int lo t,.int hi u,.int st v] }).objs.size,[(s.heap.push { cls:=.type "range",data:=.fields #[.int lo t,.int hi u,.int st v] }).objs.size],_,_,H,rfl,
    I1.kept (t':=tk) fun b o e=>VW _ e,wF _ lo st (gI lo hi st),?_,fun b hb=>?_,Ext.refl sm,yT,w7 _ _ (fun i=>.int _) _⟩
  . have e1:lo+((0:Nat):Int)*st=lo:=by simp
    have nn:0<=Builtin.Range.rangeSize lo hi st:=by
      unfold Builtin.Range.rangeSize;by_cases hp:st>0
      . rw[VP hp];by_cases hl:lo<hi
        . rw[VP hl];have:0<=(hi - lo - 1)/st:=WH (by omega) (by omega)
          omega
        . rw[VQ hl];omega
      . rw[VQ hp];by_cases hl:lo>hi
        . rw[VP hl];have:0<=(lo - hi - 1)/(-st):=WH (by omega) (by omega)
          omega
        . rw[VQ hl];omega
    have e2:((gI lo hi st:Nat):Int) - ((0:Nat):Int)=Builtin.Range.rangeSize lo hi st:=by
      show(((Builtin.Range.rangeSize lo hi st).toNat:Nat):Int) - _=_;omega
    show IsRangeIter _ _ (lo+((0:Nat):Int)*st) (((gI lo hi st:Nat):Int) - ((0:Nat):Int)) st;rw[e1,e2];exact Wi _ rfl
  . have e:b=(s.heap.push { cls:=.type "range",data:=.fields #[.int lo t,.int hi u,.int st v] }).objs.size:=by simpa using hb
    subst e;exact I1.rT (VU _) (I1.bh.fresh (VU _))
theorem Bd{st:Int}(h:cC st)(h0:st≠0):st.natAbs.log2<9000:=by
  obtain⟨h1,h2⟩:=h;have:st.natAbs<2 ^ 61:=by omega
  have:=(abq (by omega:st.natAbs≠0)).mpr this;omega
theorem jg{tg:Expr}{e:Expr}{es:List Expr}{g:FA}{p pos:Pos} (hg:Gl X "range") (hm:X.mg "range"=none) (ha:MA X cl (e::es) g)
    (he:starEach (e::es) X.env=(false,eval e X.env)::starEach es X.env:=by rfl) (dD:(backTo pos (starEach es X.env)).any (·.1)=false:=by rfl):MI X cl tg (.Call (.Name "range" p) (e::es) [] pos) (eD g):=by
  refine⟨?_⟩;intro pins s σ aA H0 Hf H ρ I r hs;unfold eD at hs ⊢;refine Call_ (jx I hg hm boot_range (Y6 (ha.run pos I r (Ext.refl r.sub) hs fun qs vs us s1 aD H1 _ e1 I1 rv x1 aT=>?_) he dD));rw[e1]at hs ⊢;have fin:∀{lo hi st:Int}{t u v:Tok}{tk:Nat}{rr:R (List PV)}{E:Value->Shared->Prop},cC lo->cC hi->cC st->st≠0->rr=.ok (cV lo hi st) ->
      wpAny (model X.prog X.w) X.A (pyIter (.ref s1.heap.objs.size)) (ET X cl tg pins σ Hf H rr) E { s1 with heap:=s1.heap.push { cls:=.type "range",data:=.fields #[.int lo t,.int hi u,.int st v] },toks:=tk }:=fun h1 h2 h3 h0 er=>by
    rw[er];refine ft (Bc (cl:=cl) (tg:=tg) I1 x1.sub h1 h2 h3 h0) fun sF s2 q=>?_;obtain⟨ps,ws,ao,a1,it,fp,tn,J,H',b1,b2,b3,b4,b5,b6,b7,b8⟩:=q;exact⟨ps,ws,ao,a1,it,fp,tn,J,H',b1,b2,b3,b4,b5,x1.trans b6,b7,b8⟩
  have one:cC 1:=by decide
  have zero:cC 0:=by decide
  have Jf:∀{c:Prop}[Decidable c]{a:List PV},(if c then R.ok a else R.stuck)≠.stuck->c/\(if c then R.ok a else R.stuck)=.ok a:=fun{c _ a} h=>by
    by_cases hc:c
    . exact⟨hc,VP hc⟩
    . rw[VQ hc]at h;exact absurd rfl h
  split at hs
  . obtain⟨hc,er⟩:=Jf hs;obtain⟨v,rfl,rp⟩:=iT aT;cases rp;obtain⟨u,rfl,t,rfl⟩:=vals1 rv;exact call_range_1 (fin zero hc one (by decide) er)
  . obtain⟨hc,er⟩:=Jf hs;obtain⟨v,w,rfl,rp,rq⟩:=ug aT;cases rp;cases rq;obtain⟨u,w',rfl,⟨t,rfl⟩,⟨t',rfl⟩⟩:=vals2 rv;exact call_range_2 (fin hc.1 hc.2 one (by decide) er)
  . obtain⟨hc,er⟩:=Jf hs;cases aT with
    | cons r1 q1 =>
      cases q1 with
      | cons r2 q2 =>
        cases q2 with
        | cons r3 q3 =>
          cases q3;cases r1;cases r2;cases r3;cases rv with
          | cons w1 m1 =>
            cases m1 with
            | cons w2 m2 =>
              cases m2 with
              | cons w3 m3 =>
                cases m3;obtain⟨t1,rfl⟩:=w1;obtain⟨t2,rfl⟩:=w2;obtain⟨t3,rfl⟩:=w3;exact call_range_3 hc.2.2.2 (fin hc.1 hc.2.1 hc.2.2.1 hc.2.2.2 er) (.inl (Zo (Bd hc.2.2.1 hc.2.2.2)))
  . exact absurd rfl hs
structure w9(X:Cx)(ts:List Expr)(is:List Nat):Prop where
  run':∀(pins:List (Addr×Obj))(s:Shared)(σ:SV)(H:Hp)(vs:List V)(us:List Value)(E:Value->Shared->Prop),Inv X pins σ H s->Vals vs us->vs.length=is.length ->
    wpAny (model X.prog X.w) X.A (assignInOrder ((assignEach ts X.env).map (·.2)) us) (fun _ s'=>Inv X pins ((is.zip vs).foldl (fun σ q=>σ.set q.1 (some q.2)) σ) H s') E s
noncomputable instance {X:Cx}{ts:List Expr}{is:List Nat}:CoeFun (w9 X ts is) fun _=>∀(pins:List (Addr×Obj))(s:Shared)(σ:SV)(H:Hp)(vs:List V)(us:List Value)(E:Value->Shared->Prop),Inv X pins σ H s->Vals vs us->vs.length=is.length ->
    wpAny (model X.prog X.w) X.A (assignInOrder ((assignEach ts X.env).map (·.2)) us) (fun _ s'=>Inv X pins ((is.zip vs).foldl (fun σ q=>σ.set q.1 (some q.2)) σ) H s') E s:=⟨w9.run'⟩
theorem xc:w9 X [] []:=by
  refine⟨?_⟩;intro pins s σ H vs us E I r hl;cases r with
  | nil=>exact assignInOrder_nil I
  | cons _ _=>simp at hl
theorem mx{x:Str}{pos:Pos}{i:Nat}(hN:X.N.Nodup)(hi:X.N[i]?=some x)(hx:Loc X.env.scope x)(h2:w9 X es is)
    (hf:X.fn x=true\/X.env.scope.names.lookup x=some .local:=by first | exact .inl rfl | exact .inr rfl | assumption)
    (hs:(assignEach (.Name x pos::es) X.env).map (·.2)=assign (.Name x pos) X.env::(assignEach es X.env).map (·.2):=by rfl):w9 X (.Name x pos::es) (i::is):=by
  refine⟨?_⟩;intro pins s σ H vs us E I r hl;cases r with
  | nil=>simp at hl
  | cons r rr =>
    rw[hs];refine assignInOrder_cons (XQ (fB I hN hi hx r (fun s1 I1=>?_) hf));exact h2 pins s1 _ H _ _ E I1 rr (by simpa using hl)
theorem qP:∀{is:List Nat}{ps:List PV}{ρ ρ':ay},jy is ps ρ=some ρ'->is.length=ps.length
  | [],[],_,_,_=>rfl
  | [],_::_,_,_,h=>by cases h
  | _::_,[],_,_,h=>by cases h
  | _::is,_::ps,_,_,h=>by rw[VT,VT,qP (is:=is) (ps:=ps) h]
end
section
variable {X:Cx}{cl:Nat->Addr}
theorem mv(i:Nat){x:Str}{pos:Pos}(hN:X.N[i]?=some x:=by rfl)(hv:kK X.env.scope x:=by first | exact Or.inl rfl | exact Or.inr (Or.inl rfl) | exact Or.inr (Or.inr rfl)) (hd:(x ==("__debug__" : Str))=false:=by decide)
    (cU:(x ==("__classdict__" : Str))=false:=by decide):ME X cl (.Name x pos) (ae i):=IA hN hv hd cU
end
theorem bN{A:Around}{k:Nat}(hr:bH k A):A.units+64<cLine:=by have:=hr.un;omega
section
variable {P:Program}{w:World}{K:PySem.W.Frag}{mg:Str->Option Value}{base:Heap}{cl:Nat->Addr}
structure FG(P:Program)(w:World)(K:PySem.W.Frag)(mg:Str->Option Value)(base:Heap)(cl:Nat->Addr)(k:Nat)(x:Str)(n:Nat)(F:List PV->R PV):Prop where
  ex:∃(f:Addr)(fd:FuncData)(ps:List Str),mg x=some (.ref f)/\PySem.W.keepIn K (.ref f)=true/\ps.length=n/\d9 P w K mg base (hZ cl P w) k f fd ps (mS K cl n F)/\Binds K fd ps []
theorem FG.fn{k n:Nat}{F:List PV->R PV} (h:FG P w K mg base cl k x n F) :
    Fn (aV P w K mg base cl N qual scope f cd A outer s H E) cl k x n F:=⟨h.ex⟩
theorem mc{A:Around}{s:Shared}{k k' n:Nat}{F:List PV->R PV}{e:Expr}{es:List Expr}{p pos:Pos}
    (h:FG P w K mg base cl k x n F) (hr:bH k' (A.deeper (envOfC qual scope s.heap.objs.size f cd))) (inj:∀ c d,cl c=cl d->c=d) (ha:MA (aV P w K mg base cl N qual scope f cd A outer s H E) cl (e::es) g) (hk:k<=k':=by decide)
    (hl:(e::es).length=n:=by rfl) (hg:Gl (aV P w K mg base cl N qual scope f cd A outer s H E) x:=by rfl) (d4:(x ==("__debug__" : Str))=false:=by decide)
    (he:starEach (e::es) (aV P w K mg base cl N qual scope f cd A outer s H E).env=(false,eval e (aV P w K mg base cl N qual scope f cd A outer s H E).env)::starEach es (aV P w K mg base cl N qual scope f cd A outer s H E).env:=by rfl)
    (dD:(backTo pos (starEach es (aV P w K mg base cl N qual scope f cd A outer s H E).env)).any (·.1)=false:=by rfl) :
    ME (aV P w K mg base cl N qual scope f cd A outer s H E) cl (.Call (.Name x p) (e::es) [] pos) (aF F g) :=
  GD h.fn (hr.mono hk) hg rfl inj (fun b z=>absurd (show b∈([]:List Addr) from z) (by simp)) ha hl d4 he dD
structure bc(K:PySem.W.Frag)(mg:Str->Option Value)(x:Str)(st:Stmt)(f:Addr)(fd:FuncData):Prop where
  fn:wV K x x st f fd
  mg:mg x=some (.ref f)
theorem def_mk{h:Heap}{x:Str}{st:Stmt}{f:Addr}{oc:Value}{od an:Option Addr}{eQ:Array (Option Value)}{kV doc pm aK ct:Value}(X:K.In h)(G:h.Ns mainGlobals mg)(a:PySem.W.nsIn K mainGlobals x=some (some (.ref f)))
    (l:K.lookup f=some ⟨oc,od,.func (PySem.W.fnOf x x (b9 st) (ba st) (az st) .none kV doc pm an aK ct),eQ⟩) (c:PySem.W.codeIn K aK x=true) (k:PySem.W.keepIn K (.ref f)=true) :
    ∃ f fd,bc K mg x st f fd:=⟨f,_,AG l c k,Xm X G a⟩
theorem bc.fg{x:Str}{st:Stmt}{f:Addr}{fd:FuncData}{N ps:List Str}{k n:Nat}{b:FS}(D:bc K mg x st f fd)(S:eo N ps (az st))(hn:ps.length=n)
    (hb:∀(kV doc pm:Value)(an:Option Addr)(aK ct:Value)(us:List Value),us.length=ps.length->bindArgs (PySem.W.fnOf x x (b9 st) (ba st) (az st) .none kV doc pm an aK ct) ⟨us,[]⟩=pure (ps.zip us))
    (dA:∀(aK:Value)(A:Around)(outer:List Env)(s:Shared)(H:Hp)(E:XK),bH k (A.deeper (envOfC x (az st) s.heap.objs.size f aK)) ->
      ia (aV P w K mg base cl N x (az st) f aK A outer s H E) cl (ba st) b):FG P w K mg base cl (k+1) x n (a9 N.length b) :=
  ⟨⟨f,fd,ps,D.mg,D.fn.kp,hn,sY D.fn S hn dA,D.fn.binds hb⟩⟩
noncomputable def ck(K:PySem.W.Frag)(x:Str):Addr:=match PySem.W.nsIn K mainGlobals x with
  | some (some (.ref a))=>a
  | _=>0
noncomputable def sumOf(K:PySem.W.Frag):List (Nat×Str)->Nat
  | []=>0
  | x::r=>ck K x.2+sumOf K r
noncomputable def g6(K:PySem.W.Frag)(names:List (Nat×Str))(c:Nat):Addr:=match names.lookup c with
  | some x=>ck K x
  | none=>sumOf K names+1+c
theorem lookup_mem:∀{names:List (Nat×Str)}{c:Nat}{x:Str},names.lookup c=some x->(c,x)∈names
  | [],_,_,h=>by cases h
  | (d,y)::r,c,x,h=>by
    rw[Wa]at h;by_cases e:c=d
    . subst e;simp at h;subst h;exact Wf
    . have:(c == d)=false:=by simpa using e
      rw[this]at h;exact V6 _ (lookup_mem h)
theorem mem_lookup:∀{names:List (Nat×Str)}{c:Nat}{x:Str},(names.map (·.1)).Nodup->(c,x)∈names->names.lookup c=some x
  | (d,y)::r,c,x,hn,h=>by
    rw[VZ,W3]at hn;rw[Wa];rcases WD.mp h with e | h2
    . cases e;simp
    . have:(c == d)=false:=by
        by_cases e:c=d
        . subst e;exact absurd (WU.mpr ⟨(c,x),h2,rfl⟩) hn.1
        . simpa using e
      rw[this];exact mem_lookup hn.2 h2
theorem pY{K:PySem.W.Frag}:∀{names:List (Nat×Str)}{c:Nat}{x:Str},(c,x)∈names->ck K x<=sumOf K names
  | y::r,c,x,h=>by
    rcases WD.mp h with e | h
    . subst e;exact Zr _ _
    . exact Wh (pY h) (Nat.le_add_left _ _)
theorem xf{α β:Type}{f:α->β}:∀{l:List α},(l.map f).Nodup->∀ a∈l,∀ b∈l,f a=f b->a=b
  | y::r,hn,a,ha,b,hb,e=>by
    rw[VZ,W3]at hn;rcases WD.mp ha with rfl | Be
    . rcases WD.mp hb with rfl | Jg
      . rfl
      . exact absurd (WU.mpr ⟨b,Jg,e.symm⟩) hn.1
    . rcases WD.mp hb with rfl | Jg
      . exact absurd (WU.mpr ⟨a,Be,e⟩) hn.1
      . exact xf hn.2 a Be b Jg e
theorem Dt{K:PySem.W.Frag}{names:List (Nat×Str)}(h:(names.map fun p=>ck K p.2).Nodup):∀ c d,g6 K names c=g6 K names d->c=d:=by
  intro c d e;unfold g6 at e;cases ec:names.lookup c with
  | none =>
    rw[ec]at e;cases ed:names.lookup d with
    | none=>rw[ed]at e;have e':sumOf K names+1+c=sumOf K names+1+d:=e;omega
    | some y=>rw[ed]at e;have e':sumOf K names+1+c=ck K y:=e;have:ck K y<=sumOf K names:=pY (K:=K) (lookup_mem ed);rw[<- e']at this;exact absurd (Wh (Zr _ _) this) (aar _)
  | some x =>
    rw[ec]at e;cases ed:names.lookup d with
    | none=>rw[ed]at e;have e':sumOf K names+1+d=ck K x:=e.symm;have:ck K x<=sumOf K names:=pY (K:=K) (lookup_mem ec);rw[<- e']at this;exact absurd (Wh (Zr _ _) this) (aar _)
    | some y =>
      rw[ed]at e;have:=xf h (c,x) (lookup_mem ec) (d,y) (lookup_mem ed) e
      cases this;rfl
theorem td:∀{ns:List Int}{x:Int},x∈ns->nb x<=PySem.W.WData.weightAll (ns.map PySem.W.WData.int)
  | y::r,x,h=>by
    have e:PySem.W.WData.weightAll ((y::r).map PySem.W.WData.int)=nb y+1+PySem.W.WData.weightAll (r.map PySem.W.WData.int):=by
      rw[VZ];simp only[PySem.W.WData.weightAll,PySem.W.WData.weight,Builtin.Int.intBits]
    rw[e];rcases WD.mp h with rfl | h
    . omega
    . have:=td h;omega
theorem wG{ns:List Int}(h:PySem.W.WData.layableAll [PySem.W.WData.list (ns.map PySem.W.WData.int)]=true):∀ x∈ns,nb x<=1048576:=by
  intro x hx;have h1:PySem.W.WData.layable (PySem.W.WData.list (ns.map PySem.W.WData.int))=true:=by
    simpa [PySem.W.WData.layableAll]using h
  have h2:PySem.W.WData.weight (PySem.W.WData.list (ns.map PySem.W.WData.int))<=2 ^ 20:=Wv (WV.mp h1).2;have e:PySem.W.WData.weight (PySem.W.WData.list (ns.map PySem.W.WData.int))=PySem.W.WData.weightAll (ns.map PySem.W.WData.int):=by simp only[PySem.W.WData.weight]
  rw[e]at h2;have:=td hx
  omega
end
noncomputable abbrev Nf:List Value:=[.type "ValueError",.type "Exception",.type "BaseException",.type "object"]
noncomputable def attrOk(K:PySem.W.Frag)(D:Addr):Bool:=(PySem.W.findIn K (.ref D) "__getattribute__" == some (some (.builtin "BaseException.__getattribute__")))&&(PySem.W.findIn K (.ref D) "__getattr__" == some none)&&(PySem.W.subIn K (.ref D) (.type "BaseException") == some true)&&(PySem.W.clsIn K D).isSome&&(PySem.W.findIn K (.ref D) "__class__" == some (some (.builtin "object.__class__"))) &&
  (PySem.W.specialIn K (.builtin "object.__class__") "__get__" == some (some (.builtin "getset_descriptor.__get__")))&&(PySem.W.takesIn K (.builtin "object.__class__") == some true)&&(PySem.W.mroIn K D (.type "object") == some true)
structure Jh(K:PySem.W.Frag)(mg:Str->Option Value)(cl:Nat->Addr)(c:Nat)(x:Str):Prop where
  mg:mg x=some (.ref (cl c))
  ex:PySem.W.excIn K (cl c) Nf "ValueError.__new__"=true
  at_:attrOk K (cl c)=true
theorem tm{K:PySem.W.Frag}{h:Heap}(X:K.In h)(q:PySem.W.excIn K C Rk newId=true) :
    ∃ bm N nm q bs hdct sn sub ab col dd k0 k1 k2 k3 k5 mN,h.get? C=some (excClassObj nm q C N bs bm hdct sn sub ab col dd k0 k1 k2 k3 k5 newId)/\h.Ns N mN/\mN "__init__"=none/\OwnTail h Rk bm:=by
  unfold PySem.W.excIn at q;split at q
  . rename_i dd cd sl ho;split at q
    . rename_i C' bm k0 k1 k2 k3 n k5 hm hs;simp only[VR,Wo,WZ]at q;obtain⟨⟨⟨⟨⟨rfl,rfl⟩,Ji⟩,ht⟩,bh⟩,xg⟩:=q;obtain⟨nm,bs,mro,ns,qn,hd,sn,sub,ab,col,del⟩:=cd;dsimp only at hm Ji bh xg;subst hm Ji;have es:sl=#[k0,k1,k2,k3,some (.builtin n),k5]:=by
        cases sl with | mk l=>simp only at hs;rw[hs]
      subst es;exact⟨bm,ns,nm,qn,bs,hd,sn,sub,ab,col,dd,k0,k1,k2,k3,k5,_,X _ _ ho,.of_isNs (PySem.W.isNs_of_in X bh),Zs X bh xg,PySem.W.tail_of_in X ht⟩
    . cases q
  . cases q
theorem wH(h:eB r=true):∃ i:Int,r=.ok (.int i)/\i.natAbs<18446744073709551616:=by
  cases r with
  | ok p=>cases p<;>first | (cases h;done) | (rename_i i;exact⟨i,rfl,Wv h⟩)
  | exc c=>cases h
  | stuck=>cases h
theorem digits_le(a:Int)(h:a.natAbs<18446744073709551616):(Str.ofString (toString a)).length<=21:=by
  have h1:a.natAbs<10 ^ 20:=Nat.lt_trans h (by decide);have:=int_text_length_le10 (k:=20) (by decide) h1
  rw[PySem.ofString_length];omega
section
variable {X:Cx}{cl:Nat->Addr}{pins:List (Addr×Obj)}{s:Shared}{σ:SV}{aA H0 Hf H aD H1:Hp}{ρ:ay}{α:Type}
structure MV(X:Cx)(cl:Nat->Addr)(e:Expr)(n:Nat)(c:ay->Bool):Prop where
  run':∀(pins:List (Addr×Obj))(s:Shared)(σ:SV)(aA H0 Hf H:Hp)(ρ:ay)(E:Value->Shared->Prop),Inv X pins σ H s->Rep X.K cl aA H0 Hf H σ ρ->c ρ=true ->
    wpAny (model X.prog X.w) X.A (eval e X.env) (fun u s'=>∃ x t ao H',u=.str x t/\x.length<=n/\Inv X pins σ H' s'/\Ext Hf H ao H') E s
noncomputable instance {X:Cx}{cl:Nat->Addr}{e:Expr}{n:Nat}{c:ay->Bool}:CoeFun (MV X cl e n c) fun _=>∀(pins:List (Addr×Obj))(s:Shared)(σ:SV)(aA H0 Hf H:Hp)(ρ:ay)(E:Value->Shared->Prop),Inv X pins σ H s->Rep X.K cl aA H0 Hf H σ ρ->c ρ=true ->
    wpAny (model X.prog X.w) X.A (eval e X.env) (fun u s'=>∃ x t ao H',u=.str x t/\x.length<=n/\Inv X pins σ H' s'/\Ext Hf H ao H') E s:=⟨MV.run'⟩
theorem c8{x:Str}{j:Nat}{pos:Pos}(n:Nat)(h:x.length<=n:=by decide +kernel):MV X cl (.Constant (.str x) j pos) n (fun _=>true):=⟨fun pins s σ aA H0 Hf H ρ E I r _ =>
  X0 ⟨x,_,Hf,H,rfl,h,I.tok _,Ext.refl r.sub⟩⟩
theorem jC{pos:Pos} (he:ME X cl e f):MV X cl (.FormattedValue e (-1) none pos) 21 (fun ρ=>eB (f ρ)):=by
  refine⟨?_⟩;intro pins s σ aA H0 Hf H ρ E I r hc;obtain⟨i,ei,hi⟩:=wH hc;refine FormattedValue_plain (VN (he pins s σ aA H0 Hf H ρ I r (by rw[ei];intro z;cases z)) (fun u s1 q=>?_) fun u s1 q=>?_)
  . obtain⟨p,v,aD,H1,e1,I1,rv,x1,rp⟩:=q;rw[ei]at e1;cases e1;cases rp;obtain⟨t,rfl⟩:=rv;have hl:i.natAbs.log2<1920:=by
      by_cases h0:i.natAbs=0
      . rw[h0];decide
      . have:=(abq h0).mpr (show i.natAbs<2 ^ 64 from hi);omega
    exact formatField_int_small hl ⟨_,_,aD,H1,rfl,digits_le i hi,I1.tok _,x1⟩
  . obtain⟨c,e1,_⟩:=q;rw[ei]at e1;cases e1
structure xh(X:Cx)(cl:Nat->Addr)(es:List Expr)(n:Nat)(c:ay->Bool):Prop where
  run':∀(pins:List (Addr×Obj))(s:Shared)(σ:SV)(aA H0 Hf H:Hp)(ρ:ay)(E:Value->Shared->Prop)(acc:Str)(Q:Str->Shared->Prop),Inv X pins σ H s->Rep X.K cl aA H0 Hf H σ ρ->c ρ=true->acc.length+n<=sizeLine ->
    (∀ out s' ao H',out.length<=acc.length+n->Inv X pins σ H' s'->Ext Hf H ao H'->Q out s')->Joins (model X.prog X.w) X.A E (evalEach es X.env) acc Q s
noncomputable instance {X:Cx}{cl:Nat->Addr}{es:List Expr}{n:Nat}{c:ay->Bool}:CoeFun (xh X cl es n c) fun _=>∀(pins:List (Addr×Obj))(s:Shared)(σ:SV)(aA H0 Hf H:Hp)(ρ:ay)(E:Value->Shared->Prop)(acc:Str)(Q:Str->Shared->Prop),Inv X pins σ H s->Rep X.K cl aA H0 Hf H σ ρ->c ρ=true->acc.length+n<=sizeLine ->
    (∀ out s' ao H',out.length<=acc.length+n->Inv X pins σ H' s'->Ext Hf H ao H'->Q out s')->Joins (model X.prog X.w) X.A E (evalEach es X.env) acc Q s:=⟨xh.run'⟩
theorem j5:xh X cl [] 0 (fun _=>true):=⟨fun pins s σ aA H0 Hf H ρ E acc Q I r _ _ k=>k acc s Hf H (VU _) I (Ext.refl r.sub)⟩
theorem cz{c d:ay->Bool} (h:MV X cl e n c) (ht:xh X cl es m d) (he:evalEach (e::es) X.env=eval e X.env::evalEach es X.env:=by rfl):xh X cl (e::es) (n+m) (fun ρ=>c ρ&&d ρ):=by
  refine⟨?_⟩;intro pins s σ aA H0 Hf H ρ E acc Q I r hc hz k;rw[VR]at hc;rw[he];refine VN (h pins s σ aA H0 Hf H ρ E I r hc.1) (fun u s1 q=>?_) fun _ _ z=>z;obtain⟨x,t,aD,H1,rfl,hl,I1,x1⟩:=q;have e1:(acc++x).length=acc.length+x.length:=strLen_append ..
  refine⟨x,t,rfl,by rw[e1];omega,ht pins s1 σ aA H0 aD H1 ρ E (acc++x) Q I1 (r.keep x1) hc.2 (by rw[e1];omega) fun out s' ao H' Bf I' x'=>k out s' ao H' (by rw[e1]at Bf;omega) I' (x1.trans x')⟩
theorem j6{a b:Expr}{es:List Expr}{c:ay->Bool}{pos:Pos}(h:xh X cl (a::b::es) n c)(hn:n<=1000:=by decide):MV X cl (.JoinedStr (a::b::es) pos) n c:=by
  refine⟨?_⟩;intro pins s σ aA H0 Hf H ρ E I r hc;have h0:(Str.empty).length=0:=rfl
  have hs:n<=sizeLine:=Wh hn (by decide);refine wpAny_JoinedStr (h pins s σ aA H0 Hf H ρ E _ _ I r hc (by rw[h0];omega) fun out s' ao H' hl I' x'=>?_);rw[h0]at hl;exact⟨by omega,out,_,ao,H',rfl,by omega,I'.tok _,x'⟩
theorem Bg(W:Own X)(I:Inv X pins σ H s){h':Heap}(k:∀ b o,s.heap.get? b=some o->h'.get? b=some o):pE X pins H (PySem.W.hideAll s.heap (fM X.stack)) h':=by
  intro b o e hs hn;obtain⟨o',q⟩:=nG W I hs;have:=k b o' q
  rw[e]at this;cases this;exact aaD _ q hn
theorem va(W:Own X)(I:Inv X pins σ H s){e C:Addr}(hm:Heap.MadeExcOf s.heap h' e (.ref C) vs):mP X pins H e C h':=by
  obtain⟨t,he,_,_⟩:=hm.there;refine⟨PySem.W.hideAll s.heap (fM X.stack),.ref t,Bg W I hm.keeps,⟨_,he,rfl⟩,.inl ⟨fun b o q=>hm.keeps b o (Y2 _ q),?_,?_,_,_,he,rfl,rfl,rfl,rfl,rfl⟩⟩
  . cases q:(PySem.W.hideAll s.heap (fM X.stack)).get? e with
    | none=>rfl
    | some o=>have:=Y2 _ q;rw[hm.new]at this;cases this
  . refine Heap.FunFrames.of_keeps (fun b o q _=>⟨o,hm.keeps b o q,rfl⟩) (PySem.W.funFrames_hide I.stack fun env he a ha=>?_);exact Y3.mpr ⟨env,he,ha⟩
theorem dq{k:ay->Bool}{np cpos pos:Pos} (hc:Jh X.K X.mg cl c x) (W:Own X) (hg:Gl X x) (hh:X.A.handled=none) (he:MV X cl e n k)
    (dE:starEach [e] X.env=[(false,eval e X.env)]:=by rfl) (d4:(x ==("__debug__" : Str))=false:=by decide) :
    MS X cl (.Raise (some (.Call (.Name x np) [e] [] cpos)) none pos) (cJ k c):=by
  refine⟨?_⟩;intro pins s σ aA H0 Hf H ρ I r hs;have hk:k ρ=true:=by
    cases q:k ρ with
    | true=>rfl
    | false=>exact absurd (by unfold cJ;rw[q];rfl) hs
  have e0:cJ k c ρ=.exc c ρ:=by unfold cJ;rw[hk];rfl
  rw[e0];obtain⟨bm,N,nm,q,bs,hdct,sn,sub,ab,col,dd,k0,k1,k2,k3,k5,mN,hC,hN,xg,T⟩:=tm I.ok.mod.mM hc.ex;refine wpAny_Raise_call_subT (C:=cl c) (nm:=nm) (q:=q) (N:=N) (bs:=bs) (bm:=bm) (hdct:=hdct) (sn:=sn) (sub:=sub) (ab:=ab) (col:=col) (dd:=dd) (k0:=k0) (k1:=k1) (k2:=k2) (k3:=k3) (k5:=k5)
    XH (mN:=mN) (T.hasType XH.hasBase) hh (by rw[dE];rfl) xg (fj I hg hc.mg ⟨rfl,?_⟩ d4)
  rw[dE];refine Xe ?_;show wpAny _ _ (spliced ((false,eval e X.env)::backTo cpos [])) _ _ s
  refine WA (VN (he pins s σ aA H0 Hf H ρ _ I r hk) (fun u s1 q1=>WY ?_) fun _ _ z=>z);obtain⟨y,t,aD,H1,rfl,hl,I1,x1⟩:=q1;refine⟨rfl,by show 1<=sizeLine;decide,I1.bk _ _ hC,hN.keeps I1.bk,T.keeps I1.bk,fun h' ee hm=>?_⟩
  exact⟨c,ρ,σ,aD,H1,ee,rfl,rfl,I1.kept (t':=s1.toks) hm.keeps,r.keep x1,x1.bw,va W I1 hm⟩
end
structure gd(K:PySem.W.Frag)(mg:Str->Option Value)(cl:Nat->Addr)(names:List (Nat×Str)):Prop where
  cls:∀ c x,(c,x)∈names->Jh K mg cl c x
  Ng:∀ c x d y,(c,x)∈names->(d,y)∈names->PySem.W.kitOne K (.ref (cl c)) (.ref (cl d))=some (under c d)
  Rl:∀ c x d y,(c,x)∈names->(d,y)∈names->PySem.W.exmOne K (.ref (cl c)) (.ref (cl d))=some (under c d)
  aU:∀ d y,(d,y)∈names->PySem.W.kitOne K (.type "NoneType") (.ref (cl d))=some false
  val:∀ c x,(c,x)∈names->PySem.W.kitOne K (.ref (cl c)) (.type "ValueError")=some true
theorem vb{names:List (Nat×Str)}{c:Nat}(h:(names.map (·.1)).contains c=true):∃ x,(c,x)∈names:=by
  rw[WO,WU]at h;obtain⟨⟨a,b⟩,h1,h2⟩:=h;cases h2;exact⟨b,h1⟩
section
variable {prog:Program}{w:World}{A:Around}{E:Value->Shared->Prop}{s:Shared}{K:PySem.W.Frag}{x D:Addr}{ox:Obj}
theorem Bh{Q:Option Value->Shared->Prop}(X:K.In s.heap)(I:PySem.W.InstAt s.heap x ox D none) (Jj:PySem.W.findIn K (.ref D) "__getattribute__"=some (some (.builtin "BaseException.__getattribute__")))
    (Jk:PySem.W.findIn K (.ref D) "__getattr__"=some none) (vc:PySem.W.subIn K (.ref D) (.type "BaseException")=some true)
    (hf:PySem.W.findObj K D none "__class__"=some (.bind (.builtin "getset_descriptor.__get__") (.builtin "object.__class__"))) (hm:PySem.W.mroIn K D (.type "object")=some true)
    (h:Q (some (.ref D)) { s with toks:=s.toks+1 }):wpAny (model prog w) A (getAttr? (.ref x) "__class__") Q E s:=by
  obtain⟨hh,g,d,t,os⟩:=s;have L0:=I.type (M:=model prog w)
  have L1:=Yb (M:=model prog w) X Jj;have L2:=Yb (M:=model prog w) X Jk
  have L3:=PySem.W.looks_subIn (M:=model prog w) X vc;have L4:=PySem.W.looks_find (M:=model prog w) X I hf
  have slot:=PySem.F.attr_ValueError.ga;unfold getAttr? getAttrBy? getAttrBy;refine V0 (wpAny_mkText (V0 (wpAny_attempt (Yh (V0 (L0.at (V0 (L1.at ?_))))))));have Rm:(onTheHeap (Value.ref D)&&Value.builtin "BaseException.__getattribute__" == Value.builtin "object.__getattribute__")=false:=by
    have:(Value.builtin "BaseException.__getattribute__" == Value.builtin "object.__getattribute__")=false:=by decide +kernel
    rw[this];rfl
  show wpAny _ _ (if (onTheHeap (Value.ref D)&&Value.builtin "BaseException.__getattribute__" == Value.builtin "object.__getattribute__")=true then _ else getAttrByItsOwn _ _ _ _ _ _) _ _ _;rw[Rm,VQ W5];unfold getAttrByItsOwn;refine V0 ?_;show wpAny _ _ (typeLookup (.ref D) "__getattr__") _ _ _
  refine L2.at ?_;refine V0 (wpAny_attempt (Yh ?_));show wpAny _ _ (boundAndCalled _ _ _) _ _ _
  unfold boundAndCalled;rw[slot.bind];refine V0 (Ws ?_);show wpAny _ _ (call (.builtin "BaseException.__getattribute__") [.ref x,.str "__class__" t]) _ _ _
  refine XS (codeAny_call_builtin slot.plain PySem.F.entry_bexc_ga ?_);have hk:builtinKind "BaseException.__getattribute__"=some .slot:=by decide +kernel
  have Jl:splitId "BaseException.__getattribute__"=some ("BaseException","__getattribute__"):=by decide +kernel
  have Nh:=PySem.F.args_bexc_ga (.ref x) (.str "__class__" t);simp only[checkBuiltinCall,hk,Jl];unfold isInstance;refine V0 ?_;refine V0 (L0.at ?_);refine L3.at ?_;simp only[W0,WB,Xr];unfold argsOk at Nh
  first
    | rw[Nh]
    | skip
  refine Ws ?_;refine V0 (Ws (V0 (Ws (V0 (L0.at (V0 (L4.at ?_)))))));show wpAny _ _ (holding _ (call (.builtin "getset_descriptor.__get__") [.builtin "object.__class__",.ref x,.ref D]) >>= _) _ _ _
  refine V0 (Yh (XS (PySem.W.class_get (ox:=ox) (od:=none) X I hm ?_)));exact Ws (PySem.W.handed_on rfl (Ws h))
end
section
variable {K:PySem.W.Frag}{D x:Addr}
theorem Du(hD:attrOk K D=true):PySem.W.KitX K (.ref x) (.ref D) (fun h=>∃ ox,PySem.W.InstAt h x ox D none):=by
  unfold attrOk at hD;simp only[VR,Wo]at hD;obtain⟨⟨⟨⟨⟨⟨⟨Jj,Jk⟩,vc⟩,hc⟩,ha⟩,hn⟩,Rn⟩,hm⟩:=hD;obtain⟨cd,cU⟩:=Zi.mp hc;have obj:∃ c' d' qB,K.lookup D=some ⟨c',d',.cls cd,qB⟩:=by
    unfold PySem.W.clsIn at cU;split at cU
    . rename_i c' d' VC qB ho;cases cU;exact⟨c',d',qB,ho⟩
    . cases cU
  obtain⟨c',d',qB,ho⟩:=obj;have hf:PySem.W.findObj K D none "__class__"=some (.bind (.builtin "getset_descriptor.__get__") (.builtin "object.__class__")):=by
    unfold PySem.W.findObj;rw[cU,Option.bind_some,ha,Option.bind_some];simp[hn,Rn]
  refine⟨fun M h _ ⟨ox,I⟩=>I.type,fun M h X _ A Q E s k q=>?_,fun h tp dd its n sl X Ro=>?_,fun{prog w A E Q s} X ⟨ox,I⟩ k=>?_⟩
  . unfold isType loadHead;exact V0 (wpAny_loadPart (k _ _ (X _ _ ho)) (Ws q))
  . refine Bool.eq_false_iff.mpr fun q=>?_;have e:D=tp:=Value.ref.inj (Wo.mp q)
    subst e;have z:=(X _ _ ho).symm.trans Ro
    cases z
  . exact Bh X I Jj Jk vc hf hm k
end
section
variable {X:Cx}{cl:Nat->Addr}{pins:List (Addr×Obj)}{s:Shared}{σ:SV}{aA H0 Hf H aD H1:Hp}{ρ:ay}{α:Type}
theorem GI(I:Inv X pins σ H s)(sm:aO Hf H)(h:Hf a=some (uR a (cl c))):∃ ox,PySem.W.InstAt s.heap a ox (cl c) none:=by
  obtain⟨⟨o,vs,h1,h2,h3,h4⟩,_,_⟩:=I.bh a _ (sm _ _ h);refine⟨o,h1,h2,?_,?_⟩
  . unfold PySem.W.notCls;rw[h4]
  . rw[h3];trivial
theorem kQ{b:Bool}{E:Value->Shared->Prop} (I:Inv X pins σ H s) (sm:aO Hf H) (rv:RelV v u) (rp:Rp X.K cl Hf v p)
    (hb:(∃ c,p=.exc c/\attrOk X.K (cl c)=true/\PySem.W.kitOne X.K (.ref (cl c)) cv=some b)\/(p=.aU/\PySem.W.kitOne X.K (.type "NoneType") cv=some b)) :
    wpAny (model X.prog X.w) X.A (call (.builtin "isinstance") [u,cv]) (eU X cl pins σ Hf H (.ok (.bl b))) E s:=by
  have fin:∀ tk,eU X cl pins σ Hf H (.ok (.bl b)) (.bool b) { s with toks:=tk }:=fun tk=>⟨.bl b,.bl b,Hf,H,rfl,I.tok _,rfl,Ext.refl sm,.bl b⟩;rcases hb with⟨c,rfl,ha,hk⟩ | ⟨rfl,hk⟩
  . cases rp with
    | exc hq =>
      cases rv;exact Xg (Du ha) I.dR (GI I sm hq) hk (fun z=>nomatch z) fin
  . cases rp;cases rv;exact Xg PySem.W.kitx_none I.dR True.intro hk (fun z=>nomatch z) fin
theorem fZ{names:List (Nat×Str)} (C:gd X.K X.mg cl names) {d:Nat}{y:Str}{p p2 pos:Pos} (hy:(d,y)∈names) (he:ME X cl e f) (hg:Gl X "isinstance") (hm:X.mg "isinstance"=none) (A9:Gl X y)
    (d4:(y ==("__debug__" : Str))=false:=by decide)
    (dE:starEach [e,.Name y p2] X.env=[(false,eval e X.env),(false,eval (.Name y p2) X.env)]:=by rfl) (nP:starEach [.Name y p2] X.env=[(false,eval (.Name y p2) X.env)]:=by rfl) :
    ME X cl (.Call (.Name "isinstance" p) [e,.Name y p2] [] pos) (gh (names.map (·.1)) d f):=by
  refine⟨?_⟩;intro pins s σ aA H0 Hf H ρ I r hs;unfold gh at hs ⊢;refine WJ (jx I hg hm boot_isinstance ?_);refine Xs ?_ (by rw[dE,nP]) (by rw[nP];rfl);rw[dE];show wpAny _ _ (spliced ((false,eval e X.env)::backTo pos [(false,eval (.Name y p2) X.env)])) _ _ s
  refine WA (he.run I r (Ext.refl r.sub) hs fun q v u s1 aD H1 e1 I1 rv x1 rp=>?_);rw[e1]at hs ⊢;show wpAny _ _ (spliced ((false,eval (.Name y p2) X.env)::[])) _ _ s1
  refine WA (fj I1 A9 (C.cls d y hy).mg (WY ?_) d4);cases q<;>first
    | exact absurd rfl hs
    | skip
  . exact ft (kQ I1 x1.sub rv rp (.inr ⟨rfl,C.aU d y hy⟩)) fun _ _ q=>q.from (e0:=x1)
  . rename_i c;have cu:(if (names.map (·.1)).contains c=true then R.ok (PV.bl (under c d)) else R.stuck)≠.stuck:=hs
    obtain⟨hc,e2⟩:=cX cu;obtain⟨x,hx⟩:=vb hc;show wpAny _ _ _ (eU X cl pins σ Hf H (if (names.map (·.1)).contains c=true then R.ok (PV.bl (under c d)) else R.stuck)) _ s1
    rw[e2];exact ft (kQ I1 x1.sub rv rp (.inl ⟨c,rfl,(C.cls c x hx).at_,C.Ng c x d y hx hy⟩)) fun _ _ q=>q.from (e0:=x1)
theorem wI:PySem.W.kitOne X.K (.type "NoneType") (.type "ValueError")=some false:=by rfl
theorem Dv{names:List (Nat×Str)} (C:gd X.K X.mg cl names) {p p2 pos:Pos} (he:ME X cl e f) (hg:Gl X "isinstance") (hm:X.mg "isinstance"=none) (A9:Gl X "ValueError") (Jd:X.mg "ValueError"=none)
    (dE:starEach [e,.Name "ValueError" p2] X.env=[(false,eval e X.env),(false,eval (.Name "ValueError" p2) X.env)]:=by rfl) (nP:starEach [.Name "ValueError" p2] X.env=[(false,eval (.Name "ValueError" p2) X.env)]:=by rfl) :
    ME X cl (.Call (.Name "isinstance" p) [e,.Name "ValueError" p2] [] pos) (qF (names.map (·.1)) f):=by
  refine⟨?_⟩;intro pins s σ aA H0 Hf H ρ I r hs;unfold qF at hs ⊢;refine WJ (jx I hg hm boot_isinstance ?_);refine Xs ?_ (by rw[dE,nP]) (by rw[nP];rfl);rw[dE];show wpAny _ _ (spliced ((false,eval e X.env)::backTo pos [(false,eval (.Name "ValueError" p2) X.env)])) _ _ s
  refine WA (he.run I r (Ext.refl r.sub) hs fun q v u s1 aD H1 e1 I1 rv x1 rp=>?_);rw[e1]at hs ⊢;show wpAny _ _ (spliced ((false,eval (.Name "ValueError" p2) X.env)::[])) _ _ s1
  refine WA (jx I1 A9 Jd PyProof.Rows.Boot.«ValueError» (WY ?_));cases q<;>first
    | exact absurd rfl hs
    | skip
  . exact ft (kQ I1 x1.sub rv rp (.inr ⟨rfl,wI⟩)) fun _ _ q=>q.from (e0:=x1)
  . rename_i c;have cu:(if (names.map (·.1)).contains c=true then R.ok (PV.bl true) else R.stuck)≠.stuck:=hs
    obtain⟨hc,e2⟩:=cX cu;obtain⟨x,hx⟩:=vb hc;show wpAny _ _ _ (eU X cl pins σ Hf H (if (names.map (·.1)).contains c=true then R.ok (PV.bl true) else R.stuck)) _ s1
    rw[e2];exact ft (kQ I1 x1.sub rv rp (.inl ⟨c,rfl,(C.cls c x hx).at_,C.val c x hx⟩)) fun _ _ q=>q.from (e0:=x1)
theorem xi{E:Value->Shared->Prop}{i:Nat}{x:Str}{pos:Pos}{v:V}{Q:Value->Shared->Prop} (I:Inv X pins σ H s) (hN:X.N[i]?=some x) (hv:kK X.env.scope x) (e:σ[i]?=some (some v)) (h:∀ u,RelV v u->Q u s)
    (hd:(x ==("__debug__" : Str))=false:=by decide) (cU:(x ==("__classdict__" : Str))=false:=by decide):wpAny M A (eval (.Name x pos) X.env) Q E s:=by
  obtain⟨m,hn,hl⟩:=I.loc;obtain⟨u,r,l⟩:=hl i x v hN e hv;rcases l with⟨hk,hm⟩ | ⟨hk,c,hc,ma⟩
  . exact YD (wpAny_loadName_local I.ok.kind hk hn hm (h u r)) hd
  . rcases hk with hk | hk
    . exact YD (wpAny_loadName_cell I.ok.kind hk hc ma (h u r)) hd
    . exact YD (wpAny_loadName_free I.ok.kind hk hc ma (h u r) cU) hd
theorem Dw{E:Value->Shared->Prop}{i:Nat}{x:Str}{Q:Unit->Shared->Prop} (I:Inv X pins σ H s) (hN:X.N.Nodup) (hi:X.N[i]?=some x) (hk:X.env.scope.names.lookup x=some .local)
    (h:∀ s',Inv X pins (σ.set i none) H s'->Q () s'):wpAny M A (do bindName X.env x .none;unbindBehindTheSuite X.env x pos) Q E s:=by
  obtain⟨m,hn,hl⟩:=id I.loc;have hcls:(X.env.scope.kind == .class||(X.env.scope.kind == .module&&X.env.locals != X.env.globals))=false:=by rw[I.ok.kind];rfl
  refine wpAny_nameGoes_keeps hk hn hcls fun h' v uC hs=>?_;obtain⟨oL,_,_,MQ,_⟩:=id hn;have old:∀ b o,X.s₀.heap.get? b=some o->h'.get? b=s.heap.get? b:=fun b o e=>hs.2 b (Wz (Wc (V8 e) I.ok.above))
  have Dg:eL X.prog X.w H h':=fun b ob e=>by
    have nl:∀ c,(c=b\/H c=some (.own b))->c≠X.env.locals:=fun c hc z=>by
      subst z;rcases hc with rfl | hc
      . rw[I.free]at e;cases e
      . rw[I.free]at hc;cases hc
    exact(I.bh b ob e).ng (fun c w' hc q=>by rw[hs.2 c (nl c hc)];exact q) (fun _ q=>q) fun _ _ q=>q
  refine h _ ⟨I.ok,I.os,I.bare,⟨fun b o e n hb hx=>?_,fun b o e n hb hx=>?_,I.base.free,fun b o e hx=>?_,I.base.ke,I.base.jK,I.base.kf⟩,⟨_,uC,fun j y v' e1 e2 e3=>?_⟩,fun y c e=>?_,I.free,I.fI,fun p hp=>?_,Dg,by simpa using I.len⟩
  . show h'.get? b=_;rw[old b o e];exact I.base.keep b o e n hb hx
  . obtain⟨sl,q⟩:=I.base.slot b o e n hb hx;exact⟨sl,by show h'.get? b=_;rw[old b o e];exact q⟩
  . obtain⟨o',q⟩:=I.base.there b o e hx;exact⟨o',by show h'.get? b=_;rw[old b o e];exact q⟩
  . by_cases hj:j=i
    . subst hj;rw[XO]at e2;by_cases hh:j<σ.length<;>simp[hh]at e2
    . rw[V4 (Xb hj)]at e2;obtain⟨u',r',q⟩:=hl j y v' e1 e2 e3;have ny:y≠x:=fun e=>hj (pM hN e1 (e ▸ hi))
      refine⟨u',r',?_⟩;rcases q with⟨k,e⟩ | ⟨k,c,e,z⟩
      . exact .inl ⟨k,by simp[ny,e]⟩
      . exact .inr ⟨k,c,e,z.sameBut hs (I.oX y c e)⟩
  . obtain⟨w',z⟩:=I.cell y c e;exact⟨w',z.sameBut hs (I.oX y c e)⟩
  . obtain⟨p1,p2,p3,p4,p5⟩:=I.pin p hp;exact⟨by show h'.get? p.1=_;rw[hs.2 p.1 p3];exact p1,p2,p3,p4,p5⟩
theorem Inv.adopt{e:Addr}(I:Inv X pins σ H s)(hH:H e=none)(h0:X.s₀.heap.get? e=none)(hL:e≠X.env.locals)(hC:∀ x c,X.env.cells.lookup x=some c->c≠e)(hP:∀ p∈X.pn++pins,p.1≠e)
    (new:dF X.prog X.w (upd H e o) s.heap e o):Inv X pins σ (upd H e o) s:=by
  have up:∀{b:Addr}{u:HO},H b=some u->(upd H e o) b=some u:=fun{b u} q=>by rw[a7 (fY q hH)];exact q
  refine⟨I.ok,I.os,I.bare,⟨I.base.keep,I.base.slot,fun b ob q n hx=>?_,I.base.there,fun b xs q=>up (I.base.ke b xs q),fun b ob u q=>up (I.base.jK b ob u q),fun b ps q=>?_⟩,I.loc,I.cell,?_,fun x c q=>?_,fun p hp=>?_,fun b u q=>?_,I.len⟩
  . rw[a7 (fun z=>by rw[z,h0]at q;cases q)];exact I.base.free b ob q n hx
  . obtain⟨more,q'⟩:=I.base.kf b ps q;exact⟨more,up q'⟩
  . rw[a7 (Xb hL)];exact I.free
  . rw[a7 (hC x c q)];exact I.fI x c q
  . obtain⟨p1,p2,p3⟩:=I.pin p hp;exact⟨p1,by rw[a7 (hP p hp)];exact p2,p3⟩
  . by_cases hb:b=e
    . subst hb;rw[bp]at q;cases q;exact new
    . rw[a7 hb]at q;exact(I.bh b u q).ng (fun c v _ q=>q) (fun c q=>up q) fun c xs q=>up q
theorem Bi(W:Own X)(I:Inv X pins σ H s)(mT:pE X pins H B s.heap)(nd:kL e s.heap)(fl:Heap.FlyingW B X.stack e (.ref (cl c)) a0 s.heap) :
    H e=none/\Inv X pins σ (upd H e (uR e (cl c))) s:=by
  obtain⟨f1,f2,f3,f4⟩:=fl;obtain⟨oe,vs,T,oT,ts,he,hc,hd,_⟩:=f4;obtain⟨o',q1,q2⟩:=nd;rw[he]at q1;cases q1;have Ni:e ∉ fM X.stack:=fun z=>by
    obtain⟨_,o,ho,nI⟩:=I.stack.mem z;rw[he]at ho;cases ho;exact nI vs hd
  have ns:¬ hV X pins H e:=fun z=>by
    have:=mT e oe he z Ni;rw[f2]at this;cases this
  have nH:H e=none:=by
    cases q:H e with
    | none=>rfl
    | some u=>exact absurd (.inl (by rw[q];intro z;cases z)) ns
  refine⟨nH,Mi.Inv.adopt I nH ?_ (fun z=>Ni ((jf W).mpr (.inl z))) (fun x c' q z=>ns (.inr (.inr (.inr ⟨x,z ▸ q⟩)))) (fun p hp z=>ns (.inr (.inl ⟨p,hp,z⟩))) ⟨⟨oe,vs,he,hc.1,q2,hd⟩,⟨oe,he⟩,?_⟩⟩
  . cases q:X.s₀.heap.get? e with
    | none=>rfl
    | some u=>exact absurd (.inr (.inr (.inl ⟨u,q⟩))) ns
  . rintro h1 h2 ⟨o,ws,a1,a2,a3,a4⟩ k;exact⟨o,ws,k o a1,a2,a3,a4⟩
end
noncomputable def qQ(K:PySem.W.Frag)(x:Str):Bool:=match PySem.W.nsIn K mainGlobals x with
  | some (some (.ref _))=>true
  | _=>false
theorem pZ{K:PySem.W.Frag}{x:Str}(h:qQ K x=true):PySem.W.nsIn K mainGlobals x=some (some (.ref (ck K x))):=by
  unfold qQ at h;unfold ck;split at h
  . rename_i a e;rw[e]
  . cases h
noncomputable def qR(K:PySem.W.Frag)(p q:Nat×Str):Bool:=PySem.W.kitOne K (.ref (ck K p.2)) (.ref (ck K q.2)) == some (under p.1 q.1)&&PySem.W.exmOne K (.ref (ck K p.2)) (.ref (ck K q.2)) == some (under p.1 q.1)
noncomputable def qS(K:PySem.W.Frag)(p:Nat×Str):Bool:=qQ K p.2&&PySem.W.excIn K (ck K p.2) Nf "ValueError.__new__" && attrOk K (ck K p.2)&&PySem.W.kitOne K (.ref (ck K p.2)) (.type "ValueError") == some true &&
  PySem.W.kitOne K (.type "NoneType") (.ref (ck K p.2)) == some false
noncomputable def yU:List Nat->Bool
  | []=>true
  | a::r=>!r.contains a&&yU r
theorem EU:∀{l:List Nat},yU l=true->l.Nodup
  | [],_=>X8
  | a::r,h=>by
    unfold yU at h;rw[VR]at h;refine W3.mpr ⟨fun z=>?_,EU h.2⟩;have:=WO.mpr z
    rw[this]at h;exact absurd h.1 (by decide)
section
variable {K:PySem.W.Frag}{mg:Str->Option Value}{names:List (Nat×Str)}{h:Heap}
theorem dM{c:Nat}{x:Str}(hn:(names.map (·.1)).Nodup)(hx:(c,x)∈names):g6 K names c=ck K x:=by
  unfold g6;rw[mem_lookup hn hx]
end
section
variable {X:Cx}{cl:Nat->Addr}
theorem cF{i:Int}{pos:Pos} (hg:Gl X x) (hm:∃ t,X.mg x=some (.int i t)) (hd:(x ==("__debug__" : Str))=false:=by decide):ME X cl (.Name x pos) (fC (.int i)):=by
  obtain⟨t,hm⟩:=hm;exact GB (v:=.int i) hg hm ⟨t,rfl⟩ (fun _=>.int i) hd
theorem at_mem{names:List (Nat×Str)}(i:Nat){p:Nat×Str}(h:names[i]?=some p):p∈names:=XR h
theorem qa:ME X cl e qG:=⟨fun _ _ _ _ _ _ _ _ _ _ h=>absurd rfl h⟩
end
section
variable {K:PySem.W.Frag}{cl:Nat->Addr}{aA H0 Hf H ao H':Hp}{σ:SV}{ρ:ay}
theorem Rep.freeze(r:Rep K cl aA H0 Hf H σ ρ){i:Nat}{l:List PV}(h:ρ[i]?=some (some (.own l))):∃ ao,Rep K cl aA H0 ao H σ (ρ.set i (some (.lst l)))/\aO Hf ao:=by
  obtain⟨v,hv,a,xs,rfl,ha,mW,tq,aT⟩:=r.slot i _ h;have sm:=dk mW (.lst xs)
  have hi:i<ρ.length:=(VS.mp h).1;refine⟨upd Hf a (.lst xs),⟨⟨r.ext.all,r.ext.bw.trans sm,fun b u q=>?_,fun b n=>?_⟩,fun j p hp=>?_,fun j k ps qs b h1 h2 h3 h4=>?_⟩,sm⟩
  . by_cases e:b=a
    . subst e;rw[bp]at q;cases q;exact ha
    . rw[a7 e]at q;exact r.ext.sub b u q
  . rw[a7 (fun e=>n (by rw[e];exact tq)),r.ext.old b n]
  . by_cases e:i=j
    . subst e;rw[Wg hi]at hp;cases hp;exact⟨_,hv,.lst (fV.of bp) (aT.keep sm)⟩
    . rw[V4 e]at hp;obtain⟨w,hw,sl⟩:=r.slot j p hp;refine⟨w,hw,?_⟩;cases p with
      | own qs =>
        obtain⟨b,ys,rfl,h1,h2,h3,h4⟩:=sl;have nb:b≠a:=fun z=>by subst z;exact e (r.dist i j _ _ _ h hp hv hw)
        exact⟨b,ys,rfl,h1,by rw[a7 nb];exact h2,h3,h4.keep sm⟩
      | _=>exact Rp.keep sm sl
  . have back:∀{m:Nat}{l':List PV},(ρ.set i (some (.lst l)))[m]?=some (some (.own l'))->ρ[m]?=some (some (.own l')):=fun{m l'} hm=>by
      by_cases e:i=m
      . subst e;rw[Wg hi]at hm;cases hm
      . rw[V4 e]at hm;exact hm
    exact r.dist j k ps qs b (back h1) (back h2) h3 h4
theorem Rep.store(r:Rep K cl aA H0 Hf H σ ρ){i:Nat}{l l':List PV}{a:Addr}(h:ρ[i]?=some (some (.own l)))(hv:σ[i]?=some (some (.ref a)))(mW:Hf a=none)(tq:H0 a=none)(ry:bB K cl Hf ys l') :
    Rep K cl aA H0 Hf (upd H a (.lst ys)) σ (ρ.set i (some (.own l'))):=by
  have hi:i<ρ.length:=(VS.mp h).1;have same:∀{G:Hp},G a=none->aO G H->aO G (upd H a (.lst ys)):=fun{G} g s b u q=>by
    rw[a7 (fun e=>by rw[e,g]at q;cases q)];exact s b u q
  refine⟨⟨same tq r.ext.all,r.ext.bw,same mW r.ext.sub,r.ext.old⟩,fun j p hp=>?_,fun j k ps qs b h1 h2 h3 h4=>?_⟩
  . by_cases e:i=j
    . subst e;rw[Wg hi]at hp;cases hp;exact⟨_,hv,a,ys,rfl,bp,mW,tq,ry⟩
    . rw[V4 e]at hp;obtain⟨w,hw,sl⟩:=r.slot j p hp;refine⟨w,hw,?_⟩;cases p with
      | own qs =>
        obtain⟨b,zs,rfl,h1,h2,h3,h4⟩:=sl;have nb:b≠a:=fun z=>by subst z;exact e (r.dist i j _ _ _ h hp hv hw)
        exact⟨b,zs,rfl,by rw[a7 nb];exact h1,h2,h3,h4⟩
      | _=>exact sl
  . have back:∀{m:Nat}{Nj:List PV},(ρ.set i (some (.own l')))[m]?=some (some (.own Nj))->∃ l3,ρ[m]?=some (some (.own l3)):=fun{m Nj} hm=>by
      by_cases e:i=m
      . subst e;exact⟨_,h⟩
      . rw[V4 e]at hm;exact⟨_,hm⟩
    obtain⟨_,g1⟩:=back h1;obtain⟨_,g2⟩:=back h2;exact r.dist j k _ _ b g1 g2 h3 h4
theorem Rep.own(r:Rep K cl aA H0 Hf H σ ρ)(i:Nat){a:Addr}{xs:List V}(ha:H a=some (.lst xs))(mW:Hf a=none)(tq:H0 a=none)(aT:bB K cl Hf xs l)(hl:i<σ.length)
    (nw:∀(j:Nat)(qs:List PV),ρ[j]?=some (some (.own qs))->σ[j]?≠some (some (.ref a))):Rep K cl aA H0 Hf H (σ.set i (some (.ref a))) (ρ.set i (some (.own l))):=by
  refine⟨r.ext,fun j p hp=>?_,fun j k ps qs b h1 h2 h3 h4=>?_⟩
  . by_cases e:i=j
    . subst e;have hi:i<ρ.length:=by
        rw[XO]at hp;by_cases hh:i<ρ.length
        . exact hh
        . simp[hh]at hp
      rw[Wg hi]at hp;cases hp;exact⟨_,Wg hl,a,xs,rfl,ha,mW,tq,aT⟩
    . rw[V4 e]at hp;obtain⟨w,hw,sl⟩:=r.slot j p hp;exact⟨w,by rw[V4 e];exact hw,sl⟩
  . by_cases e:i=j
    . by_cases e':i=k
      . exact e.symm.trans e'
      . subst e;rw[Wg hl]at h3;cases h3;rw[V4 e']at h2 h4;exact absurd h4 (nw k _ h2)
    . by_cases e':i=k
      . subst e';rw[Wg hl]at h4;cases h4;rw[V4 e]at h1 h3;exact absurd h3 (nw j _ h1)
      . rw[V4 e]at h1 h3;rw[V4 e']at h2 h4;exact r.dist j k _ _ b h1 h2 h3 h4
end
section
variable {X:Cx}{cl:Nat->Addr}
theorem yV{st:List Stmt}{g:FS}(i:Nat)(h:ia X cl st g):ia X cl st (oC i g):=by
  refine⟨?_⟩;intro pins s σ aA H0 Hf H ρ I r hs;unfold oC at hs ⊢;split at hs
  . next l e =>
    obtain⟨ao,r',sm⟩:=r.freeze e;exact VN (h pins s σ aA H0 ao H _ I r' hs) (fun _ _ q=>nK.from sm q) fun _ _ q=>iU.from sm q
  . next hn =>
    exact h pins s σ aA H0 Hf H _ I r hs
end
def Bj(X:Cx)(cl:Nat->Addr)(pins:List (Addr×Obj))(σ:SV)(Hf H:Hp)(r:R PV)(u:Value)(s:Shared):Prop :=
  ∃ ps a xs ao H',r=.ok (.lst ps)/\Inv X pins σ H' s/\u=.ref a/\Ext Hf H ao H'/\H' a=some (.lst xs)/\ao a=none/\H a=none/\bB X.K cl ao xs ps
structure MF(X:Cx)(cl:Nat->Addr)(e:Expr)(f:FE):Prop where
  run':∀(pins:List (Addr×Obj))(s:Shared)(σ:SV)(aA H0 Hf H:Hp)(ρ:ay),Inv X pins σ H s->Rep X.K cl aA H0 Hf H σ ρ->f ρ≠.stuck ->
    wpAny (model X.prog X.w) X.A (eval e X.env) (Bj X cl pins σ Hf H (f ρ)) (bW X cl pins σ Hf H (f ρ)) s
section
variable {X:Cx}{cl:Nat->Addr}
theorem vd(e:Ext Hf H aD H1){a:Addr}(h:H1 a=none):H a=none:=by
  cases q:H a with
  | none=>rfl
  | some o=>rw[e.all a o q]at h;cases h
theorem Bj.from{e0:Ext Hf H aD H1} (h:Bj X cl pins σ aD H1 r u s'):Bj X cl pins σ Hf H r u s':=by
  obtain⟨ps,a,xs,ao,H',e1,I',e2,ex,g1,g2,g3,aT⟩:=h;exact⟨ps,a,xs,ao,H',e1,I',e2,e0.trans ex,g1,g2,vd e0 g3,aT⟩
theorem Jm{pos:Pos} (h:MA X cl es f):MF X cl (.List es pos) (cB f):=by
  refine⟨?_⟩;intro pins s σ aA H0 Hf H ρ I r hs;unfold cB at hs ⊢;refine wpAny_List_spliced (h.run pos I r (Ext.refl r.sub) hs fun ps vs us s1 aD H1 _ e1 I1 rv x1 aT=>?_);rw[e1]at hs ⊢;obtain⟨hz,e2⟩:=cX hs;rw[e2];have z:vs.length<=sizeLine:=by rw[aT.length];exact hz
  refine⟨by rw[<- rv.length];exact z,?_⟩;have hf:H1 s1.heap.objs.size=none:=I1.bh.fresh (VU _)
  refine Bj.from (e0:=x1) ⟨_,_,vs,aD,_,rfl,I1.laid (t':=s1.toks) (o:=.lst vs) (fun b u e=>VW _ e) (VU _) ?_,rfl,Ext.yJ x1.sub hf _,bp,x1.sub.free hf,hf,aT⟩;exact⟨z,us,0,rv,Wi _ rfl⟩
theorem Jn{i:Nat}{x:Str}{pos pos':Pos}(hN:X.N.Nodup)(hi:X.N[i]?=some x)(hx:Loc X.env.scope x)(he:MF X cl e f)(ib:swapsWith e (some (.Name x pos')) pos.line X.env=pure false:=by rfl)
    (hf:X.fn x=true\/X.env.scope.names.lookup x=some .local:=by first | exact .inl rfl | exact .inr rfl | assumption):MS X cl (.Assign [.Name x pos'] e pos) (uP i f):=by
  refine⟨?_⟩;intro pins s σ aA H0 Hf H ρ I r hs;unfold uP at hs ⊢;have Rq:f ρ≠.stuck:=fun z=>hs (by rw[z];rfl)
  refine Yu (VN (he.run' pins s σ aA H0 Hf H ρ I r Rq) (fun u s1 q=>?_) fun u s1 q=>?_) ib
  . obtain⟨ps,a,xs,aD,H1,e1,I1,rfl,x1,g1,g2,g3,aT⟩:=q;rw[e1];have hl:i<σ.length:=by rw[I.len];exact(VS.mp hi).1
    have h0:H0 a=none:=vd r.ext g3;refine fB (v:=.ref a) I1 hN hi hx rfl (fun s2 I2=>⟨_,_,aD,H1,rfl,I2,(r.keep x1).own i g1 g2 h0 aT hl ?_,x1.bw⟩) hf;intro j qs hj hσ;obtain⟨w,hw,b,ys,rfl,hb,_⟩:=r.slot j _ hj;rw[hσ]at hw;cases hw;rw[g3]at hb;cases hb
  . obtain⟨c,e1,x⟩:=q;rw[e1];exact iV r x
theorem Bk{i:Nat}{x:Str}{e:Expr}{p apos pos pos':Pos}(hN:X.N[i]?=some x)(hv:kK X.env.scope x)(ha:MA X cl [e] g) (hd:(x ==("__debug__" : Str))=false:=by decide) (cU:(x ==("__classdict__" : Str))=false:=by decide)
    (ib:swapsWith (.Call (.Attribute (.Name x p) "append" apos) [e] [] pos) none pos'.line X.env=pure false:=by rfl)
    (he:starEach [e] X.env=(false,eval e X.env)::starEach [] X.env:=by rfl) (dD:(backTo pos (starEach [e] X.env)).any (·.1)=false:=by rfl)
    (ht:eval (.Call (.Attribute (.Name x p) "append" apos) [e] [] pos) X.env=(do
      let ov <- eval (.Name x p) X.env
      standAt apos.atName
      let (f,first) <- holding [ov] (getMethod ov "append" pl)
      callWith pos f first (backTo pos (starEach [e] X.env)) (backToKw pos (keywordEach [] X.env))):=by rfl):MS X cl (.Expr (.Call (.Attribute (.Name x p) "append" apos) [e] [] pos) pos') (lM i g):=by
  refine⟨?_⟩;intro pins s σ aA H0 Hf H ρ I r hs;unfold lM at hs ⊢;split at hs
  . next l el =>
    obtain⟨v0,Nk,a,xs,rfl,Jo,mW,tq,aT⟩:=r.slot i _ el;have hg:g ρ≠.stuck:=fun z=>hs (by rw[z])
    refine aaa ?_ I.quiet ib;generalize hE:iU X cl pins aA H0 Hf _=E;refine WN (pl:=pl) (ft (uD (X:=X.bR E) hN hv hd cU pins s σ H (fun v H'=>v=.ref a/\H'=H) (I.bR E) ⟨_,Nk,rfl,rfl⟩) fun ov s1 ⟨x',H1,I1,ro,q1⟩=>?_) ht;obtain⟨rfl,rfl⟩:=q1;cases ro;obtain⟨z,its,n,rv,hl,ho⟩:=I1.Ik Jo;refine Calls.getMethod_list_append ho rfl rfl ?_;refine W7 dD ?_;rw[he];refine Xe ?_;have run:=ha.run' pos pins s1 σ aA H0 Hf H1 ρ I1.nh r hg
    rw[he]at run;refine VN run (fun us s2 q=>?_) fun u s2 q=>?_
    . obtain⟨ps,vs,bG,H2,e1,I2,kR,x2,Rr⟩:=q;have hlen:=ha.len ρ ps e1
      match ps,hlen with
      | [pv],_ =>
        obtain⟨v,rfl,rp⟩:=iT Rr;obtain⟨u,rfl,ru⟩:=kR.one;rw[e1]at hs hE ⊢;have cu:(if l.length<sizeLine then SR.next (ρ.set i (some (.own (l ++[pv])))) else .stuck)≠.stuck:=hs
        have hz:l.length<sizeLine:=WC fun c=>cu (by rw[VQ c]);have g1:H2 a=some (.lst xs):=x2.all _ _ Jo
        have g2:bG a=none:=by rw[x2.old a (by rw[Jo];intro z;cases z)];exact mW
        have g3:=aT.keep x2.bw;refine ft (nv (X:=X.bR E) pins s2 σ H2 (.ref a) [v] (.ref a) [u] (fun w H'=>H'=upd H2 a (.lst (xs ++[v]))) (I2.bR E) rfl (.cons ru .nil) ⟨a,xs,v,rfl,rfl,g1,by rw[aT.length];exact hz,rfl⟩) fun w s3 ⟨w',H3,I3,_,q3⟩=>?_;subst q3;have rr:=(r.keep x2).store (l':=l ++[pv]) (ys:=xs ++[v]) el Nk g2 tq (bB.append g3 (.cons rp .nil))
        show nK X cl pins aA H0 Hf (if l.length<sizeLine then SR.next (ρ.set i (some (.own (l ++[pv])))) else .stuck) Flow.next _
        rw[VP hz];exact⟨_,σ,bG,_,rfl,I3.nh,rr,x2.bw⟩
    . obtain⟨c,e1,xa⟩:=q;rw[e1]at hE;rw[<- hE];exact iV r xa
  . next hn=>exact absurd rfl hs
end
mutual
inductive iA (K:PySem.W.Frag):Value->PV->Prop where
  | aU:iA K .none .aU
  | bl (b:Bool):iA K (.bool b) (.bl b)
  | int (i:Int) (t:Tok):iA K (.int i t) (.int i)
  | str (x:Str) (t:Tok):iA K (.str x t) (.str x)
  | tup {a:Addr}{o:Obj}{its:Array Value}{n:Nat}{ps:List PV} (h:K.lookup a=some o) (c:o.cls=.type "tuple") (d:o.data=.seq its n) (z:its.size<=sizeLine) (r:jZ K its.toList ps):iA K (.ref a) (.tup ps)
inductive jZ (K:PySem.W.Frag):List Value->List PV->Prop where
  | nil:jZ K [] []
  | cons {u:Value}{p:PV}{us:List Value}{ps:List PV} (r:iA K u p) (t:jZ K us ps):jZ K (u::us) (p::ps)
end
section
variable {K:PySem.W.Frag}{cl:Nat->Addr}
mutual
theorem iA.rp(Hf:Hp):∀{u:Value}{p:PV},iA K u p->∃ v,RelV v u/\Rp K cl Hf v p
  | _,_,.aU=>⟨.aU,rfl,.aU⟩
  | _,_,.bl b=>⟨.bl b,rfl,.bl b⟩
  | _,_,.int i t=>⟨.int i,⟨t,rfl⟩,.int i⟩
  | _,_,.str x t=>⟨.str x,⟨t,rfl⟩,.str x⟩
  | _,_,.tup (a:=a) (o:=o) (its:=its) (n:=n) h c d z r=>by
    obtain⟨vs,h1,h2⟩:=jZ.aT Hf r;exact⟨.ref a,rfl,.tup (.inr ⟨o,its,n,h,c,d,z,h1⟩) h2⟩
theorem jZ.aT(Hf:Hp):∀{us:List Value}{ps:List PV},jZ K us ps->∃ vs,Vals vs us/\bB K cl Hf vs ps
  | _,_,.nil=>⟨[],.nil,.nil⟩
  | _,_,.cons r t=>by
    obtain⟨v,a,b⟩:=iA.rp Hf r;obtain⟨vs,c,d⟩:=jZ.aT Hf t;exact⟨v::vs,.cons a c,.cons b d⟩
end
noncomputable def qT(K:PySem.W.Frag):Nat->Value->PV->Bool
  | _,.none,.aU=>true
  | _,.bool a,.bl b=>a == b
  | _,.int a _,.int b=>a == b
  | _,.str a _,.str b=>a == b
  | n+1,.ref a,.tup ps=>(match K.lookup a with
    | some o=>o.cls == .type "tuple" && (match o.data with
      | .seq its _=>decide (its.size<=sizeLine)&&decide (its.toList.length=ps.length)&&(its.toList.zip ps).all fun q=>qT K n q.1 q.2
      | _=>false)
    | none=>false)
  | _,_,_=>false
theorem ve{K:PySem.W.Frag}{f:Value->PV->Bool}(hf:∀ u p,f u p=true->iA K u p):∀{us:List Value}{ps:List PV},us.length=ps.length->((us.zip ps).all fun q=>f q.1 q.2)=true->jZ K us ps
  | [],[],_,_=>.nil
  | [],_::_,h,_=>by cases h
  | _::_,[],h,_=>by cases h
  | u::us,p::ps,h,e=>by
    simp only[List.zip_cons_cons,Xl,VR]at e;exact .cons (hf u p e.1) (ve hf (by simpa using h) e.2)
theorem GJ:∀{n:Nat}{u:Value}{p:PV},qT K n u p=true->iA K u p:=by
  intro n
  induction n with
  | zero =>
    intro u p h;unfold qT at h;split at h
    . exact .aU
    . cases Wo.mp h;exact .bl _
    . cases Wo.mp h;exact .int _ _
    . cases Wo.mp h;exact .str _ _
    . rename_i n' a ps hn;cases hn
    . cases h
  | succ n ih =>
    intro u p h;unfold qT at h;split at h
    . exact .aU
    . cases Wo.mp h;exact .bl _
    . cases Wo.mp h;exact .int _ _
    . cases Wo.mp h;exact .str _ _
    . rename_i n' a ps hn;cases hn;split at h
      . rename_i o ho;rw[VR]at h;obtain⟨h1,h2⟩:=h;split at h2
        . rename_i its m hd;simp only[VR,W8]at h2;exact .tup ho (Wo.mp h1) hd h2.1.1 (ve (fun u p e=>ih e) h2.1.2 h2.2)
        . cases h2
      . cases h
    . cases h
end
section
variable {X:Cx}{cl:Nat->Addr}
theorem qb{pos:Pos} (hg:Gl X x) (hm:∃ u,X.mg x=some u/\iA X.K u q) (hd:(x ==("__debug__" : Str))=false:=by decide):ME X cl (.Name x pos) (fC q):=by
  obtain⟨u,hm,k⟩:=hm;obtain⟨v,rv,_⟩:=k.rp (cl:=cl) (fun _=>none);refine⟨?_⟩;intro pins s σ aA H0 Hf H ρ I r hs;obtain⟨v,rv,rp⟩:=k.rp (cl:=cl) Hf;exact fj I hg hm ⟨q,v,Hf,H,rfl,I,rv,Ext.refl r.sub,rp⟩ hd
end
structure Jp(K:PySem.W.Frag)(x qual:Str)(st:Stmt)(f:Addr)(fd:FuncData)(y:Str):Prop where
  ex:∃(oc:Value)(od:Option Addr)(kV doc pm:Value)(an:Option Addr)(aK ct:Value)(eQ:Array (Option Value))(T:Addr)(o:Obj)(n:Nat)(t:Tok),
    fd=PySem.W.fnOf x qual (b9 st) (ba st) (az st) (.ref T) kV doc pm an aK ct/\K.lookup f=some ⟨oc,od,.func fd,eQ⟩/\PySem.W.codeIn K aK qual=true/\K.lookup T=some o/\o.data=.seq #[.str y t] n
  kp:PySem.W.keepIn K (.ref f)=true
section
variable {P:Program}{w:World}{K:PySem.W.Frag}{mg:Str->Option Value}{base:Heap}{cl:Nat->Addr}
theorem yW{x qual:Str}{st:Stmt}{f:Addr}{N ps:List Str}{k n:Nat}{b:FS}{dV kV doc pm aK ct oc:Value}{an od:Option Addr}{eQ:Array (Option Value)}
    (lk:K.lookup f=some ⟨oc,od,.func (PySem.W.fnOf x qual (b9 st) (ba st) (az st) dV kV doc pm an aK ct),eQ⟩) (cU:PySem.W.codeIn K aK qual=true) (S:eo N ps (az st)) (hn:ps.length=n)
    (dA:∀(aK:Value)(A:Around)(outer:List Env)(s:Shared)(H:Hp)(E:XK),bH k (A.deeper (envOfC qual (az st) s.heap.objs.size f aK)) ->
      ia (aV P w K mg base cl N qual (az st) f aK A outer s H E) cl (ba st) b):d9 P w K mg base (hZ cl P w) (k+1) f (PySem.W.fnOf x qual (b9 st) (ba st) (az st) dV kV doc pm an aK ct) ps (mS K cl n (a9 N.length b)):=by
  refine yz lk cU S (fun vs H Q E h=>by rw[h.1,hn]) fun A outer s H vs Q E hr gy=>?_;obtain⟨hl,Hf,qs,sm,aT,hs,bh,hex⟩:=gy;have hb:=dA aK A outer s H E hr
  have cu:b (Mi.start N.length qs)≠.stuck:=fun z=>hs (by unfold a9;rw[z]);refine⟨fun D σ H1=>σ=L2.start N vs/\H1=H/\D={ nx:=fun _ H'=>Q .aU H',rt:=Q },fun pins s1 σ H1 D I h=>?_,rfl,rfl,rfl⟩;obtain⟨rfl,rfl,rfl⟩:=h;refine VN (hb pins s1 _ Hf H1 Hf H1 _ I (sX rfl sm aT) cu) (fun fl s2 q=>?_) fun u s2 q=>?_
  . cases fl with
    | next =>
      obtain⟨ρ',σ',ao,H',e1,I',r',_⟩:=q;exact⟨σ',H',I',bh .aU .aU ao H' (by unfold a9;rw[e1]) r'.ext .aU⟩
    | ret u =>
      obtain⟨p,v,σ',ao,H',e1,I',ex,rv,rp⟩:=q;exact⟨v,σ',H',I',rv,bh p v ao H' (by unfold a9;rw[e1]) ex rp⟩
    | brk =>
      obtain⟨ρ',σ',ao,H',e1,I',r',_⟩:=q;exact absurd (by unfold a9;rw[e1]) hs
    | cont =>
      obtain⟨ρ',σ',ao,H',e1,I',r',_⟩:=q;exact absurd (by unfold a9;rw[e1]) hs
  . obtain⟨c,ρ',σ',ao,H',e,e1,rfl,I',r',_,x⟩:=q;exact nO I' x (hex c ao H' (by unfold a9;rw[e1]) r'.ext)
structure lS(K:PySem.W.Frag)(mg:Str->Option Value)(x:Str)(st:Stmt)(f:Addr)(fd:FuncData)(y:Str):Prop where
  fn:Jp K x x st f fd y
  mg:mg x=some (.ref f)
theorem def_mkD{h:Heap}{x:Str}{st:Stmt}{f:Addr}{oc:Value}{od an:Option Addr}{eQ:Array (Option Value)}{kV doc pm aK ct:Value}{T:Addr}{Jq:Value}{Jr:Option Addr}{Dx:Array (Option Value)}{n:Nat}{t:Tok}{y:Str}(X:K.In h)(G:h.Ns mainGlobals mg)(a:PySem.W.nsIn K mainGlobals x=some (some (.ref f)))
    (l:K.lookup f=some ⟨oc,od,.func (PySem.W.fnOf x x (b9 st) (ba st) (az st) (.ref T) kV doc pm an aK ct),eQ⟩) (c:PySem.W.codeIn K aK x=true) (k:PySem.W.keepIn K (.ref f)=true) (d:K.lookup T=some ⟨Jq,Jr,.seq #[.str y t] n,Dx⟩) :
    ∃ f fd,lS K mg x st f fd y:=⟨f,_,⟨⟨oc,od,kV,doc,pm,an,aK,ct,eQ,T,_,n,t,rfl,l,c,d,rfl⟩,k⟩,Xm X G a⟩
structure nQ(P:Program)(w:World)(K:PySem.W.Frag)(mg:Str->Option Value)(base:Heap)(cl:Nat->Addr)(k:Nat)(x:Str)(n:Nat)(F:List PV->R PV)(y:Str):Prop where
  ex:∃(f:Addr)(fd:FuncData)(ps:List Str)(d:Value),mg x=some (.ref f)/\PySem.W.keepIn K (.ref f)=true/\ps.length=n/\d9 P w K mg base (hZ cl P w) k f fd ps (mS K cl n F)/\Binds K fd ps []/\Binds K fd ps [d]/\RelV (.str y) d
theorem nQ.fg{k:Nat}{F:List PV->R PV}(h:nQ P w K mg base cl k x n F y):FG P w K mg base cl k x n F:=by
  obtain⟨f,fd,ps,d,a,b,c,e,g,_⟩:=h.ex;exact⟨⟨f,fd,ps,a,b,c,e,g⟩⟩
theorem lS.fg{x:Str}{st:Stmt}{f:Addr}{fd:FuncData}{y:Str}{N ps:List Str}{k n:Nat}{b:FS}(D:lS K mg x st f fd y)(S:eo N ps (az st))(hn:ps.length=n)
    (hb:∀(T:Addr)(t:Tok)(kV doc pm:Value)(an:Option Addr)(aK ct:Value)(us:List Value),us.length=ps.length->∃ k,bindArgs (PySem.W.fnOf x x (b9 st) (ba st) (az st) (.ref T) kV doc pm an aK ct) ⟨us,[]⟩=seqItems? (.ref T) >>= k/\k (some #[.str y t])=pure (ps.zip us))
    (vf:∀(T:Addr)(t:Tok)(kV doc pm:Value)(an:Option Addr)(aK ct:Value)(us:List Value),us.length+1=ps.length->∃ k,bindArgs (PySem.W.fnOf x x (b9 st) (ba st) (az st) (.ref T) kV doc pm an aK ct) ⟨us,[]⟩=seqItems? (.ref T) >>= k/\k (some #[.str y t])=pure (ps.zip (us ++[.str y t])))
    (dA:∀(aK:Value)(A:Around)(outer:List Env)(s:Shared)(H:Hp)(E:XK),bH k (A.deeper (envOfC x (az st) s.heap.objs.size f aK)) ->
      ia (aV P w K mg base cl N x (az st) f aK A outer s H E) cl (ba st) b):nQ P w K mg base cl (k+1) x n (a9 N.length b) y:=by
  obtain⟨oc,od,kV,doc,pm,an,aK,ct,eQ,T,o,m,t,rfl,lk,cU,lt,dt⟩:=D.fn.ex;refine⟨⟨f,_,ps,.str y t,D.mg,D.fn.kp,hn,yW lk cU S hn dA,fun s us X hl=>?_,fun s us X hl=>?_,⟨t,rfl⟩⟩⟩
  . rw[Wj]at hl ⊢;obtain⟨k,e1,e2⟩:=hb T t kV doc pm an aK ct us hl;exact YH X rfl lt dt e1 e2
  . obtain⟨k,e1,e2⟩:=vf T t kV doc pm an aK ct us (by simpa using hl);exact YH X rfl lt dt e1 e2
end
noncomputable def dflt(F:List PV->R PV)(ds:List PV):List PV->R PV:=fun vs=>F (vs++ds)
section
variable {X:Cx}{cl:Nat->Addr}
theorem bB.snoc{K:PySem.W.Frag}{Hf:Hp}{vs:List V}{ps:List PV}{v:V}{p:PV}(a:bB K cl Hf vs ps)(b:Rp K cl Hf v p):bB K cl Hf (vs ++[v]) (ps ++[p]):=a.append (.cons b .nil)
theorem Dy{e:Expr}{es:List Expr}{p pos:Pos}{k n:Nat}{F:List PV->R PV}(hF:nQ X.prog X.w X.K X.mg X.base cl k x n F y)(hr:bH k X.A)(hg:Gl X x)(dE:X.stack=X.env::X.outer)(inj:∀ c d,cl c=cl d->c=d)(hex:∀ b,b ∉ X.ex)
    (ha:MA X cl (e::es) g) (hl:(e::es).length+1=n) (d4:(x ==("__debug__" : Str))=false:=by decide) (he:starEach (e::es) X.env=(false,eval e X.env)::starEach es X.env:=by rfl) (dD:(backTo pos (starEach es X.env)).any (·.1)=false:=by rfl) :
    ME X cl (.Call (.Name x p) (e::es) [] pos) (aF (dflt F [.str y]) g):=by
  obtain⟨f,fd,ps,d,hm,hk,hn,hf,_,hb,rd⟩:=hF.ex;refine⟨?_⟩;intro pins s σ aA H0 Hf H ρ I r hs;unfold aF at hs ⊢;refine WJ (fj I hg hm ?_ d4);refine Xd (h₀:=X.base) I.ok.mod.mM hk (ha.run pos I r (Ext.refl r.sub) hs fun qs vs us s1 aD H1 hq e1 I1 rv x1 aT=>⟨I1.dR,?_⟩) he dD;rw[e1]at hs ⊢;have hv:(vs ++[V.str y]).length=n:=by rw[VV,aT.length,hq,<- hl];rfl
  have Dz:bB X.K cl aD (vs ++[.str y]) (qs ++[.str y]):=aT.snoc (.str y);have d0:Vals (vs ++[.str y]) (us ++[d]):=rv.append (.cons rd .nil)
  have gy:mS X.K cl n F (vs ++[.str y]) H1 (fun v H'=>∃ p ao,dflt F [.str y] qs=.ok p/\Ext aD H1 ao H'/\Rp X.K cl ao v p) (fun u o H'=>∃ c ao,dflt F [.str y] qs=.exc c/\Ext aD H1 ao H'/\u=.ref (cl c)) :=
    ⟨hv,aD,qs ++[PV.str y],x1.sub,Dz,hs,fun p v ao H' a b c=>⟨p,ao,a,b,c⟩,fun c ao H' a b=>⟨c,ao,a,b,rfl⟩⟩
  have lQ:(us ++[d]).length=ps.length:=by rw[<- d0.length,hv,hn]
  have gz:=hb s1 us I1.dR lQ;refine XS (XC (hf.run X.A X.stack s1 H1 ⟨us,[]⟩ (us ++[d]) (vs ++[.str y]) _ _ hr I1.pO gz d0 gy) fun r s' dz=>?_);cases r with
  | error e=>exact bW.from (e0:=x1) (qM I1 x1.sub dE dz inj hex)
  | ok fl =>
    cases fl with
    | ret u =>
      obtain⟨v,H',I',d0,p,ao,e2,ex,rp⟩:=I1.after dz;exact⟨p,v,ao,H',e2,I',d0,x1.trans ex,rp⟩
    | next=>exact False.elim dz
    | brk=>exact False.elim dz
    | cont=>exact False.elim dz
end
section
variable {P:Program}{w:World}{K:PySem.W.Frag}{mg:Str->Option Value}{base:Heap}{cl:Nat->Addr}
theorem Rt{A:Around}{s:Shared}{k k' n:Nat}{F:List PV->R PV}{e:Expr}{es:List Expr}{p pos:Pos}
    (h:nQ P w K mg base cl k x n F y) (hr:bH k' (A.deeper (envOfC qual scope s.heap.objs.size f cd))) (inj:∀ c d,cl c=cl d->c=d) (ha:MA (aV P w K mg base cl N qual scope f cd A outer s H E) cl (e::es) g) (hk:k<=k':=by decide)
    (hl:(e::es).length+1=n:=by rfl) (hg:Gl (aV P w K mg base cl N qual scope f cd A outer s H E) x:=by rfl) (d4:(x ==("__debug__" : Str))=false:=by decide)
    (he:starEach (e::es) (aV P w K mg base cl N qual scope f cd A outer s H E).env=(false,eval e (aV P w K mg base cl N qual scope f cd A outer s H E).env)::starEach es (aV P w K mg base cl N qual scope f cd A outer s H E).env:=by rfl)
    (dD:(backTo pos (starEach es (aV P w K mg base cl N qual scope f cd A outer s H E).env)).any (·.1)=false:=by rfl) :
    ME (aV P w K mg base cl N qual scope f cd A outer s H E) cl (.Call (.Name x p) (e::es) [] pos) (aF (dflt F [.str y]) g) :=
  Dy h (hr.mono hk) hg rfl inj (fun b z=>absurd (show b∈([]:List Addr) from z) (by simp)) ha hl d4 he dD
end
structure Js(K:PySem.W.Frag)(mg:Str->Option Value)(cl:Nat->Addr)(c:Nat)(x:Str):Prop where
  mg:mg x=some (.ref (cl c))
  makes:PySem.W.makesIn K (cl c)=true
  init:PySem.W.findIn K (.ref (cl c)) "__init__"=some (some (.builtin "object.__init__"))
  kp:PySem.W.keepIn K (.ref (cl c))=true
  cls:L2.gd K (cl c)
  hc:PySem.W.findIn K (.ref (cl c)) "__class__"=some (some (.builtin "object.__class__"))
  hn:PySem.W.specialIn K (.builtin "object.__class__") "__get__"=some (some (.builtin "getset_descriptor.__get__"))
  ht:PySem.W.takesIn K (.builtin "object.__class__")=some true
  hm:PySem.W.mroIn K (cl c) (.type "object")=some true
noncomputable def my(c:Nat):FE:=fun _=>.ok (.ins c)
section
variable {X:Cx}{cl:Nat->Addr}
theorem GK{p pos:Pos} (M:Js X.K X.mg cl c x) (hg:Gl X x) (d4:(x ==("__debug__" : Str))=false:=by decide):ME X cl (.Call (.Name x p) [] [] pos) (my c):=by
  refine⟨?_⟩;intro pins s σ aA H0 Hf H ρ I r hs;refine WJ (fj I hg M.mg ?_ d4);refine aaS I.dR M.kp (XS (Ax I.dR M.makes M.init (fun self=>PySem.W.Looks.of_pure (PySem.W.oi_bind self)) ?_));have I2:=Inv.made (C:=cl c) I
  have n1:H s.heap.objs.size=none:=I.bh.fresh (VU _);have n2:H (s.heap.objs.size+1)=none:=I.bh.fresh (Nat.le_succ _)
  have e1:=Ext.yJ r.sub n1 (.own (s.heap.objs.size+1));have n3:upd H s.heap.objs.size (.own (s.heap.objs.size+1)) (s.heap.objs.size+1)=none:=by rw[a7 (Zg (XW _))];exact n2
  have e2:=Ext.new e1.sub n3 (.ins (cl c) s.heap.objs.size []);obtain⟨hh,g,d,t,os⟩:=s;have Y:=Zh (M:=model X.prog X.w) I.dR M.makes
  have hx:((hh.push PySem.W.emptyDict).push (PySem.W.instObj (cl c) hh.objs.size)).get? (hh.objs.size+1)=some (PySem.W.instObj (cl c) hh.objs.size):=by
    have:=Wi (hh.push PySem.W.emptyDict) (o:=PySem.W.instObj (cl c) hh.objs.size) rfl
    rwa [Yq]at this
  have t1:PySem.W.Looks (model X.prog X.w) ((hh.push PySem.W.emptyDict).push (PySem.W.instObj (cl c) hh.objs.size)) (typeOf (.ref (hh.objs.size+1))) (.ref (cl c)):=(PySem.W.Looks.ld hx).andThen .now;have t2:PySem.W.Looks (model X.prog X.w) ((hh.push PySem.W.emptyDict).push (PySem.W.instObj (cl c) hh.objs.size)) (isInstance (.ref (hh.objs.size+1)) (.type "object")) true:=t1.andThen (Y.top.keeps fun b o e=>VW _ (VW _ e))
  refine codeAny_call_builtin PySem.W.oi_plain PySem.W.entry_oi (@PySem.W.check_slot (model X.prog X.w) _ _ _ "object.__init__" "object" "__init__" (.ref (hh.objs.size+1)) [] [] _ PySem.W.oi_kind PySem.W.oi_split t2 (PySem.W.oi_args (.ref (hh.objs.size+1))) ?_);rw[PySem.W.oi_run];exact Ws (And.intro rfl ⟨.ins c,.ref (hh.objs.size+1),_,_,rfl,I2,rfl,e1.trans e2,.ins bp⟩)
end
noncomputable def kq(c:Nat):List (Nat×(List PV->R PV))->Option (List PV->R PV)
  | []=>none
  | (d,F)::r=>if c=d then some F else kq c r
noncomputable def Bl(eP:List (Nat×(List PV->R PV)))(gv:R (List PV)):PV->R PV
  | .ins c=>(match kq c eP with
    | some F=>gv.bind fun vs=>F (.ins c::vs)
    | none=>.stuck)
  | _=>.stuck
theorem xj(eP:List (Nat×(List PV->R PV)))(gv:R (List PV))(c:Nat):Bl eP gv (.ins c)=match kq c eP with
    | some F=>gv.bind fun vs=>F (.ins c::vs)
    | none=>.stuck:=rfl
theorem Jt{eP:List (Nat×(List PV->R PV))}{gv:R (List PV)}(h:Bl eP gv q≠.stuck):∃ c F,q=.ins c/\kq c eP=some F/\Bl eP gv q=gv.bind fun vs=>F (.ins c::vs):=by
  cases q with
  | ins c =>
    cases em:kq c eP with
    | none=>exact absurd (by rw[xj,em]) h
    | some F=>exact⟨c,F,rfl,em,by rw[xj,em]⟩
  | _=>exact absurd rfl h
noncomputable def oF(eP:List (Nat×(List PV->R PV)))(o:FE)(g:FA):FE:=fun ρ=>(o ρ).bind (Bl eP (g ρ))
structure FM(P:Program)(w:World)(K:PySem.W.Frag)(mg:Str->Option Value)(base:Heap)(cl:Nat->Addr)(k:Nat)(m:Str)(n:Nat)(eP:List (Nat×(List PV->R PV))):Prop where
  ex:∀ c F,kq c eP=some F->∃(f:Addr)(fd:FuncData)(ps:List Str),L2.gd K (cl c)/\Meth K (cl c) m f/\ps.length=n+1/\d9 P w K mg base (hZ cl P w) k f fd ps (mS K cl (n+1) F)/\Binds K fd ps []
section
variable {X:Cx}{cl:Nat->Addr}
theorem GL{e:Expr}{es:List Expr}{apos pos:Pos}{k n:Nat}{eP:List (Nat×(List PV->R PV))} (hF:FM X.prog X.w X.K X.mg X.base cl k m n eP) (hr:bH k X.A) (PW:X.stack=X.env::X.outer) (inj:∀ c d,cl c=cl d->c=d) (hex:∀ b,b ∉ X.ex)
    (ho:ME X cl o fo) (ha:MA X cl (e::es) g) (hl:(e::es).length=n)
    (dE:starEach (e::es) X.env=(false,eval e X.env)::starEach es X.env:=by rfl) (dD:(backTo pos (starEach es X.env)).any (·.1)=false:=by rfl)
    (ht:eval (.Call (.Attribute o m apos) (e::es) [] pos) X.env=(do
      let ov <- eval o X.env
      standAt apos.atName
      let (f,first) <- holding [ov] (getMethod ov m pl)
      callWith pos f first (backTo pos (starEach (e::es) X.env)) (backToKw pos (keywordEach [] X.env))):=by rfl) :
    ME X cl (.Call (.Attribute o m apos) (e::es) [] pos) (oF eP fo g):=by
  refine⟨?_⟩;intro pins s σ aA H0 Hf H ρ I r hs;unfold oF at hs ⊢;refine WN (pl:=pl) (ho.run I r (Ext.refl r.sub) hs fun q v u s1 aD H1 e1 I1 rv x1 rp=>?_) ht;rw[e1]at hs ⊢;obtain⟨c,F,rfl,em,red⟩:=Jt hs;rw[red]at hs ⊢;obtain⟨f,fd,ps,hc,hm,hn,hf,hb⟩:=hF.ex c F em;cases rp with
  | ins hq =>
    rename_i a dx;obtain rfl:u=Value.ref a:=rv;refine jW I1 (x1.sub _ _ hq) hc hm rfl ?_;refine Xd (first:=[.ref a]) (h₀:=X.base) I.ok.mod.mM hm.kp (ha.run pos I1 (r.keep x1) x1 hs fun qs vs us s2 bG H2 xk e2 I2 kR x2 aT=>⟨I2.dR,?_⟩) dE dD;rw[e2]at hs ⊢;have kN:aO aD bG:=x2.bw
    have Dz:bB X.K cl bG (.ref a::vs) (.ins c::qs):=.cons (.ins (kN _ _ hq)) aT;have hv:(V.ref a::vs).length=n+1:=by rw[VT,aT.length,xk,hl]
    have d0:Vals (.ref a::vs) (.ref a::us):=.cons rfl kR;have gy:mS X.K cl (n+1) F (.ref a::vs) H2 (fun v H'=>∃ p ao,F (.ins c::qs)=.ok p/\Ext bG H2 ao H'/\Rp X.K cl ao v p) (fun u o H'=>∃ d ao,F (.ins c::qs)=.exc d/\Ext bG H2 ao H'/\u=.ref (cl d)) :=
      ⟨hv,bG,.ins c::qs,x2.sub,Dz,hs,fun p v ao H' a b c=>⟨p,ao,a,b,c⟩,fun c ao H' a b=>⟨c,ao,a,b,rfl⟩⟩
    have lQ:(Value.ref a::us ++[]).length=ps.length:=by rw[Wj,<- d0.length,hv,hn]
    have gz:=hb s2 (.ref a::us) I2.dR lQ;rw[Wj]at gz;refine XS (XC (hf.run X.A X.stack s2 H2 ⟨.ref a::us,[]⟩ (.ref a::us) (.ref a::vs) _ _ hr I2.pO gz d0 gy) fun r s' dz=>?_);cases r with
    | error e=>exact bW.from (e0:=x1.trans x2) (qM (F:=fun _=>F (.ins c::qs)) (ps:=[]) I2 x2.sub PW dz inj hex)
    | ok fl =>
      cases fl with
      | ret u =>
        obtain⟨v,H',I',d0,p,ao,e2,ex,rp⟩:=I2.after dz;exact⟨p,v,ao,H',e2,I',d0,(x1.trans x2).trans ex,rp⟩
      | next=>exact False.elim dz
      | brk=>exact False.elim dz
      | cont=>exact False.elim dz
end
noncomputable def vg(c d:Nat):Bool:=c == d||d == 20
structure DA(K:PySem.W.Frag)(mg:Str->Option Value)(cl:Nat->Addr)(wn:List (Nat×Str)):Prop where
  cls:∀ c x,(c,x)∈wn->Js K mg cl c x
  Ng:∀ c x d y,(c,x)∈wn->(d,y)∈wn->PySem.W.kitOne K (.ref (cl c)) (.ref (cl d))=some (vg c d)
section
variable {P:Program}{w:World}{K:PySem.W.Frag}{mg:Str->Option Value}{base:Heap}{cl:Nat->Addr}
theorem Bm{c:Nat}{x:Str}{p pos:Pos}{wn:List (Nat×Str)}
    (C:DA K mg cl wn) (hx:(c,x)∈wn) (hg:Gl (aV P w K mg base cl N qual scope f cd A outer s H E) x:=by rfl) (d4:(x ==("__debug__" : Str))=false:=by decide) :
    ME (aV P w K mg base cl N qual scope f cd A outer s H E) cl (.Call (.Name x p) [] [] pos) (my c):=GK (C.cls c x hx) hg d4
theorem mm{A:Around}{s:Shared}{k k' n:Nat}{eP:List (Nat×(List PV->R PV))}{o e:Expr}{es:List Expr}{apos pos:Pos}
    (h:FM P w K mg base cl k m n eP) (hr:bH k' (A.deeper (envOfC qual scope s.heap.objs.size f cd))) (inj:∀ c d,cl c=cl d->c=d) (ho:ME (aV P w K mg base cl N qual scope f cd A outer s H E) cl o fo) (ha:MA (aV P w K mg base cl N qual scope f cd A outer s H E) cl (e::es) g) (hk:k<=k':=by decide)
    (hl:(e::es).length=n:=by rfl)
    (he:starEach (e::es) (aV P w K mg base cl N qual scope f cd A outer s H E).env=(false,eval e (aV P w K mg base cl N qual scope f cd A outer s H E).env)::starEach es (aV P w K mg base cl N qual scope f cd A outer s H E).env:=by rfl)
    (dD:(backTo pos (starEach es (aV P w K mg base cl N qual scope f cd A outer s H E).env)).any (·.1)=false:=by rfl)
    (ht:eval (.Call (.Attribute o m apos) (e::es) [] pos) (aV P w K mg base cl N qual scope f cd A outer s H E).env=(do
      let ov <- eval o (aV P w K mg base cl N qual scope f cd A outer s H E).env
      standAt apos.atName
      let (f',first) <- holding [ov] (getMethod ov m pl)
      callWith pos f' first (backTo pos (starEach (e::es) (aV P w K mg base cl N qual scope f cd A outer s H E).env)) (backToKw pos (keywordEach [] (aV P w K mg base cl N qual scope f cd A outer s H E).env))):=by rfl) :
    ME (aV P w K mg base cl N qual scope f cd A outer s H E) cl (.Call (.Attribute o m apos) (e::es) [] pos) (oF eP fo g) :=
  GL h (hr.mono hk) rfl inj (fun b z=>absurd (show b∈([]:List Addr) from z) (by simp)) ho ha hl he dD ht
structure MethAt(K:PySem.W.Frag)(cl:Nat->Addr)(c:Nat)(m qual:Str)(st:Stmt)(f:Addr)(fd:FuncData):Prop where
  fn:wV K m qual st f fd
  at_:Meth K (cl c) m f
structure MG(P:Program)(w:World)(K:PySem.W.Frag)(mg:Str->Option Value)(base:Heap)(cl:Nat->Addr)(k:Nat)(c:Nat)(m:Str)(n:Nat)(F:List PV->R PV):Prop where
  ex:∃(f:Addr)(fd:FuncData)(ps:List Str),L2.gd K (cl c)/\Meth K (cl c) m f/\ps.length=n+1/\d9 P w K mg base (hZ cl P w) k f fd ps (mS K cl (n+1) F)/\Binds K fd ps []
theorem MethAt.Ru{c:Nat}{m qual:Str}{st:Stmt}{f:Addr}{fd:FuncData}{N ps:List Str}{k n:Nat}{b:FS}(D:MethAt K cl c m qual st f fd)(hc:L2.gd K (cl c))(S:eo N ps (az st))(hn:ps.length=n+1)
    (hb:∀(kV doc pm:Value)(an:Option Addr)(aK ct:Value)(us:List Value),us.length=ps.length->bindArgs (PySem.W.fnOf m qual (b9 st) (ba st) (az st) .none kV doc pm an aK ct) ⟨us,[]⟩=pure (ps.zip us))
    (dA:∀(aK:Value)(A:Around)(outer:List Env)(s:Shared)(H:Hp)(E:XK),bH k (A.deeper (envOfC qual (az st) s.heap.objs.size f aK)) ->
      ia (aV P w K mg base cl N qual (az st) f aK A outer s H E) cl (ba st) b):MG P w K mg base cl (k+1) c m n (a9 N.length b) :=
  ⟨⟨f,fd,ps,hc,D.at_,hn,sY D.fn S hn dA,D.fn.binds hb⟩⟩
theorem Ju{k n:Nat}:FM P w K mg base cl k m n []:=⟨fun c F h=>by cases h⟩
theorem lT{j k n:Nat}{F:List PV->R PV}{eP:List (Nat×(List PV->R PV))}(h:MG P w K mg base cl j c m n F)(t:FM P w K mg base cl k m n eP)(hk:j<=k:=by decide):FM P w K mg base cl k m n ((c,F)::eP):=by
  refine⟨fun d G e=>?_⟩;unfold kq at e;by_cases z:d=c
  . subst z;rw[VP rfl]at e;cases e;obtain⟨f,fd,ps,a,b,c,g,i⟩:=h.ex;exact⟨f,fd,ps,a,b,c,g.mono hk,i⟩
  . rw[VQ z]at e;exact t.ex d G e
noncomputable def yX(K:PySem.W.Frag)(x:Str):Bool :=
  qQ K x&&PySem.W.makesIn K (ck K x)&&PySem.W.findIn K (.ref (ck K x)) "__init__" == some (some (.builtin "object.__init__"))&&PySem.W.keepIn K (.ref (ck K x)) &&
  PySem.W.plainGet K (ck K x) Str.empty&&PySem.W.hasDictIn K (ck K x)&&PySem.W.plainOver K (ck K x)&&PySem.W.findIn K (.ref (ck K x)) "__setattr__" == some (some (.builtin "object.__setattr__")) &&
  PySem.W.findIn K (.ref (ck K x)) "__class__" == some (some (.builtin "object.__class__"))&&PySem.W.specialIn K (.builtin "object.__class__") "__get__" == some (some (.builtin "getset_descriptor.__get__")) &&
  PySem.W.takesIn K (.builtin "object.__class__") == some true&&PySem.W.mroIn K (ck K x) (.type "object") == some true
noncomputable def Jv(K:PySem.W.Frag)(wn:List (Nat×Str)):Bool:=wn.all fun p=>yX K p.2&&wn.all fun q=>PySem.W.kitOne K (.ref (ck K p.2)) (.ref (ck K q.2)) == some (vg p.1 q.1)
noncomputable def Bn(K:PySem.W.Frag)(all names:List (Nat×Str)):Bool:=yU (all.map fun p=>ck K p.2)&&names.all fun p=>qS K p&&names.all fun q=>qR K p q
theorem cls_inj2{all names:List (Nat×Str)}(e:Bn K all names=true):∀ c d,g6 K all c=g6 K all d->c=d:=Dt (EU (WV.mp e).1)
theorem cls_of2{h:Heap}{all names:List (Nat×Str)}(X:K.In h)(G:h.Ns mainGlobals mg)(hn:(all.map (·.1)).Nodup)(hs:∀ p∈names,p∈all)(e:Bn K all names=true):gd K mg (g6 K all) names:=by
  have a:=(WV.mp e).2;have one:∀ c x,(c,x)∈names->qS K (c,x)=true/\∀ d y,(d,y)∈names->qR K (c,x) (d,y)=true:=fun c x hx=>by
    have:=Ww.mp a (c,x) hx;rw[VR]at this;exact⟨this.1,fun d y hy=>Ww.mp this.2 (d,y) hy⟩
  refine⟨fun c x hx=>?_,fun c x d y hx hy=>?_,fun c x d y hx hy=>?_,fun d y hy=>?_,fun c x hx=>?_⟩
  . obtain⟨o,_⟩:=one c x hx;unfold qS at o;simp only[VR,Wo]at o;exact⟨by rw[dM hn (hs _ hx)];exact Xm X G (pZ o.1.1.1.1),by rw[dM hn (hs _ hx)];exact o.1.1.1.2,by rw[dM hn (hs _ hx)];exact o.1.1.2⟩
  . have o:=(one c x hx).2 d y hy;unfold qR at o;simp only[VR,Wo]at o;rw[dM hn (hs _ hx),dM hn (hs _ hy)];exact o.1
  . have o:=(one c x hx).2 d y hy;unfold qR at o;simp only[VR,Wo]at o;rw[dM hn (hs _ hx),dM hn (hs _ hy)];exact o.2
  . obtain⟨o,_⟩:=one d y hy;unfold qS at o;simp only[VR,Wo]at o;rw[dM hn (hs _ hy)];exact o.2
  . obtain⟨o,_⟩:=one c x hx;unfold qS at o;simp only[VR,Wo]at o;rw[dM hn (hs _ hx)];exact o.1.2
theorem ways_of{h:Heap}{all wn:List (Nat×Str)}(X:K.In h)(G:h.Ns mainGlobals mg)(hn:(all.map (·.1)).Nodup)(hs:∀ p∈wn,p∈all)(e:Jv K wn=true):DA K mg (g6 K all) wn:=by
  have one:∀ c x,(c,x)∈wn->yX K x=true/\∀ d y,(d,y)∈wn->PySem.W.kitOne K (.ref (ck K x)) (.ref (ck K y))=some (vg c d):=fun c x hx=>by
    have:=Ww.mp e (c,x) hx;rw[VR]at this;exact⟨this.1,fun d y hy=>Wo.mp (Ww.mp this.2 (d,y) hy)⟩
  refine⟨fun c x hx=>?_,fun c x d y hx hy=>?_⟩
  . obtain⟨o,_⟩:=one c x hx;have ec:=dM (K:=K) hn (hs _ hx)
    unfold yX at o;simp only[VR,Wo]at o;obtain⟨⟨⟨⟨⟨⟨⟨⟨⟨⟨⟨o1,o2⟩,o3⟩,o4⟩,o5⟩,o6⟩,o7⟩,o8⟩,o9⟩,Rv⟩,Rw⟩,Rx⟩:=o;exact⟨by rw[ec];exact Xm X G (pZ o1),by rw[ec];exact o2,by rw[ec];exact o3,by rw[ec];exact o4,by rw[ec];exact⟨o5,o6,o7,o8⟩,by rw[ec];exact o9,Rv,Rw,by rw[ec];exact Rx⟩
  . rw[dM hn (hs _ hx),dM hn (hs _ hy)];exact(one c x hx).2 d y hy
theorem xl{C:Addr} (a:PySem.W.nsIn K mainGlobals x=some (some (.ref C))):ck K x=C:=by unfold ck;rw[a]
theorem meth_mk{all:List (Nat×Str)}{c:Nat}{x m qual:Str}{st:Stmt}{C f:Addr}{oc:Value}{od an:Option Addr}{eQ:Array (Option Value)}{kV doc pm aK ct:Value}(hn:(all.map (·.1)).Nodup)(hx:(c,x)∈all)(a:PySem.W.nsIn K mainGlobals x=some (some (.ref C)))
    (b:PySem.W.findIn K (.ref C) m=some (some (.ref f))) (i:PySem.W.isFn K (.ref f)=true) (l:K.lookup f=some ⟨oc,od,.func (PySem.W.fnOf m qual (b9 st) (ba st) (az st) .none kV doc pm an aK ct),eQ⟩) (d:PySem.W.codeIn K aK qual=true) (k:PySem.W.keepIn K (.ref f)=true) :
    ∃ f fd,MethAt K (g6 K all) c m qual st f fd:=⟨f,_,AG l d k,by rw[dM hn hx,xl a];exact⟨b,i,k⟩⟩
end
noncomputable def cT:Nat->ay->ay
  | 0,_=>[]
  | n+1,[]=>none::cT n []
  | n+1,o::r=>o::cT n r
noncomputable def fw(n:Nat)(t:FT)(f:FE)(ρ:ay):List PV->R (List PV)
  | []=>.ok []
  | p::r=>match t (cT n ρ ++[some p])with
    | .ok true=>(match f (cT n ρ ++[some p])with
      | .ok v=>(match fw n t f ρ r with
        | .ok vs=>.ok (v::vs)
        | _=>.stuck)
      | _=>.stuck)
    | .ok false=>fw n t f ρ r
    | _=>.stuck
noncomputable def f7:FT:=fun _=>.ok true
noncomputable def kT(n:Nat)(t:FT)(f:FE)(ρ:ay)(l:List PV):R PV:=if l.length<=1000000 then (match fw n t f ρ l with
  | .ok vs=>.ok (.lst vs)
  | _=>.stuck) else .stuck
noncomputable def cL(n:Nat)(it:FA)(t:FT)(f:FE):FE:=fun ρ=>(it ρ).bind (kT n t f ρ)
theorem fW:∀(n:Nat)(ρ:ay),(cT n ρ).length=n
  | 0,_=>rfl
  | n+1,[]=>Xq (·+1) (fW n [])
  | n+1,_::r=>Xq (·+1) (fW n r)
theorem kU:∀{n:Nat}{ρ:ay}{i:Nat}{p:PV},(cT n ρ)[i]?=some (some p)->ρ[i]?=some (some p)
  | 0,_,_,_,h=>by simp[cT]at h
  | n+1,[],0,_,h=>by simp[cT]at h
  | n+1,[],i+1,p,h=>by
    have:(cT n [])[i]?=some (some p):=by simpa [cT]using h
    have:=kU this;simp at this
  | n+1,o::r,0,p,h=>by simpa [cT]using h
  | n+1,o::r,i+1,p,h=>by
    have:(cT n r)[i]?=some (some p):=by simpa [cT]using h
    simpa using kU this
theorem Rep.snoc{K:PySem.W.Frag}{cl:Nat->Addr}{aA H0 Hf H:Hp}{σ:SV}{ρ:ay}(r:Rep K cl aA H0 Hf H σ ρ){v:V}{p:PV}(hr:Rp K cl Hf v p):Rep K cl aA H0 Hf H (σ ++[some v]) (cT σ.length ρ ++[some p]):=by
  have np:∀ l,p≠.own l:=fun l z=>by subst z;cases hr
  have at_:∀{i:Nat}{q:PV},(cT σ.length ρ ++[some p])[i]?=some (some q)->(i<σ.length/\ρ[i]?=some (some q))\/(i=σ.length/\q=p):=fun{i q} h=>by
    by_cases hi:i<σ.length
    . rw[Wb (by rw[fW];exact hi)]at h;exact .inl ⟨hi,kU h⟩
    . rw[Wm (by rw[fW];omega),fW]at h;by_cases z:i=σ.length
      . subst z;simp at h;exact .inr ⟨rfl,h.symm⟩
      . rw[WQ (by simp;omega)]at h;cases h
  refine⟨r.ext,fun i q h=>?_,fun i j ps qs a h1 h2 h3 h4=>?_⟩
  . rcases at_ h with⟨hi,h'⟩ | ⟨rfl,rfl⟩
    . obtain⟨w,h1,h2⟩:=r.slot i q h';exact⟨w,by rw[Wb hi];exact h1,h2⟩
    . refine⟨v,by simp,?_⟩;cases q with
      | own l=>exact absurd rfl (np l)
      | _=>exact hr
  . rcases at_ h1 with⟨hi,w5⟩ | ⟨rfl,e⟩
    . rcases at_ h2 with⟨hj,Jw⟩ | ⟨rfl,e⟩
      . rw[Wb hi]at h3;rw[Wb hj]at h4;exact r.dist i j ps qs a w5 Jw h3 h4
      . exact absurd e.symm (np qs)
    . exact absurd e.symm (np ps)
noncomputable def eM(X:Cx)(Ns:List Str)(x:Str)(sc:Scope)(cs:List (Str×Addr))(C:Addr)(s:Shared)(H:Hp)(fp:List Addr):Cx :=
  { X with N:=Ns ++[x],s₀:=s,H₀:=H,env:=compEnvC sc cs C X.env,outer:=X.stack,stack:=X.stack,ex:=fp,fn:=fun _=>false,pn:=[],xe:=fun _ _=>False }
structure tr(X:Cx)(Ns:List Str)(x:Str)(sc:Scope)(cs:List (Str×Addr)):Prop where
  Jx:closureFor sc X.env=pure cs
  kind:sc.kind=.function
  Bo:∀ y∈sc.names,y.2≠.cell
  names:∀ y∈sc.names,y.2=.local->sc.names.lookup y.1=some .local
  here:sc.names.lookup x=some .local
  sub:∀ y c,cs.lookup y=some c->X.env.cells.lookup y=some c
  has:∀ y,((relabel sc X.env).names.lookup y=some .cell\/(relabel sc X.env).names.lookup y=some .free)->∃ c,cs.lookup y=some c
  Ry:∀ y∈Ns,kK (relabel sc X.env) y->((relabel sc X.env).names.lookup y=some .cell\/(relabel sc X.env).names.lookup y=some .free)/\(X.env.kindOf y=some .cell\/X.env.kindOf y=some .free)
  new:x ∉ Ns
  len:Ns.length=X.N.length
  same:∀(i:Nat)(y:Str),Ns[i]?=some y->kK (relabel sc X.env) y->X.N[i]?=some y
section
variable {X:Cx}{cl:Nat->Addr}{pins:List (Addr×Obj)}{σ:SV}{H:Hp}{s:Shared}{Ns:List Str}{x:Str}{sc:Scope}{cs:List (Str×Addr)}{fp:List Addr}
theorem Jy(I:Inv X pins σ H s)(c:tr X Ns x sc cs)(hf:∀ b∈fp,gG X pins H b)(hl:∀ b∈fp,b<s.heap.objs.size):(eM X Ns x sc cs s.heap.objs.size s H fp).Ok where
  mod:=I.ok.mod
  kind:=c.kind
  glob:=I.ok.glob
  blt:=I.ok.blt
  above:=VU _
  inj:=fun y z d e1 e2=>I.ok.inj y z d (c.sub y d e1) (c.sub z d e2)
  has:=fun y h=>c.has y h
  sC:=fun y d h=>by cases h
  hd:=I.ok.hd
  frames:=I.ok.frames
  oV:=.inl rfl
  EC:=fun b hb=>⟨Wz (hl b hb),fun y d e=>(hf b hb).2.2.2.2.1 y d (c.sub y d e)⟩
  bs:=I.bs
  lK:=Wh I.ok.lK I.sz
  pL:=fun b o e hb=>by
    rcases(hf b hb).2.2.2.1 with z | z
    . exact I.ok.pL b o e z
    . exact absurd (Wc (V8 e) (Wh I.ok.lK z)) (Xk _)
  rS:=fun b hb z=>by
    rcases WD.mp (I.qA b z)with e | e
    . exact(hf b hb).2.1 e
    . exact(hf b hb).2.2.1 e
  gZ:=I.stack
  oW:=I.oz
theorem xm{h1:Heap}{tk:Nat}(I:Inv X pins σ H s)(c:tr X Ns x sc cs)(hf:∀ b∈fp,gG X pins H b)(hl:∀ b∈fp,b<s.heap.objs.size)(hn:h1.Ns s.heap.objs.size (fun _=>none))(k:∀ b o,s.heap.get? b=some o->h1.get? b=some o) :
    Inv (eM X Ns x sc cs s.heap.objs.size s H fp) [] (σ ++[none]) H { s with heap:=h1,toks:=tk } where
  ok:=Jy I c hf hl
  os:=rfl
  bare:=I.bare
  base:=Un.kept k
  loc:=by
    refine⟨_,hn,fun i y v e1 e2 e3=>?_⟩;obtain⟨m,_,lk⟩:=I.loc;have hi:i<σ.length:=by
      by_cases z:i<σ.length
      . exact z
      . rw[Wm (by omega)]at e2;by_cases z2:i=σ.length
        . subst z2;simp at e2
        . rw[WQ (by simp;omega)]at e2;cases e2
    rw[Wb hi]at e2;have Jz:Ns[i]?=some y:=by
      have:(Ns ++[x])[i]?=some y:=e1;rw[Wb (by rw[c.len,<- I.len];exact hi)]at this;exact this
    have iJ:=c.same i y Jz e3;obtain⟨k1,k2⟩:=c.Ry y (XR Jz) e3;have v':kK X.env.scope y:=.inr k2
    obtain⟨u,ru,l⟩:=lk i y v iJ e2 v';refine⟨u,ru,.inr ⟨k1,?_⟩⟩;rcases l with⟨kl,_⟩ | ⟨_,d,ed,z⟩
    . rcases k2 with k2 | k2<;>(rw[k2]at kl;cases kl)
    . obtain⟨d',Nl⟩:=c.has y k1;have:=c.sub y d' Nl
      rw[ed]at this;cases this;obtain⟨o,ho,hd⟩:=z;exact⟨d,Nl,o,k _ _ ho,hd⟩
  cell:=fun y d e=>by
    obtain⟨v,o,ho,hd⟩:=I.cell y d (c.sub y d e);exact⟨v,o,k _ _ ho,hd⟩
  free:=I.bh.fresh (VU _)
  fI:=fun y d e=>I.fI y d (c.sub y d e)
  pin:=fun p hp=>by cases hp
  bh:=I.bh.kept k
  len:=by show(σ ++[none]).length=(Ns ++[x]).length;rw[VV,VV,I.len,c.len];rfl
theorem Bp(c:tr X Ns x sc cs)(I:Inv X pins σ H s){H':Hp}{C:Addr}(hC:∀ b∈fp,b≠C)(hf:∀ b∈fp,gG X pins H b)(hn:∀ b∈fp,H' b=none):∀ b∈fp,gG (eM X Ns x sc cs C s0 H0 fp) [] H' b:=fun b hb =>
  ⟨hn b hb,hC b hb,fun z=>(WD.mp (I.qA b z)).elim (hf b hb).2.1 (hf b hb).2.2.1,.inl hb,fun y d e=>(hf b hb).2.2.2.2.1 y d (c.sub y d e),fun p hp=>by cases hp⟩
end
section
variable {prog:Program}{w:World}{A:Around}{R:Result->Shared->Prop}{s:Shared}
theorem nR{elt target iter:Expr}{scope:Scope}{pos:Pos}{it acc:Value}{env:Env}(I:Nat->Shared->Prop)
    (turn:∀ n s,I n s->wpAny (model prog w) A (pyNext it) (fun r s₁=>match r with
      | none=>R (.ok .next) s₁
      | some v=>wpAny (model prog w) A (letOwnedTupleGo target it v) (fun _ Nm=>wpAny (model prog w) A (assign target env v) (fun _ s₂ =>
          wpAny (model prog w) A (forIn ifs true fun c r=>if r=true then do let ok <- isTrue c env (eval c env);pure (ForInStep.yield ok) else pure (ForInStep.yield r)) (fun ok s₃ =>
            if ok=true then wpAny (model prog w) A (eval elt env) (fun x s₄ =>
              wpAny (model prog w) A (call (.builtin "list.append") [acc,x]) (fun _ s₅=>∃ m,m<n/\I m s₅) (fun _ _=>False) s₄) (fun _ _=>False) s₃
            else ∃ m,m<n/\I m s₃) (fun _ _=>False) s₂) (fun _ _=>False) Nm) (fun _ _=>False) s₁) (fun _ _=>False) s)
    (n:Nat) (h:I n s) :
    codeAny (model prog w) A (.compLoop (.ListComp elt [⟨target,iter,ifs,0⟩] scope pos) 0 it acc env) R s:=by
  refine codeAny_loop rfl I (fun n s hI=>?_) n h;show wpAny _ A ((compTurn (.ListComp elt [⟨target,iter,ifs,0⟩] scope pos) 0 it acc env).onRaise (fun x=>do noteFrame x env;theTreesLotGoes x)) _ _ s
  refine wpAny_noted ?_;rw[compTurn_list];refine V0 (wpAny_standAt (V0 (VN (turn n s hI) (fun r s₁ h₁=>?_) fun _ _ h'=>h'.elim)));cases r with
  | none=>exact Ws h₁
  | some v =>
    refine V0 (VN h₁ (fun _ Nm Rz=>?_) fun _ _ h'=>h'.elim);refine V0 (VN Rz (fun _ s₂ h₂=>V0 (VN h₂ (fun ok s₃ h₃=>?_) fun _ _ h'=>h'.elim)) fun _ _ h'=>h'.elim);cases ok with
    | false=>exact Ws ⟨rfl,h₃⟩
    | true =>
      exact V0 (V0 (VN h₃ (fun x s₄ h₄=>V0 (VN h₄ (fun _ s₅ h₅=>Ws (Ws ⟨rfl,h₅⟩)) fun _ _ h'=>h'.elim)) fun _ _ h'=>h'.elim))
end
inductive MC (X:Cx) (cl:Nat->Addr):List Expr->FT->Prop where
  | nil:MC X cl [] f7
  | one {c:Expr}{t:FT} (h:MT X cl c t):MC X cl [c] t
theorem yY{t:FT}{p:PV}{r rs:List PV} (h:fw n t f ρ (p::r)=.ok rs) :
    (t (cT n ρ ++[some p])=.ok false/\fw n t f ρ r=.ok rs)\/(t (cT n ρ ++[some p])=.ok true/\∃ v vs,f (cT n ρ ++[some p])=.ok v/\fw n t f ρ r=.ok vs/\rs=v::vs):=by
  unfold fw at h;split at h
  . rename_i e1;split at h
    . rename_i v e2;split at h
      . rename_i vs e3;cases h;exact .inr ⟨e1,v,vs,e2,e3,rfl⟩
      . cases h
    . cases h
  . rename_i e1;exact .inl ⟨e1,h⟩
  . cases h
section
variable {X:Cx}{cl:Nat->Addr}
theorem Bq{t:FT} (h:MC X cl ifs t){b:Bool} (I:Inv X pins σ H s) (r:Rep X.K cl aA H0 Hf H σ ρ) (e:t ρ=.ok b) {Q:Bool->Shared->Prop}
    (ok:∀ s' ao H',Inv X pins σ H' s'->Ext Hf H ao H'->Q b s') :
    wpAny (model X.prog X.w) X.A (forIn ifs true fun c r=>if r=true then do let ok <- isTrue c X.env (eval c X.env);pure (ForInStep.yield ok) else pure (ForInStep.yield r)) Q (fun _ _=>False) s:=by
  cases h with
  | nil =>
    cases e;exact wpAny_tests_nil (ok s Hf H I (Ext.refl r.sub))
  | one h =>
    refine wpAny_tests_one (VN (h pins s σ aA H0 Hf H ρ I r (by rw[e];intro z;cases z)) (fun b' s' q=>?_) fun u s' q=>?_)
    . obtain⟨ao,H',e1,I',x⟩:=q;rw[e]at e1;cases e1;exact ok s' ao H' I' x
    . obtain⟨c,e1,_⟩:=q;rw[e]at e1;cases e1
theorem Ext.freeze(x:Ext Hf H aD H1){l:Addr}{o:HO}(h1:H1 l=some o)(h2:aD l=none)(h3:H l=none):Ext Hf H (upd aD l o) H1:=by
  refine⟨x.all,fun b u q=>?_,fun b u q=>?_,fun b n=>?_⟩
  . have:=x.bw b u q;by_cases e:b=l
    . subst e;rw[h2]at this;cases this
    . rw[a7 e];exact this
  . by_cases e:b=l
    . subst e;rw[bp]at q;cases q;exact h1
    . rw[a7 e]at q;exact x.sub b u q
  . have e:b≠l:=fun z=>n (by rw[z];exact h3);rw[a7 e];exact x.old b n
theorem vh{elt iter:Expr}{Ns:List Str}{x:Str}{px pos pos':Pos}{sc:Scope}{cs:List (Str×Addr)}{ifs:List Expr}{fa:FA}{t:FT}{f:FE}{n:Nat}{use:Option (Value->Sem Unit)}{Q:Value->Shared->Prop}{E:Value->Shared->Prop}
    {pins:List (Addr×Obj)}{s:Shared}{σ:SV}{aA H0 Hf H:Hp}{ρ:ay} (hc:X.calm=true) (c0:X.Ok->tr X Ns x sc cs) (hn:X.N.length=n) (i7:(Ns ++[x]).Nodup) (hi:MI X cl (.Name x px) iter fa)
    (ht:∀ C s H fp,MC (eM X Ns x sc cs C s H fp) cl ifs t) (hb:∀ C s H fp,ME (eM X Ns x sc cs C s H fp) cl elt f) (ic:∀ y,foldedSetIterable iter X.env y=pure y)
    (I:Inv X pins σ H s) (r:Rep X.K cl aA H0 Hf H σ ρ) (hs:cL n fa t f ρ≠.stuck) (hE:∀ u s',bW X cl pins σ Hf H (fa ρ) u s'->E u s')
    (hQ:∀(rs:List PV)(s5:Shared)(mR H5:Hp)(l C:Addr),cL n fa t f ρ=.ok (.lst rs)->Inv X pins σ H5 s5->Ext Hf H mR H5->Rp X.K cl mR (.ref l) (.lst rs)->gG X pins H5 C->(∃ m,s5.heap.Ns C m)->compPost (model X.prog X.w) X.A E use Q (.ref l) C (.ok .next) s5) :
    wpAny (model X.prog X.w) X.A (comprehension (.ListComp elt [⟨.Name x px,iter,ifs,0⟩] sc pos) sc X.env pos' (newList []) false (eval iter X.env) use) Q E s:=by
  have c:=c0 I.ok;have nJ:fa ρ≠.stuck:=fun z=>hs (by unfold cL;rw[z];rfl)
  refine Zt (use:=use) rfl ic c.Jx c.kind c.names (VN (hi pins s σ aA H0 Hf H ρ I r nJ) (fun xv s1 h1=>VN h1 (fun sF s2 h2=>?_) hE) hE);obtain⟨ps,vs,bG,e1,it,fp,tn,J,H2,e,I2,T,gi,f2,x2,ov,aT⟩:=h2;subst e;have ef:cL n fa t f ρ=kT n t f ρ ps:=by unfold cL;rw[e1];rfl
  have cu:kT n t f ρ ps≠.stuck:=by rw[<- ef];exact hs
  obtain⟨hz,rs,ec,ek⟩:ps.length<=1000000/\∃ rs,fw n t f ρ ps=.ok rs/\kT n t f ρ ps=.ok (.lst rs):=by
    unfold kT at cu ⊢;by_cases hz:ps.length<=1000000
    . rw[VP hz]at cu ⊢;cases ec:fw n t f ρ ps with
      | ok rs=>exact⟨hz,rs,rfl,rfl⟩
      | exc d=>rw[ec]at cu;exact absurd rfl cu
      | stuck=>rw[ec]at cu;exact absurd rfl cu
    . rw[VQ hz]at cu;exact absurd rfl cu
  have RA:cL n fa t f ρ=.ok (.lst rs):=ef.trans ek;have vi:H2 s2.heap.objs.size=none:=I2.bh.fresh (VU _)
  have Br:∀ b∈fp,b<s2.heap.objs.size:=fun b hb=>by
    obtain⟨o,ho,_⟩:=T.obj _ _ gi b hb;exact V8 ho
  refine wpAny_newList ?_;have k3:∀ b u,s2.heap.get? b=some u->(s2.heap.push { cls:=.type "list",data:=.seq ([]:List Value).toArray }).get? b=some u:=fun b u q=>VW _ q
  have I3:Inv X pins σ (upd H2 s2.heap.objs.size (.lst [])) { s2 with heap:=s2.heap.push { cls:=.type "list",data:=.seq ([]:List Value).toArray } } :=
    I2.laid (a:=s2.heap.objs.size) (o:=.lst []) (t':=s2.toks) k3 (VU _) ⟨Xp _,[],0,.nil,Wi _ rfl⟩
  generalize hl:s2.heap.objs.size=l at *;have iW:∀ b∈fp,gG X pins (upd H2 l (.lst [])) b:=fun b hb=>⟨by rw[a7 (Wz (Br b hb))];exact(f2 b hb).1,(f2 b hb).2⟩
  generalize Bs:({ s2 with heap:=s2.heap.push { cls:=.type "list",data:=.seq ([]:List Value).toArray } }:Shared)=s3 at I3 ⊢;have Bt:∀ b∈fp,b<s3.heap.objs.size:=fun b hb=>by
    rw[<- Bs];show b<(s2.heap.push _).objs.size
    rw[Yq,hl];exact Nat.lt_succ_of_lt (Br b hb)
  have nL:tn 0 s3.heap:=T.keep _ _ _ gi fun b _ o e=>by rw[<- Bs];exact k3 b o e
  refine wpAny_newFunctionEnv c.Bo (by intro y hy;simp at hy) (fun h1 JA vc=>?_) c.kind;have kC:∀ b o,s3.heap.get? b=some o->h1.get? b=some o:=fun b o e=>vc.extBut b o (Wz (V8 e)) (VW _ e)
  have IB:=xm (tk:=s3.toks+([]:List (Str×Value)).length) I3 c iW Bt JA kC;have x3:Ext bG H2 bG (upd H2 l (.lst [])):=Ext.yJ x2.sub vi (.lst [])
  have PX:bG l=none:=x2.sub.free vi;have Bu:tn 0 h1:=T.keep _ _ _ nL fun b _ o e=>kC b o e
  have rk:=r.keep x2;have Bv:σ.length=n:=by rw[I.len,hn]
  have nM:=aT.length;have JB:Ns.length=n:=c.len.trans hn
  have JC:(Ns ++[x])[n]?=some x:=by rw[Wm (by omega),JB];simp
  have Bw:(relabel sc X.env).names.lookup x=some .local:=lookup_relabel_local c.here;have JD:∀ b∈fp,b≠s3.heap.objs.size:=fun b hb=>Wz (Bt b hb)
  have iz:∀{H':Hp},(∀ b∈fp,H' b=none)->∀ b∈fp,gG (eM X Ns x sc cs s3.heap.objs.size s3 (upd H2 l (.lst [])) fp) [] H' b:=fun uC=>Bp c I3 JD iW uC;have gz:=hb s3.heap.objs.size s3 (upd H2 l (.lst [])) fp
  have Nn:=ht s3.heap.objs.size s3 (upd H2 l (.lst [])) fp;have loop:codeAny (model X.prog X.w) X.A (.compLoop (.ListComp elt [⟨.Name x px,iter,ifs,0⟩] sc pos) 0 (.ref it) (.ref l) (compEnvC sc cs s3.heap.objs.size X.env))
      (compPost (model X.prog X.w) X.A E use Q (.ref l) s3.heap.objs.size) { s3 with heap:=h1,toks:=s3.toks+([]:List (Str×Value)).length }:=by
    refine nR (fun m s'=>∃(k:Nat)(ys:List V)(qs rest:List PV)(ao H':Hp)(v:Option V),Inv (eM X Ns x sc cs s3.heap.objs.size s3 (upd H2 l (.lst [])) fp) [] (σ ++[v]) H' s'/\tn k s'.heap/\(∀ b∈fp,H' b=none)/\Ext bG H2 ao H'/\H' l=some (.lst ys)/\ao l=none /\
      bB X.K cl ao ys qs/\m=ps.length - k/\k<=ps.length/\qs.length<=k/\fw n t f ρ (ps.drop k)=.ok rest/\qs++rest=rs) ?_ ps.length
      ⟨0,[],[],rs,bG,upd H2 l (.lst []),none,IB,Bu,fun b hb=>(iW b hb).1,x3,bp,PX,.nil,by omega,Xp _,Xp _,ec,rfl⟩
    rintro m s4 ⟨k,ys,qs,rest,EV,H4,v4,I4,Bx,By,x4,EW,yZ,rq,rfl,hk,VD,e4,eq4⟩;have nN:aO bG H4:=x4.bw.trans x4.sub
    by_cases gJ:k<ps.length
    . obtain⟨go,yl⟩:=(ov H4 k nN).1 (by rw[nM];exact gJ);refine VN (T.item (eM X Ns x sc cs s3.heap.objs.size s3 (upd H2 l (.lst [])) fp) rfl rfl rfl hc k [] s4 (σ ++[v4]) H4 (fun _ _=>False) I4 (iz By) Bx go) (fun rr s5 ⟨u,hr,h5⟩=>?_) fun _ _ z=>z;subst hr;refine ft h5 fun _ s6 ⟨x6,H6,I6,r6,y6,vj,JE⟩=>?_;obtain⟨eH,JF⟩:=yl x6 H6 y6;subst eH;obtain⟨p6,Bz,AR⟩:=aT.get' JF;have DB:=AR.keep x4.bw
      have mw:ps.drop k=p6::ps.drop (k+1):=by
        rw[XT gJ];rw[V9 gJ]at Bz;rw[WL Bz]
      rw[mw]at e4;have JG:=I6.pinned (iz JE) (T.obj _ _ vj)
      refine XQ (fB (X:=eM X Ns x sc cs s3.heap.objs.size s3 (upd H2 l (.lst [])) fp) JG i7 JC (.inl Bw) r6 (fun s7 I7=>?_) (.inr Bw));have eσ:(σ ++[v4]).set n (some x6)=σ ++[some x6]:=by rw[<- Bv,aac _ _ (VU _)];simp
      rw[eσ]at I7;have r7:=(rk.keep x4).snoc DB
      rw[Bv]at r7;have again:∀{s9:Shared}{pG H9:Hp}{EX:List V}{BA ui:List PV},Inv (eM X Ns x sc cs s3.heap.objs.size s3 (upd H2 l (.lst [])) fp) ([]++lL fp s6.heap) (σ ++[some x6]) H9 s9->Ext bG H2 pG H9->H9 l=some (.lst EX)->pG l=none->bB X.K cl pG EX BA->BA.length<=k+1 ->
          fw n t f ρ (ps.drop (k+1))=.ok ui->BA++ui=rs ->
          ∃ m,m<ps.length - k/\∃(k:Nat)(ys:List V)(qs rest:List PV)(ao H':Hp)(v:Option V),Inv (eM X Ns x sc cs s3.heap.objs.size s3 (upd H2 l (.lst [])) fp) [] (σ ++[v]) H' s9/\tn k s9.heap/\(∀ b∈fp,H' b=none)/\Ext bG H2 ao H'/\H' l=some (.lst ys)/\ao l=none /\
            bB X.K cl ao ys qs/\m=ps.length - k/\k<=ps.length/\qs.length<=k/\fw n t f ρ (ps.drop k)=.ok rest/\qs++rest=rs:=fun{s9 pG H9 EX BA ui} I9 x9 BB qc RB RC RD RE=>by
        refine⟨ps.length - (k+1),by omega,k+1,EX,BA,ui,pG,H9,some x6,I9.fD,T.keep _ _ _ vj fun b hb o e=>(I9.pin (b,o) (We _ (We _ (fu hb e)))).1,fun b hb=>?_,x9,BB,qc,RB,rfl,gJ,RC,RD,RE⟩;obtain⟨o,e,d⟩:=T.obj _ _ vj b hb;exact(I9.pin (b,o) (We _ (We _ (fu hb e)))).2.1
      have Np:H6 l≠none:=by rw[EW];intro z;cases z
      rcases yY e4 with⟨et,e5⟩ | ⟨et,v,vk,ef,e5,er⟩
      . refine Bq Nn I7 r7 et fun s8 Nq H8 I8 x8=>?_;rw[VQ (by decide)];exact again I8 (x4.trans x8) (x8.all _ _ EW) (by rw[x8.old l Np];exact yZ) (rq.keep x8.bw) (by omega) e5 eq4
      . refine Bq Nn I7 r7 et fun s8 Nq H8 I8 x8=>?_;rw[VP rfl];have r8:=r7.keep x8
        refine VN (gz _ s8 _ aA H0 Nq H8 _ I8 r8 (by rw[ef];intro z;cases z)) (fun u s9 q9=>?_) fun u s9 q9=>?_
        . obtain⟨p9,v9,pG,H9,e9,I9,JH,x9,RF⟩:=q9;rw[ef]at e9;cases e9;have Nr:H8 l=some (.lst ys):=x8.all _ _ EW
          have BB:H9 l=some (.lst ys):=x9.all _ _ Nr;have qc:pG l=none:=by rw[x9.old l (by rw[Nr];intro z;cases z),x8.old l Np];exact yZ
          refine ft (nv (X:=eM X Ns x sc cs s3.heap.objs.size s3 (upd H2 l (.lst [])) fp) _ s9 _ H9 (.ref l) [v9] (.ref l) [u] (fun w H'=>H'=upd H9 l (.lst (ys ++[v9]))) I9 rfl (.cons JH .nil) ⟨l,ys,v9,rfl,rfl,BB,by rw[rq.length];exact Y7 (show qs.length<=1000000 by omega) (by decide),rfl⟩) fun w RG ⟨w',RH,BC,_,JI⟩=>?_;subst JI;have EY:=(x4.trans x8).trans x9
          have JJ:Ext bG H2 pG (upd H9 l (.lst (ys ++[v9]))):=by
            refine⟨fun b o q=>?_,EY.bw,fun b o q=>?_,EY.old⟩
            . have e:b≠l:=fun z=>by rw[z,vi]at q;cases q
              rw[a7 e];exact EY.all b o q
            . have e:b≠l:=fun z=>by rw[z,qc]at q;cases q
              rw[a7 e];exact EY.sub b o q
          exact again BC JJ bp qc (((rq.keep x8.bw).keep x9.bw).append (.cons RF .nil)) (by rw[VV];simp;omega) e5 (by rw[Xt,<- eq4,er];rfl)
        . obtain⟨d,e9,_⟩:=q9;rw[ef]at e9;cases e9
    . have u7:k=ps.length:=by omega
      subst u7;refine VN (T.done (eM X Ns x sc cs s3.heap.objs.size s3 (upd H2 l (.lst [])) fp) rfl rfl rfl hc ps.length [] s4 (σ ++[v4]) H4 (fun _ _=>False) I4 (iz By) Bx ((ov H4 ps.length nN).2 (by rw[nM];exact VU _))) (fun rr s5 ⟨hr,I5⟩=>?_) fun _ _ z=>z;subst hr;rw[YA]at e4;cases e4;rw[Wj]at eq4;subst eq4;obtain⟨m5,JK,_⟩:=I5.loc;have xx:=x2.trans x4
      have RI:H l=none:=by
        cases q:H l with
        | none=>rfl
        | some o=>have:=x2.all l o q;rw[vi]at this;cases this
      have IX:Inv X pins σ H4 s5:=I3.t7 I5.os I5.base I5.bh I5.bare fun b hb=>⟨(iW b hb).2.2.2.1,(iW b hb).2.1,(iW b hb).2.2.2.2.1,(iW b hb).2.2.2.2.2⟩;exact hQ qs s5 (upd EV l (.lst ys)) H4 l s3.heap.objs.size RA IX (xx.freeze EW yZ RI) (.lst (fV.of bp) (rq.keep (dk yZ _))) (I3.rT (VU _) I5.free) ⟨m5,JK⟩
  exact codeAny_compStart_list loop (T.self _ 0 _ _ _ Bu loop)
theorem nS{s:Shared} (I:Inv X pins σ H s) (hf:gG X pins H C) (hs:Heap.SameBut C s.heap h'):Inv X pins σ H { s with heap:=h' } :=
  I.turned (t':=s.toks) (fun b o hb e=>(hs.2 b hb).trans e) hf.1 hf.2.1 hf.2.2.2.1 hf.2.2.2.2.1 hf.2.2.2.2.2
theorem GN{elt iter:Expr}{px pos:Pos}{t:FT}{n:Nat}(hc:X.calm=true)(c0:X.Ok->tr X Ns x sc cs)(hn:X.N.length=n)(i7:(Ns ++[x]).Nodup)(hi:MI X cl (.Name x px) iter fa)
    (ht:∀ C s H fp,MC (eM X Ns x sc cs C s H fp) cl ifs t) (hb:∀ C s H fp,ME (eM X Ns x sc cs C s H fp) cl elt f) (ic:∀ y,foldedSetIterable iter X.env y=pure y:=by intro _;rfl) :
    ME X cl (.ListComp elt [⟨.Name x px,iter,ifs,0⟩] sc pos) (cL n fa t f):=by
  refine⟨?_⟩;intro pins s σ aA H0 Hf H ρ I r hs;rw[eval_ListComp];refine vh hc c0 hn i7 hi ht hb ic I r hs (fun u s' ⟨d,e1,y⟩=>⟨d,by unfold cL;rw[e1];rfl,y⟩) fun rs s5 mR H5 l C ek I5 x5 rp hf ⟨m,hm⟩=>?_;exact⟨m,hm,fun h' BD=>⟨.lst rs,.ref l,mR,H5,ek,nS I5 hf BD,rfl,x5,rp⟩⟩
theorem xn{i:Nat}{y:Str}{py nT:Pos}{elt iter:Expr}{px pos:Pos}{t:FT}{n:Nat}(hN:X.N.Nodup)(hy:X.N[i]?=some y)(hl:Loc X.env.scope y)(hc:X.calm=true)(c0:X.Ok->tr X Ns x sc cs)(hn:X.N.length=n)(i7:(Ns ++[x]).Nodup)(hi:MI X cl (.Name x px) iter fa)
    (ht:∀ C s H fp,MC (eM X Ns x sc cs C s H fp) cl ifs t) (hb:∀ C s H fp,ME (eM X Ns x sc cs C s H fp) cl elt f) (ic:∀ y,foldedSetIterable iter X.env y=pure y:=by intro _;rfl)
    (ib:swapsWith (.ListComp elt [⟨.Name x px,iter,ifs,0⟩] sc pos) (some (.Name y py)) nT.line X.env=pure true:=by rfl)
    (hf:X.fn y=true\/X.env.scope.names.lookup y=some .local:=by first | exact .inl rfl | exact .inr rfl | assumption) :
    MS X cl (.Assign [.Name y py] (.ListComp elt [⟨.Name x px,iter,ifs,0⟩] sc pos) nT) (bf i (cL n fa t f)):=by
  refine⟨?_⟩;intro pins s σ aA H0 Hf H ρ I r hs;unfold bf at hs ⊢;have cu:cL n fa t f ρ≠.stuck:=fun z=>hs (by rw[z];rfl)
  rw[exec_Assign_Name_used _ _ _ _ ib];refine V0 (wpAny_standAt (V0 ?_));show wpAny _ X.A (do let _ <- comprehension (.ListComp elt [⟨.Name x px,iter,ifs,0⟩] sc pos) sc X.env _ (newList []) false (eval iter X.env) (some (assign (.Name y py) X.env))) _ _ s
  have hE:∀ u s',bW X cl pins σ Hf H (fa ρ) u s'->iU X cl pins aA H0 Hf (jS (cL n fa t f ρ) ρ fun v=>.next (ρ.set i (some v))) u s':=fun u s' ⟨d,e1,z⟩=>by
    have e2:cL n fa t f ρ=.exc d:=by unfold cL;rw[e1];rfl
    rw[e2];exact iV r z
  refine V0 (VN (vh (use:=some (assign (.Name y py) X.env)) (Q:=fun _ s'=>nK X cl pins aA H0 Hf (jS (cL n fa t f ρ) ρ fun v=>.next (ρ.set i (some v))) .next s') hc c0 hn i7 hi ht hb ic I r cu hE ?_) (fun _ s' hq=>Ws (Ws hq)) fun _ _ e=>e);intro rs s5 mR H5 l C ek I5 x5 rp JL RJ;obtain⟨m,hm⟩:=RJ;show wpAny _ X.A (assign (.Name y py) X.env (.ref l)) _ _ s5
  have u4:i<σ.length:=by rw[I.len];exact(VS.mp hy).1
  refine XQ (sD I5 hN hy hl (v:=.ref l) rfl (fun s6 I6 h6=>?_) hf);obtain⟨a,RK,ha⟩:=h6;have wN:C≠a:=by
    rcases ha with rfl | ha
    . exact JL.2.1
    . exact fun z=>JL.2.2.2.2.1 y a ha z.symm
  refine⟨m,hm.sameBut RK wN,fun h' BD=>?_⟩;rw[ek];exact⟨_,_,mR,H5,rfl,nS I6 JL BD,(r.keep x5).set i rp u4,x5.bw⟩
end
noncomputable def kr(sc:Scope)(env:Env):List (Str×Addr):=sc.names.foldl (fun cs y=>if y.2 == .free then (y.1,(env.cells.lookup y.1).getD 0)::cs else cs) []
theorem GO{sc:Scope}{env:Env}(h:∀ y∈sc.names,y.2=.free->∃ c,env.cells.lookup y.1=some c):closureFor sc env=pure (kr sc env):=by
  unfold closureFor kr;generalize sc.names=l at h;have go:∀(l:List (Str×NameKind))(cs:List (Str×Addr)),(∀ y∈l,y.2=.free->∃ c,env.cells.lookup y.1=some c) ->
      (forIn l cs (fun(x:Str×NameKind) (r:List (Str×Addr))=>match x with
        | (name,kind)=>if (kind == NameKind.free)=true then do
            let a <- cellOf env name
            pure (ForInStep.yield ((name,a)::r)) else pure (ForInStep.yield r)):Sem (List (Str×Addr)))=pure (l.foldl (fun cs y=>if y.2 == .free then (y.1,(env.cells.lookup y.1).getD 0)::cs else cs) cs):=by
    intro l
    induction l with
    | nil=>intro cs _;rfl
    | cons y r ih =>
      intro cs hl;obtain⟨n,k⟩:=y;rw[List.forIn_cons,YI];by_cases hk:(k == NameKind.free)=true
      . obtain⟨d,hd⟩:=hl (n,k) Wf (by simpa using hk);have e:cellOf env n=pure d:=by
          have oY:env.cells.lookup n=some d:=hd;unfold cellOf;rw[oY]
        have oY:env.cells.lookup n=some d:=hd;dsimp only;rw[VP hk,VP hk,e,oY];exact ih _ fun z hz=>hl z (V6 _ hz)
      . dsimp only;rw[VQ hk,VQ hk];exact ih _ fun z hz=>hl z (V6 _ hz)
  exact(Xq (fun(m:Sem (List (Str×Addr)))=>m >>= fun cs=>pure cs) (go l [] h)).trans rfl
theorem xo{env:Env}:∀(l:List (Str×NameKind))(cs:List (Str×Addr))(y:Str)(c:Addr),(∀ z∈l,z.2=.free->∃ c,env.cells.lookup z.1=some c) ->
    (l.foldl (fun cs y=>if y.2 == .free then (y.1,(env.cells.lookup y.1).getD 0)::cs else cs) cs).lookup y=some c->cs.lookup y=some c\/env.cells.lookup y=some c
  | [],_,_,_,_,h=>.inl h
  | (n,k)::r,cs,y,c,hl,h=>by
    rw[YI]at h;rcases xo r _ y c (fun z hz=>hl z (V6 _ hz)) h with q | q
    . by_cases hk:(k == NameKind.free)=true
      . rw[VP hk]at q;obtain⟨d,hd⟩:=hl (n,k) Wf (by simpa using hk);have oY:env.cells.lookup n=some d:=hd
        rw[oY,Wa]at q;by_cases e:y == n
        . rw[e]at q;have e':=Wo.mp e
          subst e';exact .inr (by rw[oY];exact q)
        . have e2:(y == n)=false:=by simpa using e
          rw[e2]at q;exact .inl q
      . rw[VQ hk]at q;exact .inl q
    . exact .inr q
theorem vm{env:Env}:∀(l:List (Str×NameKind))(cs:List (Str×Addr))(y:Str),((∃ c,cs.lookup y=some c)\/(y,NameKind.free)∈l) ->
    ∃ c,(l.foldl (fun cs y=>if y.2 == .free then (y.1,(env.cells.lookup y.1).getD 0)::cs else cs) cs).lookup y=some c
  | [],cs,y,h=>by
    rcases h with h | h
    . exact h
    . cases h
  | (n,k)::r,cs,y,h=>by
    rw[YI];refine vm r _ y ?_;rcases h with⟨c,h⟩ | h
    . left;by_cases hk:(k == NameKind.free)=true
      . rw[VP hk,Wa];by_cases e:(y == n)=true
        . rw[e];exact⟨_,rfl⟩
        . have e2:(y == n)=false:=by simpa using e
          rw[e2];exact⟨c,h⟩
      . rw[VQ hk];exact⟨c,h⟩
    . rcases WD.mp h with e | e
      . left;have e1:y=n:=Xq Prod.fst e
        have e2:NameKind.free=k:=Xq Prod.snd e;subst e1 e2;rw[VP (by rfl),Wa];have:(y == y)=true:=WM y
        rw[this];exact⟨_,rfl⟩
      . exact .inr e
noncomputable def jN(N:List Str)(x:Str)(sc es:Scope):Bool :=
  sc.kind == .function&&es.kind == .function&&(sc.names.all fun y=>y.2 != .cell)&&(sc.names.all fun y=>y.2 != .local||sc.names.lookup y.1 == some .local)&&(sc.names.lookup x == some .local) &&
  (sc.names.all fun y=>y.2 != .free||es.names.lookup y.1 == some .cell||es.names.lookup y.1 == some .free)&&(N.all fun y=>sc.names.lookup y != some .local) && !N.contains x
theorem ju{α:Type}:∀{l:List (Str×α)}{y:Str}{k:α},l.lookup y=some k->(y,k)∈l
  | [],_,_,h=>by cases h
  | (n,j)::r,y,k,h=>by
    rw[Wa]at h;by_cases e:(y == n)=true
    . rw[e]at h;cases h;rw[Wo.mp e];exact Wf
    . have e2:(y == n)=false:=by simpa using e
      rw[e2]at h;exact V6 _ (ju h)
theorem mz(cond:Str->NameKind->Bool)(y9:∀ n k,cond n k=true->k=.free):∀{l:List (Str×NameKind)}{y:Str}{k:NameKind},
    (l.map fun z=>if cond z.1 z.2 then (z.1,NameKind.cell) else (z.1,z.2)).lookup y=some k->(l.lookup y=some k)\/(k=.cell/\l.lookup y=some .free)
  | [],_,_,h=>by cases h
  | (n,j)::r,y,k,h=>by
    rw[VZ]at h;dsimp only at h;by_cases hc:cond n j=true
    . rw[VP hc,Wa]at h;rw[Wa];by_cases e:(y == n)=true
      . rw[e]at h ⊢;cases h;right;exact⟨rfl,by rw[y9 n j hc]⟩
      . have e2:(y == n)=false:=by simpa using e
        rw[e2]at h ⊢;exact mz cond y9 h
    . rw[VQ hc,Wa]at h;rw[Wa];by_cases e:(y == n)=true
      . rw[e]at h ⊢;exact .inl h
      . have e2:(y == n)=false:=by simpa using e
        rw[e2]at h ⊢;exact mz cond y9 h
theorem iX{sc:Scope}{env:Env}{y:Str}{k:NameKind}(h:(relabel sc env).names.lookup y=some k):(sc.names.lookup y=some k)\/(k=.cell/\sc.names.lookup y=some .free) :=
  mz (fun n k=>k == NameKind.free&&env.scope.kind == .function&&env.kindOf n == some .cell) (fun n k h=>Wo.mp (WV.mp (WV.mp h).1).1) h
theorem nU{X:Cx}{Ns:List Str}(h:jN Ns x sc X.env.scope=true)(hl:Ns.length=X.N.length)(JM:∀ (i:Nat) (y:Str),Ns[i]?=some y->kK (relabel sc X.env) y->X.N[i]?=some y)(ok:X.Ok):tr X Ns x sc (kr sc X.env):=by
  unfold jN at h;simp only[VR,Wo,Ww,X3,bne_iff_ne,ne_eq,WZ]at h;obtain⟨⟨⟨⟨⟨⟨⟨h1,h2⟩,h3⟩,h4⟩,h5⟩,h6⟩,h7⟩,h8⟩:=h;have free:∀ y∈sc.names,y.2=.free->(X.env.kindOf y.1=some .cell\/X.env.kindOf y.1=some .free):=fun y hy e=>by
    rcases h6 y hy with(z | z) | z
    . exact absurd e z
    . exact .inl z
    . exact .inr z
  have cells:∀ y∈sc.names,y.2=.free->∃ c,X.env.cells.lookup y.1=some c:=fun y hy e=>ok.has y.1 (free y hy e);have kinds:∀ y,((relabel sc X.env).names.lookup y=some .cell\/(relabel sc X.env).names.lookup y=some .free)->(y,NameKind.free)∈sc.names:=fun y hy=>by
    rcases hy with hy | hy
    . rcases iX hy with z | ⟨_,z⟩
      . exact absurd rfl (h3 (y,.cell) (ju z))
      . exact ju z
    . rcases iX hy with z | ⟨z,_⟩
      . exact ju z
      . cases z
  refine⟨GO cells,h1,fun y hy=>h3 y hy,fun y hy e=>?_,h5,fun y c e=>?_,fun y hy=>vm _ _ y (.inr (kinds y hy)),fun y hy v=>?_,fun z=>?_,hl,JM⟩
  . rcases h4 y hy with z | z
    . exact absurd e z
    . exact z
  . rcases xo _ _ y c cells e with q | q
    . cases q
    . exact q
  . rcases v with v | v
    . exfalso;rcases iX v with z | ⟨z,_⟩
      . exact h7 y hy z
      . cases z
    . exact⟨v,free _ (kinds y v) rfl⟩
  . rw[WO.mpr z]at h8;cases h8
section
variable {P:Program}{w:World}{K:PySem.W.Frag}{mg:Str->Option Value}{base:Heap}{cl:Nat->Addr}
theorem zA{N:List Str}{elt iter:Expr}{px pos:Pos}{t:FT}{n:Nat}
    (i7:N.Nodup) (fQ:jN N x sc scope=true) (hn:N.length=n) (hi:MI (aV P w K mg base cl N qual scope f cd A outer s H E) cl (.Name x px) iter fa)
    (ht:∀ C s' H' fp,MC (eM (aV P w K mg base cl N qual scope f cd A outer s H E) N x sc (kr sc (aV P w K mg base cl N qual scope f cd A outer s H E).env) C s' H' fp) cl ifs t)
    (hb:∀ C s' H' fp,ME (eM (aV P w K mg base cl N qual scope f cd A outer s H E) N x sc (kr sc (aV P w K mg base cl N qual scope f cd A outer s H E).env) C s' H' fp) cl elt g)
    (ic:∀ y,foldedSetIterable iter (aV P w K mg base cl N qual scope f cd A outer s H E).env y=pure y:=by intro _;rfl) :
    ME (aV P w K mg base cl N qual scope f cd A outer s H E) cl (.ListComp elt [⟨.Name x px,iter,ifs,0⟩] sc pos) (cL n fa t g):=by
  refine GN rfl (fun ok=>nU fQ rfl (fun _ _ h _=>h) ok) hn ?_ hi ht hb ic;show(N ++[x]).Nodup
  have hx:x ∉ N:=fun z=>by
    unfold jN at fQ;have:=(WV.mp fQ).2
    rw[WO.mpr z]at this;cases this
  exact X7.mpr ⟨i7,W3.mpr ⟨Ye,X8⟩,fun a ha b hb e=>hx (by
    rw[Wx]at hb;rw[<- hb,<- e];exact ha)⟩
noncomputable def sh(N Ns:List Str)(sc:Scope):Bool:=Ns.length == N.length&&decide Ns.Nodup&&((List.range N.length).all fun i=>N[i]? == Ns[i]? || (match Ns[i]? with
  | some y=>sc.names.lookup y == none
  | none=>true))
theorem vn{N Ns:List Str}{env:Env}(h:sh N Ns sc=true)(i:Nat)(y:Str)(e:Ns[i]?=some y)(v:kK (relabel sc env) y):N[i]?=some y:=by
  unfold sh at h;simp only[VR,Wo,Ww,X3,XU]at h;obtain⟨⟨h1,_⟩,h2⟩:=h;have hi:i<N.length:=by rw[<- h1];exact(VS.mp e).1
  rcases h2 i hi with z | z
  . rw[z];exact e
  . rw[e]at z;have z':sc.names.lookup y=none:=by simpa using z
    exfalso;have:∀ k,(relabel sc env).names.lookup y≠some k:=fun k w=>by
      rcases iX w with q | ⟨_,q⟩<;>(rw[z']at q;cases q)
    rcases v with v | v | v
    . exact this _ v
    . exact this _ v
    . exact this _ v
theorem RL{N:List Str}{i:Nat}{y:Str}{py nT:Pos}{elt iter:Expr}{px pos:Pos}{t:FT}{n:Nat}
    (i7:N.Nodup) (hy:N[i]?=some y) (hl:Loc scope y) (fQ:jN N x sc scope=true) (hn:N.length=n) (hi:MI (aV P w K mg base cl N qual scope f cd A outer s H E) cl (.Name x px) iter fa)
    (ht:∀ C s' H' fp,MC (eM (aV P w K mg base cl N qual scope f cd A outer s H E) N x sc (kr sc (aV P w K mg base cl N qual scope f cd A outer s H E).env) C s' H' fp) cl ifs t)
    (hb:∀ C s' H' fp,ME (eM (aV P w K mg base cl N qual scope f cd A outer s H E) N x sc (kr sc (aV P w K mg base cl N qual scope f cd A outer s H E).env) C s' H' fp) cl elt g)
    (ic:∀ y,foldedSetIterable iter (aV P w K mg base cl N qual scope f cd A outer s H E).env y=pure y:=by intro _;rfl)
    (ib:swapsWith (.ListComp elt [⟨.Name x px,iter,ifs,0⟩] sc pos) (some (.Name y py)) nT.line (aV P w K mg base cl N qual scope f cd A outer s H E).env=pure true:=by rfl) :
    MS (aV P w K mg base cl N qual scope f cd A outer s H E) cl (.Assign [.Name y py] (.ListComp elt [⟨.Name x px,iter,ifs,0⟩] sc pos) nT) (bf i (cL n fa t g)):=by
  refine xn i7 hy hl rfl (fun ok=>nU fQ rfl (fun _ _ h _=>h) ok) hn ?_ hi ht hb ic ib (.inl rfl);show(N ++[x]).Nodup
  have hx:x ∉ N:=fun z=>by
    unfold jN at fQ;have:=(WV.mp fQ).2
    rw[WO.mpr z]at this;cases this
  exact X7.mpr ⟨i7,W3.mpr ⟨Ye,X8⟩,fun a ha b hb e=>hx (by
    rw[Wx]at hb;rw[<- hb,<- e];exact ha)⟩
end
def mC(m:Str)(id:String):Prop:=∀{M:Model}{A:Around}{E:Value->Shared->Prop}{s:Shared}{x:Str}{t:Tok}{pl:Sem Bool}{Q:Value×List Value->Shared->Prop},
  Q (Value.builtin id,[Value.str x t]) s->wpAny M A (getMethod (Value.str x t) m pl) Q E s
noncomputable def zB(F:List PV->R PV)(gv:R (List PV)):PV->R PV
  | .str z=>gv.bind fun vs=>F (.str z::vs)
  | _=>.stuck
theorem xp{F:List PV->R PV}(h:zB F gv q≠.stuck):∃ z,q=.str z:=by
  cases q with
  | str z=>exact⟨z,rfl⟩
  | _=>exact absurd rfl h
noncomputable def e8(F:List PV->R PV)(o:FE)(g:FA):FE:=fun ρ=>(o ρ).bind (zB F (g ρ))
section
variable {X:Cx}{cl:Nat->Addr}{pins:List (Addr×Obj)}{s:Shared}{σ:SV}{aA H0 Hf H aD H1:Hp}{ρ:ay}{α:Type}
theorem gm{o:Expr}{fo:FE}{e:Expr}{es:List Expr}{g:FA}{m:Str}{id:String}{F:List PV->R PV}{apos pos:Pos}{pl:Sem Bool}(hg:mC m id)(hc:ix X cl (.builtin id) F)
    (ho:ME X cl o fo) (ha:MA X cl (e::es) g)
    (dE:starEach (e::es) X.env=(false,eval e X.env)::starEach es X.env:=by rfl) (dD:(backTo pos (starEach (e::es) X.env)).any (·.1)=false:=by rfl)
    (ht:eval (.Call (.Attribute o m apos) (e::es) [] pos) X.env=(do
      let ov <- eval o X.env
      standAt apos.atName
      let (f,first) <- holding [ov] (getMethod ov m pl)
      callWith pos f first (backTo pos (starEach (e::es) X.env)) (backToKw pos (keywordEach [] X.env))):=by rfl) :
    ME X cl (.Call (.Attribute o m apos) (e::es) [] pos) (e8 F fo g):=by
  refine⟨?_⟩;intro pins s σ aA H0 Hf H ρ I r hs;unfold e8 at hs ⊢;refine WN (pl:=pl) (ho.run I r (Ext.refl r.sub) hs fun q v u s1 aD H1 e1 I1 rv x1 rp=>?_) ht;rw[e1]at hs ⊢;obtain⟨z,rfl⟩:=xp hs;cases rp;obtain⟨t,rfl⟩:=rv;refine hg ?_;refine W7 dD ?_;have cu:(g ρ).bind (fun vs=>F (.str z::vs))≠.stuck:=hs
  show wpAny _ _ _ _ (bW X cl pins σ Hf H ((g ρ).bind fun vs=>F (.str z::vs))) s1;have run:=ha.run (Q:=fun us s2=>wpAny (model X.prog X.w) X.A (call (Value.builtin id) ([Value.str z t]++us)) (eU X cl pins σ Hf H ((g ρ).bind fun vs=>F (.str z::vs))) (bW X cl pins σ Hf H ((g ρ).bind fun vs=>F (.str z::vs))) s2) pos I1 (r.keep x1) x1 cu fun qs vs us s2 bG H2 xk e2 I2 kR x2 aT=>?_
  . rw[dE]at run ⊢;exact Xe run
  . rw[e2]at cu ⊢;have kN:=x1.trans x2
    exact VN (hc pins s2 σ bG H2 (.str z::vs) (.str z t::us) (.str z::qs) I2 x2.sub (.cons ⟨t,rfl⟩ kR) (.cons (.str z) aT) cu) (fun _ _ q=>q.from (e0:=kN)) fun _ _ q=>q.from (e0:=kN)
theorem qd{o:Expr}{fo:FE}{m:Str}{id:String}{F:List PV->R PV}{apos pos:Pos}{pl:Sem Bool}(hg:mC m id)(hc:ix X cl (.builtin id) F)
    (ho:ME X cl o fo)
    (ht:eval (.Call (.Attribute o m apos) [] [] pos) X.env=(do
      let ov <- eval o X.env
      standAt apos.atName
      let (f,first) <- holding [ov] (getMethod ov m pl)
      callWith pos f first (backTo pos (starEach [] X.env)) (backToKw pos (keywordEach [] X.env))):=by rfl) :
    ME X cl (.Call (.Attribute o m apos) [] [] pos) (e8 F fo ax):=by
  refine⟨?_⟩;intro pins s σ aA H0 Hf H ρ I r hs;unfold e8 at hs ⊢;refine WN (pl:=pl) (ho.run I r (Ext.refl r.sub) hs fun q v u s1 aD H1 e1 I1 rv x1 rp=>?_) ht;rw[e1]at hs ⊢;obtain⟨z,rfl⟩:=xp hs;cases rp;obtain⟨t,rfl⟩:=rv;refine hg ?_;refine W7 rfl (aaR ?_);have cu:F [.str z]≠.stuck:=hs
  show wpAny _ _ (call (Value.builtin id) [Value.str z t]) (eU X cl pins σ Hf H (F [.str z])) (bW X cl pins σ Hf H (F [.str z])) s1;exact VN (hc pins s1 σ aD H1 [.str z] [.str z t] [.str z] I1 x1.sub (.cons ⟨t,rfl⟩ .nil) (.cons (.str z) .nil) cu) (fun _ _ q=>q.from (e0:=x1)) fun _ _ q=>q.from (e0:=x1)
noncomputable def kW:List PV->Option (List Str)
  | []=>some []
  | .str z::r=>(kW r).map (z::·)
  | _=>none
noncomputable def j0:List PV->R PV
  | [.str sep,.lst l]=>(match kW l with
    | some ts=>if JoinOk sep ts then .ok (.str (Txt.join sep ts)) else .stuck
    | none=>.stuck)
  | _=>.stuck
theorem tu:∀{l:List PV}{ts:List Str}{vs:List V}{us:List Value},kW l=some ts->bB X.K cl Hf vs l->Vals vs us->∃ st:List (Str×Tok),us=strValues st/\st.map (·.1)=ts
  | [],ts,vs,us,h,r,w=>by
    cases r;cases w;cases h;exact⟨[],rfl,rfl⟩
  | p::l,ts,vs,us,h,r,w=>by
    cases r with
    | cons r1 r2 =>
      cases w with
      | cons w1 w2 =>
        cases p<;>first | (simp[kW]at h;done) | skip
        rename_i z;cases r1;obtain⟨t,rfl⟩:=w1;simp only[kW,ZQ]at h;obtain⟨RM,h1,rfl⟩:=h;obtain⟨st,e1,e2⟩:=tu h1 r2 w2;exact⟨(z,t)::st,by rw[e1];rfl,by rw[VZ,e2]⟩
theorem qV:ix X cl (.builtin "str.join") j0:=by
  intro pins s σ Hf H xs us ps I sm rv aT hs;have:∃ sep l ts,ps=[.str sep,.lst l]/\kW l=some ts/\JoinOk sep ts=true/\j0 ps=.ok (.str (Txt.join sep ts)):=by
    unfold j0 at hs ⊢;split at hs
    . next sep l =>
      split at hs
      . next ts e =>
        obtain⟨h1,h2⟩:=cX hs;exact⟨sep,l,ts,rfl,e,h1,by simp only[e,h1,W2]⟩
      . exact absurd rfl hs
    . exact absurd rfl hs
  obtain⟨sep,l,ts,rfl,e1,e2,e3⟩:=this;rw[e3];obtain⟨v,w,rfl,rp,rq⟩:=ug aT;cases rp;cases rq with
  | lst h r =>
    cases rv with
    | cons w1 w2 =>
      cases w2 with
      | cons w2 w3 =>
        cases w3;obtain⟨t,rfl⟩:=w1;cases w2;obtain⟨its,wl,pl,z⟩:=I.list (sm.seq h);obtain⟨st,rfl,e5⟩:=tu e1 r wl;exact SC.join pl.isList e5 e2 fun t' k=>⟨_,.str _,Hf,H,rfl,I.tok _,⟨_,rfl⟩,Ext.refl sm,.str _⟩
theorem oG:mC "join" "str.join":=GM.join
noncomputable def ku:List PV->R PV
  | [.str z]=>if (Txt.upper z).length<=sizeLine then .ok (.str (Txt.upper z)) else .stuck
  | _=>.stuck
theorem vo{n:Nat}(h:n<=sizeLine):Builtin.Str.tooLong n=false:=by
  unfold Builtin.Str.tooLong;simpa using h
theorem si:ix X cl (.builtin "str.upper") ku:=by
  intro pins s σ Hf H xs us ps I sm rv aT hs;have:∃ z,ps=[.str z]/\(Txt.upper z).length<=sizeLine/\ku ps=.ok (.str (Txt.upper z)):=by
    unfold ku at hs ⊢;split at hs
    . obtain⟨h1,h2⟩:=cX hs;exact⟨_,rfl,h1,h2⟩
    . exact absurd rfl hs
  obtain⟨z,rfl,h1,h2⟩:=this;rw[h2];obtain⟨v,rfl,rp⟩:=iT aT;cases rp;obtain⟨u,rfl,ru⟩:=rv.one;obtain⟨t,rfl⟩:=ru;exact SC.upper (vo h1) ⟨_,.str _,Hf,H,rfl,I.tok _,⟨_,rfl⟩,Ext.refl sm,.str _⟩
theorem qe:mC "upper" "str.upper":=GM.upper
end
noncomputable def jD:List PV->Option (List Bool)
  | []=>some []
  | .bl b::r=>(jD r).map (b::·)
  | _=>none
noncomputable def lE:List PV->R PV
  | [.lst l]=>(match jD l with
    | some bs=>.ok (.bl (bs.all id))
    | none=>.stuck)
  | _=>.stuck
section
variable {X:Cx}{cl:Nat->Addr}{pins:List (Addr×Obj)}{s:Shared}{σ:SV}{aA H0 Hf H aD H1:Hp}{ρ:ay}{α:Type}
inductive jE:List Value->List Bool->Prop
  | nil:jE [] []
  | cons (b:Bool) {vs:List Value}{bs:List Bool}:jE vs bs->jE (.bool b::vs) (b::bs)
theorem jE.get:∀{vs:List Value}{bs:List Bool},jE vs bs->∀(i:Nat)(v:Value),vs[i]?=some v->∃ b,bs[i]?=some b/\v=.bool b:=by
  intro vs bs h
  induction h with
  | nil=>intro i v e;simp at e
  | cons b _ ih =>
    intro i v e;cases i with
    | zero=>simp at e;subst e;exact⟨b,rfl,rfl⟩
    | succ i=>simpa using ih i v (by simpa using e)
theorem jE.len:∀{vs:List Value}{bs:List Bool},jE vs bs->vs.length=bs.length:=by
  intro vs bs h
  induction h with
  | nil=>rfl
  | cons b _ ih=>simp[ih]
theorem qW:∀{l:List PV}{bs:List Bool}{vs:List V}{us:List Value},jD l=some bs->bB X.K cl Hf vs l->Vals vs us->jE us bs
  | [],bs,vs,us,h,r,w=>by
    cases r;cases w;cases h;exact .nil
  | p::l,bs,vs,us,h,r,w=>by
    cases r with
    | cons r1 r2 =>
      cases w with
      | cons w1 w2 =>
        cases p<;>first | (simp[jD]at h;done) | skip
        rename_i z;cases r1;cases w1;simp only[jD,ZQ]at h;obtain⟨RM,h1,rfl⟩:=h;exact .cons _ (qW h1 r2 w2)
theorem GP(bs:List Bool):((List.range bs.length).all fun i=>(bs[i]?).getD true)=bs.all id:=by
  rw[Bool.eq_iff_iff,Ww,Ww];constructor
  . intro h b hb;obtain⟨i,hi,e⟩:=List.getElem_of_mem hb;have:=h i (XU.mpr hi)
    simp only[V9 hi,Xy,e]at this;exact this
  . intro h i hi;have Nt:=XU.mp hi
    simp only[V9 Nt,Xy];exact h _ (Zu Nt)
theorem GQ{h':Heap}{s:Shared}(hk:∀ b x,b ∉ [s.heap.objs.size]->(s.heap.push o).get? b=some x->h'.get? b=some x):∀ b x,s.heap.get? b=some x->h'.get? b=some x :=
  fun b x e=>hk b x (fun hm=>by rw[Wx.mp hm]at e;exact Xk _ (V8 e)) (VW _ e)
theorem GR(hs:lE ps≠.stuck):∃ l bs,ps=[.lst l]/\jD l=some bs/\lE ps=.ok (.bl (bs.all id)):=by
  unfold lE at hs ⊢;split at hs
  . next l =>
    split at hs
    . next bs e=>exact⟨l,bs,rfl,e,by simp only[e]⟩
    . exact absurd rfl hs
  . exact absurd rfl hs
theorem EZ(hc:X.calm=true):ix X cl (.builtin "all") lE:=by
  intro pins s σ Hf H xs us ps I sm rv aT hs;obtain⟨l,bs,rfl,e1,e2⟩:=GR hs;rw[e2];obtain⟨v,rfl,rp⟩:=iT aT;cases rp with
  | lst h r =>
    obtain⟨u,rfl,ru⟩:=rv.one;cases ru;obtain⟨its,wl,pl,z⟩:=I.list (sm.seq h);have hb:=qW e1 r wl
    have hl:=pl.isList;have gJ:=(by obtain⟨_,e,_⟩:=hl;exact V8 e:_<s.heap.objs.size)
    refine call_all_walk (wpAny_pyIter_list hl ?_);refine⟨s.heap.objs.size,[s.heap.objs.size,_],[s.heap.objs.size],its.toArray.size,_,_,fun i=>(bs[i]?).getD true,rfl,Walks.list (A:=X.A.in1) (I.ok.hd hc) _ _ (Wz gJ) its.toArray,
      ⟨⟨_,Wi _ rfl,rfl,rfl⟩,hl.push _⟩,fun i v s' Q' E' hP hQ=>?_,fun h' tk hk=>?_⟩
    . obtain⟨b,e,rfl⟩:=hb.get i v (by simpa using hP);simp only[e,Xy]at hQ;exact WR hQ
    . have e:((List.range its.toArray.size).all fun i=>(bs[i]?).getD true)=bs.all id:=by
        rw[Wl,hb.len];exact GP bs
      rw[e];exact⟨_,.bl _,Hf,H,rfl,I.kept (GQ hk),rfl,Ext.refl sm,.bl _⟩
noncomputable def Cx.at(X:Cx)(A:Around):Cx:={ X with A:=A,calm:=false }
theorem Inv.at{A:Around}(I:Inv X pins σ H s)(hf:A.frames=X.A.frames):Inv (Cx.at X A) pins σ H s :=
  ⟨⟨I.ok.mod,I.ok.kind,I.ok.glob,I.ok.blt,I.ok.above,I.ok.inj,I.ok.has,I.ok.sC,(fun z=>by cases z),hf.trans I.ok.frames,I.ok.oV,I.ok.EC,I.ok.bs,I.ok.lK,I.ok.pL,I.ok.rS,I.ok.gZ,I.ok.oW⟩,I.os,I.bare,I.base,I.loc,I.cell,I.free,I.fI,I.pin,I.bh,I.len⟩
theorem Inv.back(ok:X.Ok)(I:Inv (Cx.at X A) tZ σ' H' s'):Inv X tZ σ' H' s' :=
  ⟨ok,I.os,I.bare,I.base,I.loc,I.cell,I.free,I.fI,I.pin,I.bh,I.len⟩
end
noncomputable def ie:List PV->R PV
  | [.str z,.str y]=>.ok (.bl (Txt.startswith z y))
  | _=>.stuck
noncomputable def gQ:List PV->R PV
  | [.str z,.str y]=>if z.length<=sizeLine/\(y.length == 0)=false then .ok (.tup [.str (Txt.partition z y).1,.str (Txt.partition z y).2.1,.str (Txt.partition z y).2.2]) else .stuck
  | _=>.stuck
section
variable {X:Cx}{cl:Nat->Addr}{pins:List (Addr×Obj)}{s:Shared}{σ:SV}{Hf H:Hp}
theorem two_strs{xs:List V}{z y:Str}(rv:Vals xs us)(aT:bB X.K cl Hf xs [.str z,.str y]):∃ t u,us=[.str z t,.str y u]:=by
  obtain⟨v,w,rfl,rp,rq⟩:=ug aT;cases rp;cases rq;cases rv with
  | cons w1 w2 =>
    cases w2 with
    | cons w2 w3 =>
      cases w3;obtain⟨t,rfl⟩:=w1;obtain⟨u,rfl⟩:=w2;exact⟨t,u,rfl⟩
theorem nV:ix X cl (.builtin "str.startswith") ie:=by
  intro pins s σ Hf H xs us ps I sm rv aT hs;have:∃ z y,ps=[.str z,.str y]:=by
    unfold ie at hs;split at hs
    . exact⟨_,_,rfl⟩
    . exact absurd rfl hs
  obtain⟨z,y,rfl⟩:=this;obtain⟨t,u,rfl⟩:=two_strs rv aT;exact SC.startswith ⟨_,.bl _,Hf,H,rfl,I,rfl,Ext.refl sm,.bl _⟩
theorem mX:mC "startswith" "str.startswith":=GM.startswith
theorem sj{E:Value->Shared->Prop}{s:Shared}{x y:Str}{t u:Tok}{Q:Value->Shared->Prop} (hy:(y.length == 0)=false) (hsz:x.length<=sizeLine)
    (h:∀ ta tb tc k,Q (.ref s.heap.objs.size) { s with heap:=s.heap.push { cls:=.type "tuple",data:=.seq [.str (Txt.partition x y).1 ta,.str (Txt.partition x y).2.1 tb,.str (Txt.partition x y).2.2 tc].toArray },toks:=k }) :
    wpAny (model prog w) A (call (.builtin "str.partition") [.str x t,.str y u]) Q E s:=by
  refine Yr F.slot_str_partition (Yc _ _ _) F.entry_str_partition (F.args_str_partition_2 _ _) (meets_str_partition x y t u hy hsz) ?_;have h':=h
  unfold Txt.partition at h'
  revert h'
  cases Builtin.Str.occurrences x y 0 x.length 1 with
  | nil=>intro h';exact h' _ _ _ _
  | cons i r=>intro h';exact h' _ _ _ _
theorem pH:ix X cl (.builtin "str.partition") gQ:=by
  intro pins s σ Hf H xs us ps I sm rv aT hs;have:∃ z y,ps=[.str z,.str y]/\(z.length<=sizeLine/\(y.length == 0)=false)/\gQ ps=.ok (.tup [.str (Txt.partition z y).1,.str (Txt.partition z y).2.1,.str (Txt.partition z y).2.2]):=by
    unfold gQ at hs ⊢;split at hs
    . obtain⟨h1,h2⟩:=cX hs;exact⟨_,_,rfl,h1,h2⟩
    . exact absurd rfl hs
  obtain⟨z,y,rfl,⟨e0,e1⟩,e2⟩:=this;rw[e2];obtain⟨t,u,rfl⟩:=two_strs rv aT;refine sj e1 e0 fun ta tb tc k=>?_;have hf:H s.heap.objs.size=none:=I.bh.fresh (VU _)
  have PY:bB X.K cl Hf [.str (Txt.partition z y).1,.str (Txt.partition z y).2.1,.str (Txt.partition z y).2.2] [.str (Txt.partition z y).1,.str (Txt.partition z y).2.1,.str (Txt.partition z y).2.2]:=.cons (.str _) (.cons (.str _) (.cons (.str _) .nil));refine iw (tk:=k) hf sm (I.laid (t':=k) (o:=.tup [.str (Txt.partition z y).1,.str (Txt.partition z y).2.1,.str (Txt.partition z y).2.2]) (fun b u e=>VW _ e) (VU _) ?_) (.tup (iG.of bp) (PY.keep (dk (sm.free hf) _)));exact⟨Wh (show 3<=1000 by decide) (by decide),_,.cons ⟨ta,rfl⟩ (.cons ⟨tb,rfl⟩ (.cons ⟨tc,rfl⟩ .nil)),⟨_,Wi _ rfl,rfl,_,rfl⟩⟩
theorem nW:mC "partition" "str.partition":=GM.partition
end
noncomputable def ir(x:Str):List V:=x.cps.toList.map fun c=>V.str ⟨#[c]⟩
noncomputable def zC(x:Str):List PV:=x.cps.toList.map fun c=>PV.str ⟨#[c]⟩
noncomputable def JN(x:Str):It:=⟨fun i _=>i<(ir x).length,fun i H y H'=>H'=H/\(ir x)[i]?=some y,fun i _=>(ir x).length<=i⟩
section
variable {X:Cx}{cl:Nat->Addr}{pins:List (Addr×Obj)}{s:Shared}{σ:SV}{Hf H:Hp}
theorem BE{K:PySem.W.Frag}(x:Str):bB K cl Hf (ir x) (zC x):=by
  unfold ir zC
  induction x.cps.toList with
  | nil=>exact .nil
  | cons c r ih=>exact .cons (.str _) ih
theorem DC{P:Program}{w:World}{K:PySem.W.Frag}{tg:Expr}(it:Addr)(x:Str)(t:Tok):Turn P w K tg (JN x) [it] it (fun i h=>h.IsStrIter it (strIterType x) x t i) where
  mem:=by simp
  obj:=fun i h st b hb=>by
    have e:b=it:=by simpa using hb
    subst e;obtain⟨o,e,c,d⟩:=st;exact⟨o,e,fun v z=>by rw[d]at z;cases z⟩
  keep:=fun i h h' st k=>by
    obtain⟨o,e,c,d⟩:=st;exact⟨o,k it (by simp) o e,c,d⟩
  item:=by
    intro X hP hw hK hc i pins s σ H E I hf st hg;subst hP hw hK;have hi:i<x.cps.toList.length:=by have:i<(ir x).length:=hg;simpa [ir]using this
    have hx:x.cps[i]?=some x.cps.toList[i]:=by simp[hi]
    obtain⟨f0,f1,f2,f3,f4,f5⟩:=hf it (by simp);have fin:∀(ty:String)(h':Heap),["enumerate","zip","dict_itemiterator","dict_reverseitemiterator","odict_iterator","itertools.zip_longest","itertools.pairwise"].contains ty=false->strIterType x=ty->h'.IsStrIter it ty x t (i+1)->Heap.SameBut it s.heap h'->(∃ u,some (Value.str ⟨#[x.cps.toList[i]]⟩ s.toks)=some u /\
        wpAny (model X.prog X.w) X.A (letOwnedTupleGo tg (.ref it) u) (fun _ s2=>∃ y H',Inv X pins σ H' s2/\RelV y u/\(JN x).HZ i H y H'/\(fun i h=>h.IsStrIter it (strIterType x) x t i) (i+1) s2.heap/\∀ b∈[it],H' b=none) E { s with heap:=h',toks:=s.toks+1 }):=fun ty h' hn et gx sb=>by
      have I1:Inv X pins σ H { s with heap:=h',toks:=s.toks+1 }:=I.turned (t':=s.toks+1) (fun b o hb e=>(sb.2 b hb).trans e) f0 f1 f3 f4 f5;obtain⟨o,e,c,d⟩:=id gx;refine⟨_,rfl,t9 (s:={ s with heap:=h',toks:=s.toks+1 }) e c d hn ⟨.str ⟨#[x.cps.toList[i]]⟩,H,I1,⟨_,rfl⟩,⟨rfl,?_⟩,?_,fun b hb=>(hf b hb).1⟩⟩
      . unfold ir;rw[Wt,V9 hi];rfl
      . show h'.IsStrIter it (strIterType x) x t (i+1);rw[et];exact gx
    cases ha:x.cps.all (·<128)
    . have et:strIterType x="str_iterator":=by simp[strIterType,ha]
      have gi:s.heap.IsStrIter it "str_iterator" x t i:=by rw[<- et];exact st
      exact wpAny_pyNext_wide_item gi hx fun h' gx sb=>fin _ h' (by decide) et gx sb
    . have et:strIterType x="str_ascii_iterator":=by simp[strIterType,ha]
      have gi:s.heap.IsStrIter it "str_ascii_iterator" x t i:=by rw[<- et];exact st
      exact wpAny_pyNext_ascii_item gi hx fun h' gx sb=>fin _ h' (by decide) et gx sb
  done:=by
    intro X hP hw hK hc i pins s σ H E I hf st hg;subst hP hw hK;have hi:x.cps.toList.length<=i:=by have:(ir x).length<=i:=hg;simpa [ir]using this
    have hx:x.cps[i]?=none:=by simp;simpa using hi
    obtain⟨f0,f1,f2,f3,f4,f5⟩:=hf it (by simp);cases ha:x.cps.all (·<128)
    . have et:strIterType x="str_iterator":=by simp[strIterType,ha]
      have gi:s.heap.IsStrIter it "str_iterator" x t i:=by rw[<- et];exact st
      exact wpAny_pyNext_wide_end (I.ok.hd hc) gi hx fun h' eb=>⟨rfl,I.turned (t':=s.toks) (fun b o hb e=>eb b o hb e) f0 f1 f3 f4 f5⟩
    . have et:strIterType x="str_ascii_iterator":=by simp[strIterType,ha]
      have gi:s.heap.IsStrIter it "str_ascii_iterator" x t i:=by rw[<- et];exact st
      exact wpAny_pyNext_ascii_end (I.ok.hd hc) gi hx fun h' eb=>⟨rfl,I.turned (t':=s.toks) (fun b o hb e=>eb b o hb e) f0 f1 f3 f4 f5⟩
  self:=fun A i s Q E st h=>by
    cases ha:x.cps.all (·<128)
    . have et:strIterType x="str_iterator":=by simp[strIterType,ha]
      have gi:s.heap.IsStrIter it "str_iterator" x t i:=by rw[<- et];exact st
      exact wpAny_pyIter_striter_wide gi h
    . have et:strIterType x="str_ascii_iterator":=by simp[strIterType,ha]
      have gi:s.heap.IsStrIter it "str_ascii_iterator" x t i:=by rw[<- et];exact st
      exact wpAny_pyIter_striter_ascii gi h
theorem DD:Over (JN x) Hg (ir x):=fun H i sm=>⟨fun hi=>⟨hi,fun y H' q=>q⟩,fun hi=>hi⟩
theorem BF{tg iter:Expr}{f:FE}(h:ME X cl iter f):MI X cl tg iter (lC f):=by
  refine⟨?_⟩;intro pins s σ aA H0 Hf H ρ I r hs;unfold lC at hs ⊢;refine h.run I r (Ext.refl r.sub) hs fun p v u s1 aD H1 e1 I1 rv x1 rp=>?_;rw[e1]at hs ⊢;cases p<;>first
    | exact absurd rfl hs
    | skip
  rename_i z;cases rp;obtain⟨t,rfl⟩:=rv;refine wpAny_pyIter_strU ?_;refine⟨zC z,ir z,aD,rfl,s1.heap.objs.size,[s1.heap.objs.size],_,_,H1,rfl,I1.kept (t':=s1.toks) fun b o e=>VW _ e,DC _ z t,⟨_,Wi _ rfl,rfl,rfl⟩,fun b hb=>?_,x1,DD,BE z⟩;have e:b=s1.heap.objs.size:=by simpa using hb
  subst e;exact I1.rT (VU _) (I1.bh.fresh (VU _))
end
open PySem.Calls PySem.NumText
theorem maxDigits{E:Value->Shared->Prop}{s:Shared}{Q:Nat->Shared->Prop} (hn:s.heap.NoDigits) (h:Q 4300 s):wpAny M A Builtin.intMaxStrDigits Q E s:=by
  obtain⟨mc,uK,L6⟩:=hn;unfold Builtin.intMaxStrDigits;refine V0 (wpAny_nsGet uK ?_);rw[L6];exact Ws h
theorem DE{E:Value->Shared->Prop}{s:Shared}{Q:Value->Shared->Prop}{v:Value}{text:List Nat}{n:Int} (hn:s.heap.NoDigits)
    (hs:¬(text.takeWhile (· != 0)).length<=640) (hr:(int_private% "readNumeral") 4300 10 (text.takeWhile (· != 0))=(int_private% "Numeral.value") n)
    (ha:((text.takeWhile (· != 0)).length == text.length)=true) (h:Q (.int n s.toks) { s with toks:=s.toks+1 }) :
    wpAny M A ((int_private% "intFromText") v text 10) Q E s:=by
  obtain⟨hp,g,d,tk,os⟩:=s
  repeat (any_goals (first
    | assumption
    | (with_reducible refine wpAny_ite_false (V3 hs) ?_)
    | (with_reducible refine wpAny_ite_true (VX ha) ?_)
    | (with_reducible refine maxDigits hn ?_)
    | wp_step))
  all_goals (try rw[hr])
  all_goals (try dsimp only)
  repeat (any_goals (first
    | assumption
    | (with_reducible refine wpAny_ite_true (VX ha) ?_)
    | wp_step))
structure Hd(p:Prop):Prop where
  out:p
theorem wJ{x:PySem.Str}{u:Tok}{n:Int}(hx:x.length<=sizeLine)(hl:¬(numSeenOf x).length<=640)(hn:PySem.intText? x=some n) :
    Meets (Builtin.«int.__new__» ⟨[.type "int",.str x u],[]⟩) (fun _ R s=>s.heap.NoDigits/\R (.ok (.ret (.int n s.toks))) { s with toks:=s.toks+1 }) :=
  .of_wp fun prog w A R s h=>by
    obtain⟨hp,g,d,tk,os⟩:=s;obtain⟨nd,h⟩:=h;have f1:=F.conv_sub_int
    have f2:=F.madeHere_int;have f3:=aaT
    have f4:=aaU;have f5:=aad
    have f6:typeOf (.str x u)=pure (.type "str"):=rfl;have hr:(int_private% "readNumeral") 4300 10 (numSeenOf x)=(int_private% "Numeral.value") n/\((numSeenOf x).length ==(numTextOf x).length)=true:=by
      rcases read4300 x hx with⟨m,h1,h2,h3⟩ | ⟨h1,_⟩
      . rw[hn]at h1;injection h1 with h1
        subst h1;exact⟨h3,h2⟩
      . rw[hn]at h1;cases h1
    have hk:=Hd.mk (And.intro hl hr);clear hr hl hn
    repeat (any_goals (first
      | assumption
      | ((with_reducible show wpAny _ _ ((int_private% "intFromText") _ _ _) _ _ _);refine DE nd hk.out.1 hk.out.2.1 hk.out.2.2 ?_)
      | wp_step))
    all_goals first | exact h | exact⟨_,rfl,h⟩ | skip
theorem wK{u:Tok}{n:Int} (hs:(numSeenOf x).length<=640) (hn:PySem.intText? x=some n) :
    Meets (Builtin.«int.__new__» ⟨[.type "int",.str x u],[]⟩) (fun _ R s=>s.heap.NoDigits/\R (.ok (.ret (.int n s.toks))) { s with toks:=s.toks+1 }) :=
  .of_wp fun prog w A R s h=>by
    obtain⟨hp,g,d,tk,os⟩:=s;obtain⟨nd,h⟩:=h;have f1:=F.conv_sub_int
    have f2:=F.madeHere_int;have f3:=aaT
    have f4:=aaU;have f5:=aad
    have f6:typeOf (.str x u)=pure (.type "str"):=rfl;have hr:(int_private% "readNumeral") 0 10 (numSeenOf x)=(int_private% "Numeral.value") n/\((numSeenOf x).length ==(numTextOf x).length)=true:=by
      rcases read0 x hs with⟨m,h1,h2,h3⟩ | ⟨h1,_⟩
      . rw[hn]at h1;injection h1 with h1
        subst h1;exact⟨h3,h2⟩
      . rw[hn]at h1;cases h1
    have hk:=Hd.mk (And.intro hs hr);clear hs hr hn
    repeat (any_goals (first
      | assumption
      | ((with_reducible show wpAny _ _ ((int_private% "intFromText") _ _ _) _ _ _);refine PySem.W.KIN.wp_text hk.out.1 hk.out.2.1 hk.out.2.2 ?_)
      | wp_step))
    all_goals first | exact h | exact⟨_,rfl,h⟩ | skip
theorem zD{E:Value->Shared->Prop}{s:Shared}{Q:Value->Shared->Prop}{x:PySem.Str}{t:Tok}{n:Int} (hx:x.length<=sizeLine) (nd:s.heap.NoDigits) (hn:PySem.intText? x=some n)
    (h:Q (.int n s.toks) { s with toks:=s.toks+1 }):wpAny (model prog w) A (call (.type "int") [.str x t]) Q E s:=by
  by_cases c:(numSeenOf x).length<=640
  . exact call_int_1 (wK c hn) ⟨nd,typeIs_int _ _ _,h⟩
  . exact call_int_1 (wJ hx c hn) ⟨nd,typeIs_int _ _ _,h⟩
noncomputable def kX:List PV->R PV
  | [.str z]=>if z.length<=sizeLine then (match PySem.intText? z with | some n=>.ok (.int n) | none=>.stuck) else .stuck
  | _=>.stuck
theorem vp{X:Cx}{cl:Nat->Addr}(nd:X.base.NoDigits):ix X cl (.type "int") kX:=by
  intro pins s σ Hf H xs us ps I sm rv aT hs;have:∃ z n,ps=[.str z]/\z.length<=sizeLine/\PySem.intText? z=some n/\kX ps=.ok (.int n):=by
    unfold kX at hs ⊢;split at hs
    . next z =>
      by_cases c:z.length<=sizeLine
      . rw[VP c]at hs;simp only[VP c];split at hs
        . next n e=>exact⟨z,n,rfl,c,e,by simp only[e]⟩
        . exact absurd rfl hs
      . rw[VQ c]at hs;exact absurd rfl hs
    . exact absurd rfl hs
  obtain⟨z,n,rfl,h1,h2,h3⟩:=this;rw[h3];obtain⟨v,rfl,rp⟩:=iT aT;cases rp;obtain⟨u,rfl,ru⟩:=rv.one;obtain⟨t,rfl⟩:=ru;exact zD h1 (nd.keeps I.bk) h2 ⟨_,.int _,Hf,H,rfl,I.tok _,⟨_,rfl⟩,Ext.refl sm,.int _⟩
end Mi
namespace Mi
open PySem PySem.Spec PyProof.Rows L2 PySem.Builtin PySem.Builtin.Str
theorem zE{E:Value->Shared->Prop}{s:Shared}{x y:PySem.Str}{t u:Tok}{Q:Value->Shared->Prop} (hy:(y.length == 0)=false)
    (hq:∀(l:List (PySem.Str×Tok))(k:Tok),l.map (·.1)=Txt.split x y->Q (.ref s.heap.objs.size) { s with heap:=s.heap.push { cls:=.type "list",data:=.seq (strValues l).toArray },toks:=k })
    (hsz:x.length<=sizeLine) (PZ:(partsBetween x (occurrences x y 0 x.length (x.length+1)) y.length).length<=sizeLine) :
    wpAny (model prog w) A (call (.builtin "str.split") [.str x t,.str y u]) Q E s:=by
  cases h1:(decide (x.length<y.length)||decide (strKind x<strKind y))
  . cases hf:(occurrences x y 0 x.length (x.length+1)).isEmpty
    . refine Yr Zv (Yc _ _ _) Zd (Y8 _ _) (meets_str_split_sep x y t u h1 hy hf hsz PZ) ?_;show wants Q E _ { s with toks:=_,heap:=s.heap.push { cls:=.type "list",data:=.seq (strsFrom s.toks (partsBetween x (occurrences x y 0 x.length (x.length+1)) y.length)).toArray } }
      rw[strsFrom_eq];exact hq (numbered s.toks _) _ ((numbered_texts _ _).trans ((VQ (YY h1)).trans (VQ (YY hf))).symm)
    . exact Yr Zv (Yc _ _ _) Zd (Y8 _ _) (meets_str_split_not_found x y t u h1 hy hf)
        (hq [(x,t)] s.toks ((VQ (YY h1)).trans (VP hf)).symm)
  . exact Yr Zv (Yc _ _ _) Zd (Y8 _ _) (meets_str_split_cannot_occur x y t u h1)
      (hq [(x,t)] s.toks (VP h1).symm)
noncomputable def gK:List PV->R PV
  | [.str z,.str y]=>if z.length<=sizeLine/\(y.length == 0)=false/\(partsBetween z (occurrences z y 0 z.length (z.length+1)) y.length).length<=sizeLine/\(Txt.split z y).length<=sizeLine then .ok (.lst ((Txt.split z y).map PV.str)) else .stuck
  | _=>.stuck
section
variable {X:Cx}{cl:Nat->Addr}{Hf:Hp}
theorem vq:∀{ts:List PySem.Str}{l:List (PySem.Str×Tok)},l.map (·.1)=ts->Vals (ts.map V.str) (strValues l)
  | [],[],_=>.nil
  | [],_::_,h=>nomatch h
  | _::_,[],h=>nomatch h
  | z::ts,(z',t)::l,h=>by
    injection h with h1 h2
    have h1:z'=z:=h1;subst h1;exact .cons ⟨t,rfl⟩ (vq h2)
theorem vr{K:PySem.W.Frag}:∀ ts:List PySem.Str,bB K cl Hf (ts.map V.str) (ts.map PV.str)
  | []=>.nil
  | z::ts=>.cons (.str _) (vr ts)
theorem xq:ix X cl (.builtin "str.split") gK:=by
  intro pins s σ Hf H xs us ps I sm rv aT hs;have:∃ z y,ps=[.str z,.str y]/\(z.length<=sizeLine/\(y.length == 0)=false/\(partsBetween z (occurrences z y 0 z.length (z.length+1)) y.length).length<=sizeLine/\(Txt.split z y).length<=sizeLine)/\gK ps=.ok (.lst ((Txt.split z y).map PV.str)):=by
    unfold gK at hs ⊢;split at hs
    . obtain⟨h1,h2⟩:=cX hs;exact⟨_,_,rfl,h1,h2⟩
    . exact absurd rfl hs
  obtain⟨z,y,rfl,⟨e0,e1,e3,e4⟩,e2⟩:=this;rw[e2];obtain⟨t,u,rfl⟩:=two_strs rv aT;refine zE e1 (fun l k hl=>?_) e0 e3;have hf:H s.heap.objs.size=none:=I.bh.fresh (VU _)
  have kR:=vq hl;refine iw (tk:=k) hf sm (I.laid (t':=k) (o:=.lst ((Txt.split z y).map V.str)) (fun b u e=>VW _ e) (VU _) ?_) (.lst (fV.of bp) ((vr (Txt.split z y)).keep (dk (sm.free hf) _)));exact⟨by rw[V5];exact e4,_,0,kR,Wi _ rfl⟩
theorem vt:mC "split" "str.split":=GM.split
end
end Mi
namespace Mi
open PySem PySem.Spec PyProof.Rows L2
theorem nodig_of{K:PySem.W.Frag}{h:Heap}(X:K.In h)(e:PySem.W.nsOkIn K cStatics=true) (q:PySem.W.nsIn K cStatics "sys.int_max_str_digits"=some none):h.NoDigits :=
  ⟨_,.of_isNs (PySem.W.isNs_of_in X e),Zs X e q⟩
section
variable {P:Program}{w:World}{K:PySem.W.Frag}{mg:Str->Option Value}{base:Heap}{cl:Nat->Addr}
theorem P0{N Ns:List Str}{i:Nat}{y:Str}{py nT:Pos}{elt iter:Expr}{px pos:Pos}{t:FT}{n:Nat}
    (i7:N.Nodup) (hy:N[i]?=some y) (hl:Loc scope y) (eN:sh N Ns sc=true) (fQ:jN Ns x sc scope=true) (hn:N.length=n) (hi:MI (aV P w K mg base cl N qual scope f cd A outer s H E) cl (.Name x px) iter fa)
    (ht:∀ C s' H' fp,MC (eM (aV P w K mg base cl N qual scope f cd A outer s H E) Ns x sc (kr sc (aV P w K mg base cl N qual scope f cd A outer s H E).env) C s' H' fp) cl ifs t)
    (hb:∀ C s' H' fp,ME (eM (aV P w K mg base cl N qual scope f cd A outer s H E) Ns x sc (kr sc (aV P w K mg base cl N qual scope f cd A outer s H E).env) C s' H' fp) cl elt g)
    (ic:∀ y,foldedSetIterable iter (aV P w K mg base cl N qual scope f cd A outer s H E).env y=pure y:=by intro _;rfl)
    (ib:swapsWith (.ListComp elt [⟨.Name x px,iter,ifs,0⟩] sc pos) (some (.Name y py)) nT.line (aV P w K mg base cl N qual scope f cd A outer s H E).env=pure true:=by rfl) :
    MS (aV P w K mg base cl N qual scope f cd A outer s H E) cl (.Assign [.Name y py] (.ListComp elt [⟨.Name x px,iter,ifs,0⟩] sc pos) nT) (bf i (cL n fa t g)):=by
  have hd:=eN;unfold sh at hd;simp only[VR,Wo,W8]at hd;refine xn i7 hy hl rfl (fun ok=>nU fQ hd.1.1 (vn eN) ok) hn ?_ hi ht hb ic ib (.inl rfl);show(Ns ++[x]).Nodup
  have hx:x ∉ Ns:=fun z=>by
    unfold jN at fQ;have:=(WV.mp fQ).2
    rw[WO.mpr z]at this;cases this
  exact X7.mpr ⟨hd.1.2,W3.mpr ⟨Ye,X8⟩,fun a ha b hb e=>hx (by
    rw[Wx]at hb;rw[<- hb,<- e];exact ha)⟩
end
open PySem.Builtin PySem.Builtin.Str
noncomputable def L7(x y z:PySem.Str):PySem.Str:=if ((occurrences x y 0 x.length 1).isEmpty||(y.length == 0&&z.length == 0))=true then x else glued z (partsBetween x (occurrences x y 0 x.length 1) y.length)
def BG(x y z:PySem.Str):Prop:=(y == z)=false/\x.length+(occurrences x y 0 x.length 1).length*z.length<=sizeLine/\(L7 x y z).length<=sizeLine
noncomputable instance {x y z:PySem.Str}:Decidable (BG x y z):=by unfold BG;infer_instance
section
variable {X:Cx}{cl:Nat->Addr}{pins:List (Addr×Obj)}{s:Shared}{σ:SV}{aA H0 Hf H aD H1:Hp}{ρ:ay}{α:Type}
structure Nu(X:Cx)(cl:Nat->Addr)(e:Expr)(f:FE):Prop where
  run':∀(pins:List (Addr×Obj))(s:Shared)(σ:SV)(aA H0 Hf H:Hp)(ρ:ay),Inv X pins σ H s->Rep X.K cl aA H0 Hf H σ ρ->0<s.toks->f ρ≠.stuck ->
    wpAny (model X.prog X.w) X.A (eval e X.env) (eU X cl pins σ Hf H (f ρ)) (bW X cl pins σ Hf H (f ρ)) s
theorem zF:mC "replace" "str.replace":=GM.replace
end
end Mi
namespace Mi
open PySem PySem.W PyProof.Rows
section
variable {N:Nat}{key:Nat->Int}{cmp:Nat->Nat->(Bool->Shared->Prop)->Shared->Prop}{s:Shared}
noncomputable def kp(key:Nat->Int)(p:Array Nat)(i:Nat):Int:=key (p.getD i 0)
def Pm(N:Nat)(p:Array Nat):Prop:=p.Perm (List.toArray (List.range N))
theorem Pm.size{p:Array Nat}(h:Pm N p):p.size=N:=by rw[Array.Perm.size_eq h];simp
end
end Mi
namespace Mi
open PySem PySem.Spec PyProof.Rows L2
section
variable {X:Cx}{cl:Nat->Addr}
noncomputable def nx(f:FE):FE:=fun ρ=>match f ρ with
  | .ok v=>.ok v
  | _=>.stuck
end
theorem Nv{N:List Str}(i7:N.Nodup)(fQ:jN N x sc scope=true):(N ++[x]).Nodup:=by
  have hx:x ∉ N:=fun z=>by
    unfold jN at fQ;have:=(WV.mp fQ).2
    rw[WO.mpr z]at this;cases this
  exact X7.mpr ⟨i7,W3.mpr ⟨Ye,X8⟩,fun a ha b hb e=>hx (by
    rw[Wx]at hb;rw[<- hb,<- e];exact ha)⟩
inductive Cell where
  | obj (c:Nat) (fs:List (Str×PV))
  | ls (l:List PV)
  | dc (aZ:List (Str×PV))
  | gone
abbrev aI:=List Cell
noncomputable def aR(i:Nat):PV:=.own [.int i]
noncomputable def iK:PV->Option Nat
  | .own [.int i]=>if 0<=i then some i.toNat else none
  | _=>none
theorem gR(i:Nat):iK (aR i)=some i:=by
  show(if (0:Int)<=(i:Int) then some (i:Int).toNat else none)=_;rw[VP (by omega)];simp
inductive RS (α:Type) where
  | ok (a:α) (S:aI)
  | exc (c:Nat) (S:aI)
  | stuck
noncomputable def RS.bind{α β:Type}:RS α->(α->aI->RS β)->RS β
  | .ok a S,k=>k a S
  | .exc c S,_=>.exc c S
  | .stuck,_=>.stuck
noncomputable def fz{α:Type}(S:aI):R α->RS α
  | .ok a=>.ok a S
  | .exc c=>.exc c S
  | .stuck=>.stuck
noncomputable def d8:PV->Bool
  | .own _=>true
  | _=>false
def Vr(K:PySem.W.Frag)(cl:Nat->Addr)(as:List Addr)(Hf:Hp)(v:V)(p:PV):Prop:=match p with
  | .own l=>∃(i:Nat)(a:Addr),l=[.int (i:Int)]/\as[i]?=some a/\v=.ref a
  | p=>Rp K cl Hf v p
inductive eV (K:PySem.W.Frag) (cl:Nat->Addr) (as:List Addr) (Hf:Hp):List V->List PV->Prop where
  | nil:eV K cl as Hf [] []
  | cons {v:V}{p:PV}{vs:List V}{ps:List PV} (r:Vr K cl as Hf v p) (t:eV K cl as Hf vs ps):eV K cl as Hf (v::vs) (p::ps)
inductive dw (K:PySem.W.Frag) (cl:Nat->Addr) (as:List Addr) (Hf:Hp):List (Str×V)->List (Str×PV)->Prop where
  | nil:dw K cl as Hf [] []
  | cons {x:Str}{v:V}{p:PV}{vs:List (Str×V)}{ps:List (Str×PV)} (r:Vr K cl as Hf v p) (t:dw K cl as Hf vs ps):dw K cl as Hf ((x,v)::vs) ((x,p)::ps)
def bE(as:List Addr)(Hf:Hp)(aJ:List Addr)(ao:Hp):Prop:=(∃ t,aJ=as++t)/\aO Hf ao
theorem bE.refl(as:List Addr)(Hf:Hp):bE as Hf as Hf:=⟨⟨[],by simp⟩,aO.refl _⟩
theorem bE.trans(a:bE as Hf bC aD)(b:bE bC aD jT bG):bE as Hf jT bG:=by
  obtain⟨⟨t,rfl⟩,s1⟩:=a;obtain⟨⟨t',rfl⟩,s2⟩:=b;exact⟨⟨t++t',by rw[Xt]⟩,s1.trans s2⟩
theorem bE.at_{as aJ:List Addr}(g:bE as Hf aJ ao){i:Nat}{a:Addr}(h:as[i]?=some a):aJ[i]?=some a:=by
  obtain⟨⟨t,rfl⟩,_⟩:=g;rw[Wb (VS.mp h).1];exact h
theorem bE.bw(s:aO Hf ao):bE as Hf as ao:=⟨⟨[],by simp⟩,s⟩
section
variable {K:PySem.W.Frag}{cl:Nat->Addr}{as aJ:List Addr}{Hf ao H H':Hp}
theorem Vr.keep(h:Vr K cl as Hf v p)(g:bE as Hf aJ ao):Vr K cl aJ ao v p:=by
  cases p with
  | own l=>obtain⟨i,a,e1,e2,e3⟩:=h;exact⟨i,a,e1,g.at_ e2,e3⟩
  | _=>exact Rp.keep g.2 h
theorem Vr.rp(h:Vr K cl as Hf v p)(n:d8 p=false):Rp K cl Hf v p:=by
  cases p with
  | own l=>cases n
  | _=>exact h
theorem Rp.yR(h:Rp K cl Hf v p):d8 p=false:=by cases h<;>rfl
theorem Vr.of(h:Rp K cl Hf v p):Vr K cl as Hf v p:=by
  cases p with
  | own l=>cases h
  | _=>exact h
theorem eV.keep:∀{vs:List V}{ps:List PV},eV K cl as Hf vs ps->bE as Hf aJ ao->eV K cl aJ ao vs ps
  | _,_,.nil,_=>.nil
  | _,_,.cons r t,g=>.cons (r.keep g) (t.keep g)
theorem eV.length:∀{vs:List V}{ps:List PV},eV K cl as Hf vs ps->vs.length=ps.length
  | _,_,.nil=>rfl
  | _,_,.cons _ t=>Xq (·+1) t.length
theorem eV.get:∀{vs:List V}{ps:List PV}{i:Nat}{p:PV},eV K cl as Hf vs ps->ps[i]?=some p->∃ v,vs[i]?=some v/\Vr K cl as Hf v p
  | _,_,_,_,.nil,e=>by simp at e
  | _,_,0,_,.cons r _,e=>by simp at e;subst e;exact⟨_,rfl,r⟩
  | _,_,i+1,p,.cons _ t,e=>by
    obtain⟨v,h1,h2⟩:=eV.get (i:=i) (p:=p) t (by simpa using e);exact⟨v,by simpa using h1,h2⟩
theorem eV.aT:∀{vs:List V}{ps:List PV},eV K cl as Hf vs ps->ps.any d8=false->bB K cl Hf vs ps
  | _,_,.nil,_=>.nil
  | _,_,.cons r t,h=>by
    rw[Xw,Bool.or_eq_false_iff]at h;exact .cons (r.rp h.1) (t.aT h.2)
theorem eV.of:∀{vs:List V}{ps:List PV},bB K cl Hf vs ps->eV K cl as Hf vs ps
  | _,_,.nil=>.nil
  | _,_,.cons r t=>.cons (.of r) (.of t)
theorem dw.keep:∀{vs:List (Str×V)}{ps:List (Str×PV)},dw K cl as Hf vs ps->bE as Hf aJ ao->dw K cl aJ ao vs ps
  | _,_,.nil,_=>.nil
  | _,_,.cons r t,g=>.cons (r.keep g) (t.keep g)
theorem dw.length:∀{vs:List (Str×V)}{ps:List (Str×PV)},dw K cl as Hf vs ps->vs.length=ps.length
  | _,_,.nil=>rfl
  | _,_,.cons _ t=>Xq (·+1) t.length
theorem dw.look(f:Str):∀{vs:List (Str×V)}{ps:List (Str×PV)},dw K cl as Hf vs ps->(∀ p,ps.lookup f=some p->∃ v,vs.lookup f=some v/\Vr K cl as Hf v p)/\(ps.lookup f=none->vs.lookup f=none)
  | _,_,.nil=>⟨fun p h=>(by cases h),fun _=>rfl⟩
  | _,_,.cons (x:=x) r t=>by
    have ih:=dw.look f t;rw[Wa,Wa];cases e:f == x with
    | true=>exact⟨fun p h=>(by cases h;exact⟨_,rfl,r⟩),fun h=>(by cases h)⟩
    | false=>exact ih
noncomputable def lF(f:Str)(v:PV):List (Str×PV)->List (Str×PV)
  | []=>[(f,v)]
  | (g,x)::r=>if g=f then (g,v)::r else (g,x)::lF f v r
theorem dw.put(h:Vr K cl as Hf v p):∀{vs:List (Str×V)}{ps:List (Str×PV)},dw K cl as Hf vs ps->dw K cl as Hf (gH f v vs) (lF f p ps)
  | _,_,.nil=>.cons h .nil
  | _,_,.cons (x:=x) r t=>by
    unfold gH lF;by_cases e:x=f
    . rw[VP e,VP e];exact .cons h t
    . rw[VQ e,VQ e];exact .cons r (t.put h)
end
noncomputable def kS(p:Str×V):Key×V:=(Sum.inr p.1,p.2)
def lU(K:PySem.W.Frag)(cl:Nat->Addr)(as:List Addr)(Hf H:Hp)(a:Addr):Cell->Prop
  | .obj c fs=>∃ dx vs,H a=some (.ins (cl c) dx vs)/\Hf a=none/\dw K cl as Hf vs fs
  | .ls l=>∃ vs,H a=some (.lst vs)/\Hf a=none/\eV K cl as Hf vs l
  | .dc l=>∃ vs,H a=some (.dK (vs.map kS))/\Hf a=none/\dw K cl as Hf vs l
  | .gone=>True
structure bI(K:PySem.W.Frag)(cl:Nat->Addr)(as:List Addr)(Hf H:Hp)(S:aI):Prop where
  sub:aO Hf H
  nd:as.Nodup
  len:as.length=S.length
  at_:∀(i:Nat)(a:Addr)(c:Cell),as[i]?=some a->S[i]?=some c->lU K cl as Hf H a c
  there:∀ a∈as,H a≠none
section
variable {K:PySem.W.Frag}{cl:Nat->Addr}{as aJ:List Addr}{Hf ao H H':Hp}{S S':aI}
theorem lU.ext(h:lU K cl as Hf H a c)(x:Ext Hf H ao H'):lU K cl as ao H' a c:=by
  cases c with
  | obj c fs =>
    obtain⟨dx,vs,h1,h2,h3⟩:=h;exact⟨dx,vs,x.all _ _ h1,by rw[x.old a (by rw[h1];intro z;cases z)];exact h2,h3.keep (.bw x.bw)⟩
  | ls l =>
    obtain⟨vs,h1,h2,h3⟩:=h;exact⟨vs,x.all _ _ h1,by rw[x.old a (by rw[h1];intro z;cases z)];exact h2,h3.keep (.bw x.bw)⟩
  | dc l =>
    obtain⟨vs,h1,h2,h3⟩:=h;exact⟨vs,x.all _ _ h1,by rw[x.old a (by rw[h1];intro z;cases z)];exact h2,h3.keep (.bw x.bw)⟩
  | gone=>trivial
theorem bI.ext(h:bI K cl as Hf H S)(x:Ext Hf H ao H'):bI K cl as ao H' S :=
  ⟨x.sub,h.nd,h.len,fun i a c h1 h2=>(h.at_ i a c h1 h2).ext x,fun a ha z=>by
    cases e:H a with
    | none=>exact h.there a ha e
    | some o=>rw[x.all _ _ e]at z;cases z⟩
theorem bI.write(h:bI K cl as Hf H S){i:Nat}{a:Addr}(ha:as[i]?=some a)(hf:Hf a=none)(hc:lU K cl as Hf (upd H a o) a c):bI K cl as Hf (upd H a o) (S.set i c):=by
  refine⟨fun b u q=>?_,h.nd,by rw[YJ];exact h.len,fun j b d hb hd=>?_,fun b hb z=>?_⟩
  . have:b≠a:=fun z=>by rw[z,hf]at q;cases q
    rw[a7 this];exact h.sub b u q
  . by_cases e:i=j
    . subst e;rw[ha]at hb;cases hb;have hi:i<S.length:=by rw[<- h.len];exact(VS.mp ha).1
      rw[Wg hi]at hd;cases hd;exact hc
    . rw[V4 e]at hd;have ne:b≠a:=fun z=>by
        subst z;have l1:=(VS.mp ha)
        have l2:=(VS.mp hb);exact e ((Zf h.nd).mp (l1.2.trans l2.2.symm))
      have:=h.at_ j b d hb hd
      cases d with
      | obj c fs=>obtain⟨dx,vs,h1,h2,h3⟩:=this;exact⟨dx,vs,by rw[a7 ne];exact h1,h2,h3⟩
      | ls l=>obtain⟨vs,h1,h2,h3⟩:=this;exact⟨vs,by rw[a7 ne];exact h1,h2,h3⟩
      | dc l=>obtain⟨vs,h1,h2,h3⟩:=this;exact⟨vs,by rw[a7 ne];exact h1,h2,h3⟩
      | gone=>trivial
  . by_cases e:b=a
    . subst e;rw[bp]at z;cases z
    . rw[a7 e]at z;exact h.there b hb z
theorem bI.new(h:bI K cl as Hf H S){a:Addr}(ha:H a=none)(hc:lU K cl (as ++[a]) Hf (upd H a o) a c):bI K cl (as ++[a]) Hf (upd H a o) (S ++[c]):=by
  have na:a ∉ as:=fun z=>h.there a z ha;have g:bE as Hf (as ++[a]) Hf:=⟨⟨[a],rfl⟩,aO.refl _⟩
  refine⟨fun b u q=>?_,X7.mpr ⟨h.nd,by simp,fun x hx y hy e=>?_⟩,by simp[h.len],fun j b d hb hd=>?_,fun b hb z=>?_⟩
  . have:b≠a:=fun z=>by rw[z,h.sub.free ha]at q;cases q
    rw[a7 this];exact h.sub b u q
  . rw[Wx]at hy;exact na (by rw[<- hy,<- e];exact hx)
  . by_cases e:j<as.length
    . rw[Wb e]at hb;rw[Wb (by rw[<- h.len];exact e)]at hd;have ne:b≠a:=fun z=>na (by rw[<- z];exact XR hb)
      have:=h.at_ j b d hb hd
      cases d with
      | obj c fs=>obtain⟨dx,vs,h1,h2,h3⟩:=this;exact⟨dx,vs,by rw[a7 ne];exact h1,h2,h3.keep g⟩
      | ls l=>obtain⟨vs,h1,h2,h3⟩:=this;exact⟨vs,by rw[a7 ne];exact h1,h2,h3.keep g⟩
      | dc l=>obtain⟨vs,h1,h2,h3⟩:=this;exact⟨vs,by rw[a7 ne];exact h1,h2,h3.keep g⟩
      | gone=>trivial
    . have ej:j=as.length:=by
        have:=(VS.mp hb).1;rw[VV,ZY]at this;omega
      subst ej;rw[Wm (VU _),YK]at hb;rw[h.len,Wm (VU _),YK]at hd;cases hb;cases hd;exact hc
  . rcases XF.mp hb with hb | hb
    . have ne:b≠a:=fun z=>na (by rw[<- z];exact hb);rw[a7 ne]at z;exact h.there b hb z
    . rw[Wx]at hb;subst hb;rw[bp]at z;cases z
theorem bI.JO(h:bI K cl as Hf H S){a:Addr}{ao:Hp}:Vr K cl (as ++[a]) ao (.ref a) (aR S.length):=by
  refine⟨S.length,a,rfl,?_,rfl⟩;rw[<- h.len,Wm (VU _),YK];rfl
theorem bI.more(h:bI K cl as Hf H S){b:Addr}(hb:H b=none):bI K cl as Hf (upd H b o) S:=h.ext (Ext.yJ h.sub hb o)
theorem bI.bw(h:bI K cl as Hf H S){i:Nat}{a:Addr}{l:List PV}(ha:as[i]?=some a)(hs:S[i]?=some (.ls l))(hn:l.any d8=false) :
    ∃ ao,bE as Hf as ao/\bI K cl as ao H (S.set i .gone)/\Rp K cl ao (.ref a) (.lst l):=by
  obtain⟨vs,h1,h2,h3⟩:=h.at_ i a _ ha hs
  have sm:aO Hf (upd Hf a (.lst vs)):=dk h2 _;refine⟨upd Hf a (.lst vs),.bw sm,⟨fun b u q=>?_,h.nd,by rw[YJ];exact h.len,fun j b d hb hd=>?_,h.there⟩,.lst (fV.of bp) ((h3.aT hn).keep sm)⟩
  . by_cases e:b=a
    . subst e;rw[bp]at q;cases q;exact h1
    . rw[a7 e]at q;exact h.sub b u q
  . by_cases e:i=j
    . subst e;have hi:i<S.length:=(VS.mp hs).1
      rw[Wg hi]at hd;cases hd;trivial
    . rw[V4 e]at hd;have ne:b≠a:=fun z=>by
        subst z;have l1:=(VS.mp ha)
        have l2:=(VS.mp hb);exact e ((Zf h.nd).mp (l1.2.trans l2.2.symm))
      have:=h.at_ j b d hb hd
      cases d with
      | obj c fs=>obtain⟨dx,vs,g1,g2,g3⟩:=this;exact⟨dx,vs,g1,by rw[a7 ne];exact g2,g3.keep (.bw sm)⟩
      | ls l=>obtain⟨vs,g1,g2,g3⟩:=this;exact⟨vs,g1,by rw[a7 ne];exact g2,g3.keep (.bw sm)⟩
      | dc l=>obtain⟨vs,g1,g2,g3⟩:=this;exact⟨vs,g1,by rw[a7 ne];exact g2,g3.keep (.bw sm)⟩
      | gone=>trivial
end
noncomputable def eN:Option PV->Option PV
  | some (.own _)=>none
  | o=>o
noncomputable def hide(ρ:ay):ay:=ρ.map eN
structure cj(K:PySem.W.Frag)(cl:Nat->Addr)(as:List Addr)(Hf H:Hp)(σ:SV)(ρ:ay)(S:aI):Prop where
  bT:bI K cl as Hf H S
  slot:∀(i:Nat)(p:PV),ρ[i]?=some (some p)->∃ v,σ[i]?=some (some v)/\Vr K cl as Hf v p
section
variable {K:PySem.W.Frag}{cl:Nat->Addr}{as aJ:List Addr}{Hf ao H H':Hp}{σ:SV}{ρ:ay}{S S':aI}
theorem tv{i:Nat}{p:PV}(h:(hide ρ)[i]?=some (some p)):ρ[i]?=some (some p)/\d8 p=false:=by
  unfold hide at h;rw[Wt]at h;cases e:ρ[i]? with
  | none=>rw[e]at h;cases h
  | some o =>
    rw[e]at h;cases o with
    | none=>cases h
    | some q =>
      cases q<;>first
        | (cases h;exact⟨rfl,rfl⟩)
        | (cases h;done)
theorem cj.rep(r:cj K cl as Hf H σ ρ S):Rep K cl Hf H Hf H σ (hide ρ):=by
  refine⟨Ext.refl r.bT.sub,fun i p h=>?_,fun i j ps qs a h1 h2 _ _=>?_⟩
  . obtain⟨e,n⟩:=tv h;obtain⟨v,h1,h2⟩:=r.slot i p e;refine⟨v,h1,?_⟩;cases p with
    | own l=>cases n
    | _=>exact h2
  . have:=(tv h1).2;cases this
theorem cj.keep(r:cj K cl as Hf H σ ρ S)(g:bE as Hf aJ ao)(s:bI K cl aJ ao H' S'):cj K cl aJ ao H' σ ρ S' :=
  ⟨s,fun i p h=>by
    obtain⟨v,h1,h2⟩:=r.slot i p h;exact⟨v,h1,h2.keep g⟩⟩
theorem cj.set(r:cj K cl as Hf H σ ρ S)(i:Nat)(h:Vr K cl as Hf v p)(hl:i<σ.length):cj K cl as Hf H (σ.set i (some v)) (ρ.set i (some p)) S:=by
  refine⟨r.bT,fun j q hq=>?_⟩;by_cases e:i=j
  . subst e;have hi:i<ρ.length:=by
      rw[XO]at hq;by_cases hh:i<ρ.length
      . exact hh
      . simp[hh]at hq
    rw[Wg hi]at hq;cases hq;exact⟨v,by rw[Wg hl],h⟩
  . rw[V4 e]at hq;obtain⟨w,a,b⟩:=r.slot j q hq;exact⟨w,by rw[V4 e];exact a,b⟩
theorem cj.forget(r:cj K cl as Hf H σ ρ S)(i:Nat)(w:Option V):cj K cl as Hf H (σ.set i w) (ρ.set i none) S:=by
  refine⟨r.bT,fun j q hq=>?_⟩;have e:i≠j:=fun z=>by
    subst z;rw[XO]at hq;by_cases hh:i<ρ.length<;>simp[hh]at hq
  rw[V4 e]at hq;obtain⟨v,a,b⟩:=r.slot j q hq;exact⟨v,by rw[V4 e];exact a,b⟩
end
abbrev GE:=ay->aI->RS PV
abbrev GT:=ay->aI->RS Bool
abbrev GA:=ay->aI->RS (List PV)
section
variable (X:Cx) (cl:Nat->Addr)
def mY(pins:List (Addr×Obj))(σ:SV)(as:List Addr)(Hf:Hp)(r:RS PV)(u:Value)(s:Shared):Prop :=
  ∃ p v S aJ ao H',r=.ok p S/\Inv X pins σ H' s/\RelV v u/\bE as Hf aJ ao/\bI X.K cl aJ ao H' S/\Vr X.K cl aJ ao v p
def vv(pins:List (Addr×Obj))(σ:SV)(as:List Addr)(Hf:Hp)(r:RS Bool)(b:Bool)(s:Shared):Prop :=
  ∃ S aJ ao H',r=.ok b S/\Inv X pins σ H' s/\bE as Hf aJ ao/\bI X.K cl aJ ao H' S
def RN(pins:List (Addr×Obj))(σ:SV)(as:List Addr)(Hf:Hp)(r:RS (List PV))(us:List Value)(s:Shared):Prop :=
  ∃ ps vs S aJ ao H',r=.ok ps S/\Inv X pins σ H' s/\Vals vs us/\bE as Hf aJ ao/\bI X.K cl aJ ao H' S/\eV X.K cl aJ ao vs ps
def fA{α:Type}(pins:List (Addr×Obj))(σ:SV)(as:List Addr)(Hf:Hp)(r:RS α)(u:Value)(s:Shared):Prop :=
  ∃ c S aJ ao H' e,r=.exc c S/\u=.ref e/\Inv X pins σ H' s/\bE as Hf aJ ao/\bI X.K cl aJ ao H' S/\mP X pins H' e (cl c) s.heap
structure SE(e:Expr)(f:GE):Prop where
  go:∀(pins:List (Addr×Obj))(s:Shared)(σ:SV)(as:List Addr)(Hf H:Hp)(ρ:ay)(S:aI),Inv X pins σ H s->cj X.K cl as Hf H σ ρ S->f ρ S≠.stuck ->
    wpAny (model X.prog X.w) X.A (eval e X.env) (mY X cl pins σ as Hf (f ρ S)) (fA X cl pins σ as Hf (f ρ S)) s
structure ST(e:Expr)(f:GT):Prop where
  go:∀(pins:List (Addr×Obj))(s:Shared)(σ:SV)(as:List Addr)(Hf H:Hp)(ρ:ay)(S:aI),Inv X pins σ H s->cj X.K cl as Hf H σ ρ S->f ρ S≠.stuck ->
    wpAny (model X.prog X.w) X.A (isTrue e X.env (eval e X.env)) (vv X cl pins σ as Hf (f ρ S)) (fA X cl pins σ as Hf (f ρ S)) s
structure SA(es:List Expr)(f:GA):Prop where
  len:∀ ρ S ps S',f ρ S=.ok ps S'->ps.length=es.length
  go:∀(pos:Pos)(pins:List (Addr×Obj))(s:Shared)(σ:SV)(as:List Addr)(Hf H:Hp)(ρ:ay)(S:aI),Inv X pins σ H s->cj X.K cl as Hf H σ ρ S->f ρ S≠.stuck ->
    wpAny (model X.prog X.w) X.A (spliced (backTo pos (starEach es X.env))) (RN X cl pins σ as Hf (f ρ S)) (fA X cl pins σ as Hf (f ρ S)) s
end
section
variable {X:Cx}{cl:Nat->Addr}{pins:List (Addr×Obj)}{s:Shared}{σ:SV}{as bC:List Addr}{Hf H aD H1:Hp}{ρ:ay}{S:aI}{α:Type}
theorem mY.from(g:bE as Hf bC aD)(h:mY X cl pins σ bC aD r u s'):mY X cl pins σ as Hf r u s':=by
  obtain⟨p,v,S,aJ,ao,H',e1,I,rv,g',st,rp⟩:=h;exact⟨p,v,S,aJ,ao,H',e1,I,rv,g.trans g',st,rp⟩
theorem vv.from(g:bE as Hf bC aD)(h:vv X cl pins σ bC aD r u s'):vv X cl pins σ as Hf r u s':=by
  obtain⟨S,aJ,ao,H',e1,I,g',st⟩:=h;exact⟨S,aJ,ao,H',e1,I,g.trans g',st⟩
theorem fA.from{r:RS α}(g:bE as Hf bC aD)(h:fA X cl pins σ bC aD r u s'):fA X cl pins σ as Hf r u s':=by
  obtain⟨c,S,aJ,ao,H',e,e1,eu,I,g',st,x⟩:=h;exact⟨c,S,aJ,ao,H',e,e1,eu,I,g.trans g',st,x⟩
theorem kx{β:Type}{r:RS α}{k:α->aI->RS β}(h:fA X cl pins σ as Hf r u s'):fA X cl pins σ as Hf (r.bind k) u s':=by
  obtain⟨c,S,aJ,ao,H',e,e1,eu,I,g',st,x⟩:=h;exact⟨c,S,aJ,ao,H',e,by rw[e1];rfl,eu,I,g',st,x⟩
theorem SE.run(h:SE X cl e f)(I:Inv X pins σ H1 s)(r:cj X.K cl bC aD H1 σ ρ S)(g0:bE as Hf bC aD){k:PV->aI->RS α}(hs:(f ρ S).bind k≠.stuck){Q:Value->Shared->Prop}
    (ok:∀ p v u s' aJ ao H' S',(f ρ S).bind k=k p S'->Inv X pins σ H' s'->RelV v u->bE bC aD aJ ao->cj X.K cl aJ ao H' σ ρ S'->Vr X.K cl aJ ao v p->Q u s') :
    wpAny (model X.prog X.w) X.A (eval e X.env) Q (fA X cl pins σ as Hf ((f ρ S).bind k)) s:=by
  have hf:f ρ S≠.stuck:=fun z=>hs (by rw[z];rfl);refine VN (h.go pins s σ bC aD H1 ρ S I r hf) (fun u s' q=>?_) fun u s' q=>(kx q).from g0;obtain⟨p,v,S',aJ,ao,H',e1,I',rv,g,st,rp⟩:=q;exact ok p v u s' aJ ao H' S' (by rw[e1];rfl) I' rv g (r.keep g st) rp
theorem ST.run(h:ST X cl e f)(I:Inv X pins σ H1 s)(r:cj X.K cl bC aD H1 σ ρ S)(g0:bE as Hf bC aD){k:Bool->aI->RS α}(hs:(f ρ S).bind k≠.stuck){Q:Bool->Shared->Prop}
    (ok:∀ b s' aJ ao H' S',(f ρ S).bind k=k b S'->Inv X pins σ H' s'->bE bC aD aJ ao->cj X.K cl aJ ao H' σ ρ S'->Q b s') :
    wpAny (model X.prog X.w) X.A (isTrue e X.env (eval e X.env)) Q (fA X cl pins σ as Hf ((f ρ S).bind k)) s:=by
  have hf:f ρ S≠.stuck:=fun z=>hs (by rw[z];rfl);refine VN (h.go pins s σ bC aD H1 ρ S I r hf) (fun u s' q=>?_) fun u s' q=>(kx q).from g0;obtain⟨S',aJ,ao,H',e1,I',g,st⟩:=q;exact ok u s' aJ ao H' S' (by rw[e1];rfl) I' g (r.keep g st)
theorem SA.run{es:List Expr}(h:SA X cl es f)(pos:Pos)(I:Inv X pins σ H1 s)(r:cj X.K cl bC aD H1 σ ρ S)(g0:bE as Hf bC aD){k:List PV->aI->RS α}(hs:(f ρ S).bind k≠.stuck){Q:List Value->Shared->Prop}
    (ok:∀ ps vs us s' aJ ao H' S',ps.length=es.length->(f ρ S).bind k=k ps S'->Inv X pins σ H' s'->Vals vs us->bE bC aD aJ ao->cj X.K cl aJ ao H' σ ρ S'->eV X.K cl aJ ao vs ps->Q us s') :
    wpAny (model X.prog X.w) X.A (spliced (backTo pos (starEach es X.env))) Q (fA X cl pins σ as Hf ((f ρ S).bind k)) s:=by
  have hf:f ρ S≠.stuck:=fun z=>hs (by rw[z];rfl);refine VN (h.go pos pins s σ bC aD H1 ρ S I r hf) (fun u s' q=>?_) fun u s' q=>(kx q).from g0;obtain⟨ps,vs,S',aJ,ao,H',e1,I',rv,g,st,rp⟩:=q;exact ok ps vs u s' aJ ao H' S' (h.len _ _ _ _ e1) (by rw[e1];rfl) I' rv g (r.keep g st) rp
theorem uj(st:bI X.K cl as Hf H S)(h:eU X cl pins σ Hf H r u s'):mY X cl pins σ as Hf (fz S r) u s':=by
  obtain⟨p,v,ao,H',e1,I',rv,ex,rp⟩:=h;exact⟨p,v,S,as,ao,H',by rw[e1];rfl,I',rv,.bw ex.bw,st.ext ex,.of rp⟩
theorem uk{r:R α}(st:bI X.K cl as Hf H S)(h:bW X cl pins σ Hf H r u s'):fA X cl pins σ as Hf (fz S r) u s':=by
  obtain⟨c,e1,e,ao,H',eu,I',ex,x⟩:=h;exact⟨c,S,as,ao,H',e,by rw[e1];rfl,eu,I',.bw ex.bw,st.ext ex,x⟩
theorem zG(st:bI X.K cl as Hf H S)(h:mQ X pins σ Hf H r u s'):vv X cl pins σ as Hf (fz S r) u s':=by
  obtain⟨ao,H',e1,I',ex⟩:=h;exact⟨S,as,ao,H',by rw[e1];rfl,I',.bw ex.bw,st.ext ex⟩
theorem lV{r:R α}(h:fz S r≠.stuck):r≠.stuck:=fun z=>h (by rw[z];rfl)
noncomputable def gP(f:FE):GE:=fun ρ S=>fz S (f (hide ρ))
noncomputable def nX(f:FT):GT:=fun ρ S=>fz S (f (hide ρ))
theorem aG(h:ME X cl e f):SE X cl e (gP f):=by
  refine⟨fun pins s σ as Hf H ρ S I r hs=>?_⟩;exact VN (h pins s σ Hf H Hf H (hide ρ) I r.rep (lV hs)) (fun _ _ q=>uj r.bT q) fun _ _ q=>uk r.bT q
theorem gS(h:MT X cl e f):ST X cl e (nX f):=by
  refine⟨fun pins s σ as Hf H ρ S I r hs=>?_⟩;exact VN (h pins s σ Hf H Hf H (hide ρ) I r.rep (lV hs)) (fun _ _ q=>zG r.bT q) fun _ _ q=>uk r.bT q
noncomputable def bA(i:Nat):GE:=fun ρ S=>match ρ[i]? with
  | some (some p)=>.ok p S
  | _=>.stuck
theorem JP{i:Nat}{x:Str}{pos:Pos}(hN:X.N[i]?=some x)(hv:kK X.env.scope x) (hd:(x ==("__debug__" : Str))=false:=by decide) (cU:(x ==("__classdict__" : Str))=false:=by decide) :
    SE X cl (.Name x pos) (bA i):=by
  refine⟨fun pins s σ as Hf H ρ S I r hs=>?_⟩;unfold bA at hs ⊢;split at hs
  . next p e =>
    obtain⟨v,h1,h2⟩:=r.slot i p e;exact xi I hN hv h1 (fun u ru=>⟨p,v,S,as,Hf,H,rfl,I,ru,.refl _ _,r.bT,h2⟩) hd cU
  . exact absurd rfl hs
theorem iY{K:PySem.W.Frag}{v:V}{p:PV}{i:Nat}(h:Vr K cl as Hf v p)(e:iK p=some i):∃ a,as[i]?=some a/\v=.ref a:=by
  cases p with
  | own l =>
    obtain⟨j,a,rfl,h2,h3⟩:=h;have:iK (.own [.int (j:Int)])=some j:=gR j
    rw[this]at e;cases e;exact⟨a,h2,h3⟩
  | _=>cases e
noncomputable def atK(c:Nat)(f:Str)(p:PV)(S:aI):RS PV:=match iK p with
  | some i=>(match S[i]? with
    | some (.obj d fs)=>if d=c then (match fs.lookup f with
      | some q=>.ok q S
      | none=>.stuck) else .stuck
    | _=>.stuck)
  | none=>.stuck
noncomputable def de(c:Nat)(f:Str)(a:GE):GE:=fun ρ S=>(a ρ S).bind (atK c f)
theorem JQ(h:atK c f p S≠.stuck):∃ i fs q,iK p=some i/\S[i]?=some (.obj c fs)/\fs.lookup f=some q/\atK c f p S=.ok q S:=by
  unfold atK at h ⊢;split at h
  . next i e1 =>
    split at h
    . next d fs e2 =>
      split at h
      . next e3 =>
        subst e3;split at h
        . next q e4=>exact⟨i,fs,q,e1,e2,e4,by simp only[e1,e2,W2,e4]⟩
        . exact absurd rfl h
      . exact absurd rfl h
    . exact absurd rfl h
  . exact absurd rfl h
theorem c5{e:Expr}{g:GE}{c:Nat}{f:Str}{pos:Pos}(hc:L2.gd X.K (cl c))(hn:fN X.K (cl c) f)(he:SE X cl e g)(hb:attributeBase e f X.env (eval e X.env)=eval e X.env:=by rfl):SE X cl (.Attribute e f pos) (de c f g):=by
  refine⟨fun pins s σ as Hf H ρ S I r hs=>?_⟩;unfold de at hs ⊢;refine Gr hb (he.run I r (.refl _ _) hs fun p v u s1 bC aD H1 S1 e1 I1 rv g1 r1 rp=>?_);rw[e1]at hs ⊢;obtain⟨i,fs,q,h1,h2,h3,h4⟩:=JQ hs;rw[h4];obtain⟨a,ha,rfl⟩:=iY rp h1;obtain rfl:u=Value.ref a:=rv;obtain⟨dx,vs,k1,k2,k3⟩:=r1.bT.at_ i a _ ha h2
  obtain⟨w,l1,l2⟩:=(k3.look f).1 q h3;exact yu I1 k1 hc hn l1 fun u' s2 I2 ru=>⟨q,w,S1,bC,aD,H1,rfl,I2,ru,g1,r1.bT,l2⟩
noncomputable def JR(p q:PV)(S:aI):RS PV:=match iK p with
  | some i=>(match q with
    | .int k=>(match S[i]? with
      | some (.ls l)=>fz S (il l k)
      | _=>.stuck)
    | _=>.stuck)
  | none=>if d8 p||d8 q then .stuck else fz S (aB p q)
noncomputable def E0(a b:GE):GE:=fun ρ S=>(a ρ S).bind fun p S1=>(b ρ S1).bind fun q S2=>JR p q S2
noncomputable def tw(o:PV->PV->R PV)(p q:PV)(S:aI):RS PV:=if d8 p||d8 q then .stuck else fz S (o p q)
noncomputable def fR(o:PV->PV->R PV)(a b:GE):GE:=fun ρ S=>(a ρ S).bind fun p S1=>(b ρ S1).bind fun q S2=>tw o p q S2
theorem two_s{f:Value->Value->Sem Value}{o:PV->PV->R PV} (ha:SE X cl a fa) (hb:SE X cl b fb) (rule:cO X cl f o) (I:Inv X pins σ H s) (r:cj X.K cl as Hf H σ ρ S) (hs:fR o fa fb ρ S≠.stuck) :
    wpAny (model X.prog X.w) X.A (eval a X.env) (fun v s₁=>wpAny (model X.prog X.w) X.A (eval b X.env) (fun u s₂=>wpAny (model X.prog X.w) X.A (f v u)
      (mY X cl pins σ as Hf (fR o fa fb ρ S)) (fA X cl pins σ as Hf (fR o fa fb ρ S)) s₂) (fA X cl pins σ as Hf (fR o fa fb ρ S)) s₁) (fA X cl pins σ as Hf (fR o fa fb ρ S)) s:=by
  unfold fR at hs ⊢;refine ha.run I r (.refl _ _) hs fun p v u s1 bC aD H1 S1 e1 I1 rv g1 r1 rp=>?_;rw[e1]at hs ⊢;refine hb.run I1 r1 g1 hs fun q v' u' s2 jT bG H2 S2 e2 I2 d0 g2 r2 rq=>?_;rw[e2]at hs ⊢;have lW:=g1.trans g2
  unfold tw at hs ⊢;split at hs
  . exact absurd rfl hs
  . next hn =>
    rw[VQ hn];rw[X3,not_or]at hn;have n1:d8 p=false:=by simpa using hn.1
    have n2:d8 q=false:=by simpa using hn.2
    exact VN (rule pins s2 σ bG H2 v v' u u' p q I2 r2.bT.sub rv d0 ((rp.keep g2).rp n1) (rq.rp n2) (lV hs)) (fun _ _ h=>(uj r2.bT h).from lW) fun _ _ h=>(uk r2.bT h).from lW
theorem JS{o:PV->PV->R PV}{pos:Pos} (rule:cO X cl (binaryOp op) o) (ha:SE X cl a fa) (hb:SE X cl b fb):SE X cl (.BinOp a op b pos) (fR o fa fb) :=
  ⟨fun pins s σ as Hf H ρ S I r hs=>wpAny_BinOp (two_s ha hb rule I r hs)⟩
theorem JT{a b:Expr}{o:PV->PV->R PV}{pos:Pos}(rule:cO X cl (compareOp op) o)(ha:SE X cl a fa)(hb:SE X cl b fb)(hm:behindInMarks op b=false:=by with_unfolding_all rfl):SE X cl (.Compare a [op] [b] pos) (fR o fa fb) :=
  ⟨fun pins s σ as Hf H ρ S I r hs=>wpAny_Compare1 (two_s ha hb rule I r hs) hm⟩
noncomputable def JU(a:GE):GE:=fun ρ S=>(a ρ S).bind fun p S1=>.ok (.bl (isNone p)) S1
noncomputable def BH(g:GE)(ρ:ay)(p:PV)(S:aI):RS PV:=match p with
  | .bl true=>g ρ S
  | .bl false=>.ok (.bl false) S
  | _=>.stuck
noncomputable def vw(f g:GE):GE:=fun ρ S=>(f ρ S).bind (BH g ρ)
theorem BI{op:BoolOp}{pos:Pos} (h:SE X cl a f):SE X cl (.BoolOp op [a] pos) f:=⟨fun pins s σ as Hf H ρ S I r hs=>BoolOp_one (h.go pins s σ as Hf H ρ S I r hs)⟩
theorem BJ{a b:Expr}{rest:List Expr}{pos:Pos}(h:SE X cl a f)(hb:SE X cl (.BoolOp .And (b::rest) pos) g):SE X cl (.BoolOp .And (a::b::rest) pos) (vw f g):=by
  refine⟨fun pins s σ as Hf H ρ S I r hs=>?_⟩;unfold vw at hs ⊢;refine BoolOp_and (h.run I r (.refl _ _) hs fun p v u s1 bC aD H1 S1 e1 I1 rv g1 r1 rp=>?_);rw[e1]at hs ⊢;unfold BH at hs ⊢;split at hs
  . have qX:=rp.rp rfl;cases qX;cases rv;refine WR ?_;exact VN (hb.go pins s1 σ bC aD H1 ρ S1 I1 r1 hs) (fun _ _ q=>q.from g1) fun _ _ q=>q.from g1
  . have qX:=rp.rp rfl;cases qX;cases rv;exact WR ⟨_,.bl false,S1,bC,aD,H1,rfl,I1,rfl,g1,r1.bT,Vr.of (.bl false)⟩
  . exact absurd rfl hs
noncomputable def tB(p:PV)(S:aI):RS Bool:=if d8 p then .stuck else fz S (eR p)
noncomputable def f9(f:GE):GT:=fun ρ S=>(f ρ S).bind tB
theorem qY{e:Expr}(h:SE X cl e f)(he:∀ whole,isTrue e X.env whole=(do let v <- whole;standAt e.pos;holding [v] (truthy v)):=by intro _;rfl):ST X cl e (f9 f):=by
  refine⟨fun pins s σ as Hf H ρ S I r hs=>?_⟩;unfold f9 at hs ⊢;refine isTrue_plain (h.run I r (.refl _ _) hs fun p v u s1 bC aD H1 S1 e1 I1 rv g1 r1 rp=>?_) (he _);rw[e1]at hs ⊢;unfold tB at hs ⊢;split at hs
  . exact absurd rfl hs
  . next hn =>
    rw[VQ hn];exact ft (je I1 r1.bT.sub rv (rp.rp (by simpa using hn)) (lV hs)) fun _ _ q=>(zG r1.bT q).from g1
noncomputable def kY(f:GT):GT:=fun ρ S=>(f ρ S).bind fun b S1=>.ok (!b) S1
theorem qZ{pos:Pos} (h:ST X cl a f):ST X cl (.UnaryOp .Not a pos) (kY f):=by
  refine⟨fun pins s σ as Hf H ρ S I r hs=>?_⟩;unfold kY at hs ⊢;refine isTrue_not (h.run I r (.refl _ _) hs fun b s1 bC aD H1 S1 e1 I1 g1 r1=>?_);rw[e1];exact⟨S1,bC,aD,H1,rfl,I1,g1,r1.bT⟩
noncomputable def bK:GA:=fun _ S=>.ok [] S
noncomputable def aN(a:GE)(r:GA):GA:=fun ρ S=>(a ρ S).bind fun x S1=>(r ρ S1).bind fun xs S2=>.ok (x::xs) S2
theorem bL:SA X cl [] bK:=⟨fun _ _ ps S' h=>by cases h;rfl,fun pos pins s σ as Hf H ρ S I r _=>WY ⟨[],[],S,as,Hf,H,rfl,I,.nil,.refl _ _,r.bT,.nil⟩⟩
theorem aL(h:SE X cl e f)(hr:SA X cl es g)(dE:starEach (e::es) X.env=(false,eval e X.env)::starEach es X.env:=by rfl):SA X cl (e::es) (aN f g):=by
  refine⟨fun ρ S ps S' q=>?_,fun pos pins s σ as Hf H ρ S I r hs=>?_⟩
  . unfold aN at q;cases e1:f ρ S with
    | stuck=>rw[e1]at q;cases q
    | exc c T=>rw[e1]at q;cases q
    | ok p T =>
      rw[e1]at q;have q:(g ρ T).bind (fun xs S2=>RS.ok (p::xs) S2)=.ok ps S':=q
      cases e2:g ρ T with
      | stuck=>rw[e2]at q;cases q
      | exc c T=>rw[e2]at q;cases q
      | ok qs T2 =>
        rw[e2]at q;have q:RS.ok (p::qs) T2=.ok ps S':=q
        cases q;have:=hr.len ρ T qs _ e2
        rw[VT,VT,this]
  . unfold aN at hs ⊢;rw[dE];show wpAny _ _ (spliced ((false,eval e X.env)::backTo pos (starEach es X.env))) _ _ s
    refine WA (h.run I r (.refl _ _) hs fun p v u s1 bC aD H1 S1 e1 I1 rv g1 r1 rp=>?_);rw[e1]at hs ⊢;have hg:g ρ S1≠.stuck:=fun z=>hs (by rw[z];rfl)
    refine VN (hr.go pos pins s1 σ bC aD H1 ρ S1 I1 r1 hg) (fun us s2 h2=>?_) fun u2 s2 h2=>(kx h2).from g1;obtain⟨ps,vs,S2,jT,bG,H2,e2,I2,II,g2,gi,aT⟩:=h2;exact⟨p::ps,v::vs,S2,jT,bG,H2,by rw[e2];rfl,I2,.cons rv II,g1.trans g2,gi,.cons (rp.keep g2) aT⟩
noncomputable def Nw(ps:List PV)(S:aI):RS PV:=if ps.length<=sizeLine then .ok (aR S.length) (S ++[.ls ps]) else .stuck
noncomputable def P1(a:GA):GE:=fun ρ S=>(a ρ S).bind Nw
end
inductive ZR where
  | next (ρ:ay) (S:aI) | ret (v:PV) (S:aI) | brk (ρ:ay) (S:aI) | cont (ρ:ay) (S:aI) | exc (c:Nat) (ρ:ay) (S:aI) | stuck
abbrev GS:=ay->aI->ZR
noncomputable def fJ:GS:=fun ρ S=>.next ρ S
noncomputable def BK:GS:=fun _ _=>.stuck
noncomputable def bF(f g:GS):GS:=fun ρ S=>match f ρ S with
  | .next ρ' S'=>g ρ' S'
  | o=>o
noncomputable def ig(r:RS PV)(ρ:ay)(k:PV->aI->ZR):ZR:=match r with
  | .ok v S=>k v S
  | .exc c S=>.exc c ρ S
  | .stuck=>.stuck
noncomputable def eC(a:GE):GS:=fun ρ S=>ig (a ρ S) ρ fun v S'=>.ret v S'
noncomputable def L8:GS:=fun _ S=>.ret .aU S
noncomputable def gC(a:GE):GS:=fun ρ S=>ig (a ρ S) ρ fun _ S'=>.next ρ S'
noncomputable def gL(i:Nat)(a:GE):GS:=fun ρ S=>ig (a ρ S) ρ fun v S'=>.next (ρ.set i (some v)) S'
noncomputable def fX(t:GT)(f g:GS):GS:=fun ρ S=>match t ρ S with
  | .ok c S'=>if c then f ρ S' else g ρ S'
  | .exc c S'=>.exc c ρ S'
  | .stuck=>.stuck
noncomputable def j7(k:ay->Bool)(c:Nat):GS:=fun ρ S=>if k (hide ρ) then .exc c ρ S else .stuck
noncomputable def dB(i:Nat)(body:GS):List PV->GS
  | [],ρ,S=>.next ρ S
  | x::r,ρ,S=>match body (ρ.set i (some x)) S with
    | .next ρ' S'=>dB i body r ρ' S'
    | .cont ρ' S'=>dB i body r ρ' S'
    | .brk ρ' S'=>.next ρ' S'
    | o=>o
noncomputable def jO(i:Nat)(it:FA)(body:GS):GS:=fun ρ S=>match it (hide ρ)with
  | .ok l=>dB i body l ρ S
  | .exc c=>.exc c ρ S
  | .stuck=>.stuck
noncomputable def eW(body:GS)(ks:List Nat)(d n x:Nat):GS:=fun ρ S=>match body ρ S with
  | .exc c ρ' S'=>if ks.contains c&&under c d then .next (((ρ'.set n (some (.exc c))).set x (some (.exc c))).set n none) S' else .stuck
  | o=>o
noncomputable def iB(c:Nat)(f:Str)(ρ:ay)(q p:PV)(S:aI):ZR:=match iK p with
  | some i=>(match S[i]? with
    | some (.obj d fs)=>if d=c/\fs.length<1000 then .next ρ (S.set i (.obj d (lF f q fs))) else .stuck
    | _=>.stuck)
  | none=>.stuck
noncomputable def gT(c:Nat)(f:Str)(o v:GE):GS:=fun ρ S=>ig (v ρ S) ρ fun q S1=>ig (o ρ S1) ρ fun p S2=>iB c f ρ q p S2
noncomputable def DF(ρ:ay)(q p k:PV)(S:aI):ZR:=match iK p with
  | some i=>(match k with
    | .int k=>(match S[i]? with
      | some (.ls l)=>(match nz l.length k with
        | some j=>.next ρ (S.set i (.ls (l.set j q)))
        | none=>.stuck)
      | _=>.stuck)
    | _=>.stuck)
  | none=>.stuck
noncomputable def E1(o k v:GE):GS:=fun ρ S=>ig (v ρ S) ρ fun q S1=>ig (o ρ S1) ρ fun p S2=>ig (k ρ S2) ρ fun j S3=>DF ρ q p j S3
noncomputable def E2(is:List Nat)(ρ:ay)(v:PV)(S:aI):ZR:=match v with
  | .tup l=>(match jy is l ρ with | some ρ'=>.next ρ' S | none=>.stuck)
  | _=>.stuck
noncomputable def j8(is:List Nat)(a:GE):GS:=fun ρ S=>ig (a ρ S) ρ fun v S'=>E2 is ρ v S'
section
variable (X:Cx) (cl:Nat->Addr)
def xr(pins:List (Addr×Obj))(xt:List Addr)(aA:Hp)(r:ZR)(f:Flow)(s:Shared):Prop:=match f with
  | .next=>∃ ρ S σ as Hf H,r=.next ρ S/\Inv X pins σ H s/\cj X.K cl as Hf H σ ρ S/\bE xt aA as Hf
  | .brk=>∃ ρ S σ as Hf H,r=.brk ρ S/\Inv X pins σ H s/\cj X.K cl as Hf H σ ρ S/\bE xt aA as Hf
  | .cont=>∃ ρ S σ as Hf H,r=.cont ρ S/\Inv X pins σ H s/\cj X.K cl as Hf H σ ρ S/\bE xt aA as Hf
  | .ret u=>∃ p v S σ as Hf H,r=.ret p S/\Inv X pins σ H s/\bI X.K cl as Hf H S/\bE xt aA as Hf/\RelV v u/\Vr X.K cl as Hf v p
def mZ(pins:List (Addr×Obj))(xt:List Addr)(aA:Hp)(r:ZR)(u:Value)(s:Shared):Prop :=
  ∃ c ρ S σ as Hf H e,r=.exc c ρ S/\u=.ref e/\Inv X pins σ H s/\cj X.K cl as Hf H σ ρ S/\bE xt aA as Hf/\mP X pins H e (cl c) s.heap
structure ZS(st:Stmt)(f:GS):Prop where
  go:∀(pins:List (Addr×Obj))(s:Shared)(σ:SV)(as:List Addr)(Hf H:Hp)(ρ:ay)(S:aI),Inv X pins σ H s->cj X.K cl as Hf H σ ρ S->f ρ S≠.stuck ->
    wpAny (model X.prog X.w) X.A (exec st X.env) (xr X cl pins as Hf (f ρ S)) (mZ X cl pins as Hf (f ρ S)) s
structure iL(st:List Stmt)(f:GS):Prop where
  go:∀(pins:List (Addr×Obj))(s:Shared)(σ:SV)(as:List Addr)(Hf H:Hp)(ρ:ay)(S:aI),Inv X pins σ H s->cj X.K cl as Hf H σ ρ S->f ρ S≠.stuck ->
    wpAny (model X.prog X.w) X.A (execs st X.env) (xr X cl pins as Hf (f ρ S)) (mZ X cl pins as Hf (f ρ S)) s
end
section
variable {X:Cx}{cl:Nat->Addr}{pins:List (Addr×Obj)}{s:Shared}{σ:SV}{as bC:List Addr}{Hf H aD H1:Hp}{ρ:ay}{S:aI}{α:Type}
theorem xr.from(g:bE as Hf bC aD)(h:xr X cl pins bC aD r fl s'):xr X cl pins as Hf r fl s':=by
  cases fl with
  | next=>obtain⟨ρ,S,σ,aJ,ao,H',a,b,c,d⟩:=h;exact⟨ρ,S,σ,aJ,ao,H',a,b,c,g.trans d⟩
  | brk=>obtain⟨ρ,S,σ,aJ,ao,H',a,b,c,d⟩:=h;exact⟨ρ,S,σ,aJ,ao,H',a,b,c,g.trans d⟩
  | cont=>obtain⟨ρ,S,σ,aJ,ao,H',a,b,c,d⟩:=h;exact⟨ρ,S,σ,aJ,ao,H',a,b,c,g.trans d⟩
  | ret u=>obtain⟨p,v,S,σ,aJ,ao,H',a,b,c,d,e,f⟩:=h;exact⟨p,v,S,σ,aJ,ao,H',a,b,c,g.trans d,e,f⟩
theorem mZ.from(g:bE as Hf bC aD)(h:mZ X cl pins bC aD r u s'):mZ X cl pins as Hf r u s':=by
  obtain⟨c,ρ,S,σ,aJ,ao,H',e,a,b,d,f,k,l⟩:=h;exact⟨c,ρ,S,σ,aJ,ao,H',e,a,b,d,f,g.trans k,l⟩
theorem vx{s':Shared} (r:cj X.K cl as Hf H σ ρ S) (I:Inv X pins σ H' s') (g:bE as Hf aJ ao) (st:bI X.K cl aJ ao H' S') (x:mP X pins H' e (cl c) s'.heap):mZ X cl pins as Hf (.exc c ρ S') (.ref e) s' :=
  ⟨c,ρ,S',σ,aJ,ao,H',e,rfl,rfl,I,r.keep g st,g,x⟩
theorem SE.lR(h:SE X cl e f)(I:Inv X pins σ H1 s)(r:cj X.K cl bC aD H1 σ ρ S)(g0:bE as Hf bC aD){k:PV->aI->ZR}(hs:ig (f ρ S) ρ k≠.stuck){Q:Value->Shared->Prop}
    (ok:∀ p v u s' aJ ao H' S',ig (f ρ S) ρ k=k p S'->Inv X pins σ H' s'->RelV v u->bE bC aD aJ ao->cj X.K cl aJ ao H' σ ρ S'->Vr X.K cl aJ ao v p->Q u s') :
    wpAny (model X.prog X.w) X.A (eval e X.env) Q (mZ X cl pins as Hf (ig (f ρ S) ρ k)) s:=by
  have hf:f ρ S≠.stuck:=fun z=>hs (by rw[z];rfl);refine VN (h.go pins s σ bC aD H1 ρ S I r hf) (fun u s' q=>?_) fun u s' q=>?_
  . obtain⟨p,v,S',aJ,ao,H',e1,I',rv,g,st,rp⟩:=q;exact ok p v u s' aJ ao H' S' (by rw[e1];rfl) I' rv g (r.keep g st) rp
  . obtain⟨c,S',aJ,ao,H',ee,e1,rfl,I',g,st,x⟩:=q;rw[e1];exact(vx r I' g st x).from g0
theorem ez:iL X cl [] fJ:=⟨fun pins s σ as Hf H ρ S I r _=>Xf ⟨ρ,S,σ,as,Hf,H,rfl,I,r,.refl _ _⟩⟩
theorem aW{st:Stmt}{rest:List Stmt}{f g:GS}(h1:ZS X cl st f)(h2:iL X cl rest g):iL X cl (st::rest) (bF f g):=by
  refine⟨fun pins s σ as Hf H ρ S I r hs=>?_⟩;have hf:f ρ S≠.stuck:=fun z=>hs (by unfold bF;rw[z])
  refine XX (VN (h1.go pins s σ as Hf H ρ S I r hf) (fun fl s1 q=>?_) fun u s1 q=>?_)
  . cases fl with
    | next =>
      obtain⟨ρ',S',σ',aJ,ao,H',e1,I',r',g'⟩:=q;have e2:bF f g ρ S=g ρ' S':=by unfold bF;rw[e1]
      rw[e2]at hs ⊢;exact VN (h2.go pins s1 σ' aJ ao H' ρ' S' I' r' hs) (fun _ _ q=>q.from g') fun _ _ q=>q.from g'
    | brk =>
      obtain⟨ρ',S',σ',aJ,ao,H',e1,I',r',g'⟩:=q;have e2:bF f g ρ S=.brk ρ' S':=by unfold bF;rw[e1]
      rw[e2];exact⟨ρ',S',σ',aJ,ao,H',rfl,I',r',g'⟩
    | cont =>
      obtain⟨ρ',S',σ',aJ,ao,H',e1,I',r',g'⟩:=q;have e2:bF f g ρ S=.cont ρ' S':=by unfold bF;rw[e1]
      rw[e2];exact⟨ρ',S',σ',aJ,ao,H',rfl,I',r',g'⟩
    | ret u =>
      obtain⟨p,v,S',σ',aJ,ao,H',e1,rest⟩:=q;have e2:bF f g ρ S=.ret p S':=by unfold bF;rw[e1]
      rw[e2];exact⟨p,v,S',σ',aJ,ao,H',rfl,rest⟩
  . obtain⟨c,ρ',S',σ',aJ,ao,H',e,e1,rest⟩:=q;have e2:bF f g ρ S=.exc c ρ' S':=by unfold bF;rw[e1]
    rw[e2];exact⟨c,ρ',S',σ',aJ,ao,H',e,rfl,rest⟩
theorem bz{st:Stmt}(h1:ZS X cl st f):iL X cl [st] f:=by
  refine⟨fun pins s σ as Hf H ρ S I r hs=>?_⟩;refine XX (ft (h1.go pins s σ as Hf H ρ S I r hs) fun fl s1 q=>?_);cases fl with
  | next=>exact Xf q
  | ret v=>exact q
  | brk=>exact q
  | cont=>exact q
theorem gn{pos:Pos} (h:SE X cl e f) (ib:swapsWith e none pos.line X.env=pure false:=by rfl):ZS X cl (.Expr e pos) (gC f):=by
  refine⟨fun pins s σ as Hf H ρ S I r hs=>?_⟩;unfold gC at hs ⊢;refine aaa (h.lR I r (.refl _ _) hs fun p v u s1 bC aD H1 S1 e1 I1 rv g1 r1 rp=>?_) I.quiet ib;rw[e1];exact⟨ρ,S1,σ,bC,aD,H1,rfl,I1,r1,g1⟩
theorem c9{pos:Pos} (h:SE X cl e f):ZS X cl (.Return (some e) pos) (eC f):=by
  refine⟨fun pins s σ as Hf H ρ S I r hs=>?_⟩;unfold eC at hs ⊢;refine Zc (h.lR I r (.refl _ _) hs fun p v u s1 bC aD H1 S1 e1 I1 rv g1 r1 rp=>?_);rw[e1];exact⟨p,v,S1,σ,bC,aD,H1,rfl,I1,r1.bT,g1,rv,rp⟩
theorem fS{i:Nat}{x:Str}{pos pos':Pos}(hN:X.N.Nodup)(hi:X.N[i]?=some x)(hx:Loc X.env.scope x)(he:SE X cl e f)(ib:swapsWith e (some (.Name x pos')) pos.line X.env=pure false:=by rfl)
    (hf:X.fn x=true\/X.env.scope.names.lookup x=some .local:=by first | exact .inl rfl | exact .inr rfl | assumption):ZS X cl (.Assign [.Name x pos'] e pos) (gL i f):=by
  refine⟨fun pins s σ as Hf H ρ S I r hs=>?_⟩;unfold gL at hs ⊢;refine Yu (he.lR I r (.refl _ _) hs fun p v u s1 bC aD H1 S1 e1 I1 rv g1 r1 rp=>?_) ib;rw[e1];have hl:i<σ.length:=by rw[I.len];exact(VS.mp hi).1
  exact fB I1 hN hi hx rv (fun s2 I2=>⟨_,S1,_,bC,aD,H1,rfl,I2,r1.set i rp hl,g1⟩) hf
theorem fK{t:GT}{pos:Pos} (hc:ST X cl c t) (ha:iL X cl a f) (hb:iL X cl b g):ZS X cl (.If c a b pos) (fX t f g):=by
  refine⟨fun pins s σ as Hf H ρ S I r hs=>?_⟩;have ht:t ρ S≠.stuck:=fun z=>hs (by unfold fX;rw[z])
  refine wpAny_If (VN (hc.go pins s σ as Hf H ρ S I r ht) (fun d s1 q=>?_) fun u s1 q=>?_)
  . obtain⟨S1,bC,aD,H1,e1,I1,g1,JV⟩:=q;have r1:=r.keep g1 JV
    cases d with
    | true =>
      have e2:fX t f g ρ S=f ρ S1:=by unfold fX;rw[e1];rfl
      rw[e2]at hs ⊢;exact VN (ha.go pins s1 σ bC aD H1 ρ S1 I1 r1 hs) (fun _ _ q=>q.from g1) fun _ _ q=>q.from g1
    | false =>
      have e2:fX t f g ρ S=g ρ S1:=by unfold fX;rw[e1];rfl
      rw[e2]at hs ⊢;exact VN (hb.go pins s1 σ bC aD H1 ρ S1 I1 r1 hs) (fun _ _ q=>q.from g1) fun _ _ q=>q.from g1
  . obtain⟨c,S',aJ,ao,H',ee,e1,rfl,I',g',st,x⟩:=q;have e2:fX t f g ρ S=.exc c ρ S':=by unfold fX;rw[e1]
    rw[e2];exact vx r I' g' st x
theorem gU{pos pos':Pos} (hc:L2.gd X.K (cl c)) (hn:fN X.K (cl c) f) (ho:SE X cl o fo) (he:SE X cl e fe)
    (ib:swapsWith e (some (.Attribute o f pos')) pos.line X.env=pure false:=by rfl):ZS X cl (.Assign [.Attribute o f pos'] e pos) (gT c f fo fe):=by
  refine⟨fun pins s σ as Hf H ρ S I r hs=>?_⟩;unfold gT at hs ⊢;refine plainObj_wpAny_Assign_Attribute (he.lR I r (.refl _ _) hs fun q y u s1 bC aD H1 S1 e1 I1 ry g1 r1 rq=>?_) ib;rw[e1]at hs ⊢;refine ho.lR I1 r1 g1 hs fun p v ov s2 jT bG H2 S2 e2 I2 rv g2 r2 rp=>?_;rw[e2]at hs ⊢;have lW:=g1.trans g2
  unfold iB at hs ⊢;split at hs
  . next i h1 =>
    split at hs
    . next d fs h2 =>
      split at hs
      . next hd =>
        try rw[VP hd]
        obtain⟨rfl,hlen⟩:=hd;obtain⟨a,ha,rfl⟩:=iY rp h1;obtain rfl:ov=Value.ref a:=rv;obtain⟨dx,vs,k1,k2,k3⟩:=r2.bT.at_ i a _ ha h2
        refine yv I2 k1 hc hn (by rw[k3.length];exact hlen) ry fun s3 I3=>?_;exact⟨ρ,_,σ,jT,bG,_,rfl,I3,r2.keep (.refl _ _) (r2.bT.write ha k2 ⟨dx,_,bp,k2,k3.put (rq.keep g2)⟩),lW⟩
      . exact absurd rfl hs
    . exact absurd rfl hs
  . exact absurd rfl hs
theorem DG{k:ay->Bool}{np cpos pos:Pos} (hc:Jh X.K X.mg cl c x) (W:Own X) (hg:Gl X x) (hh:X.A.handled=none) (he:MV X cl e n k)
    (dE:starEach [e] X.env=[(false,eval e X.env)]:=by rfl) (d4:(x ==("__debug__" : Str))=false:=by decide) :
    ZS X cl (.Raise (some (.Call (.Name x np) [e] [] cpos)) none pos) (j7 k c):=by
  refine⟨fun pins s σ as Hf H ρ S I r hs=>?_⟩;have hk:k (hide ρ)=true:=by
    cases q:k (hide ρ)with
    | true=>rfl
    | false=>exact absurd (by unfold j7;rw[q];rfl) hs
  have e0:j7 k c ρ S=.exc c ρ S:=by unfold j7;rw[hk];rfl
  rw[e0];have m:=dq (cl:=cl) (pos:=pos) (cpos:=cpos) (np:=np) hc W hg hh he dE d4
  have ns:cJ k c (hide ρ)=.exc c (hide ρ):=by unfold cJ;rw[hk];rfl
  obtain⟨bm,N,nm,q,bs,hdct,sn,sub,ab,col,dd,k0,k1,k2,k3,k5,mN,hC,hN,xg,T⟩:=tm I.ok.mod.mM hc.ex;refine wpAny_Raise_call_subT (C:=cl c) (nm:=nm) (q:=q) (N:=N) (bs:=bs) (bm:=bm) (hdct:=hdct) (sn:=sn) (sub:=sub) (ab:=ab) (col:=col) (dd:=dd) (k0:=k0) (k1:=k1) (k2:=k2) (k3:=k3) (k5:=k5)
    XH (mN:=mN) (T.hasType XH.hasBase) hh (by rw[dE];rfl) xg (fj I hg hc.mg ⟨rfl,?_⟩ d4)
  rw[dE];refine Xe ?_;show wpAny _ _ (spliced ((false,eval e X.env)::backTo cpos [])) _ _ s
  refine WA (VN (he pins s σ Hf H Hf H (hide ρ) _ I r.rep hk) (fun u s1 q1=>WY ?_) fun _ _ z=>z);obtain⟨y,t,aD,H1,rfl,hl,I1,x1⟩:=q1;refine⟨rfl,by show 1<=sizeLine;decide,I1.bk _ _ hC,hN.keeps I1.bk,T.keeps I1.bk,fun h' ee hm=>?_⟩
  exact⟨c,ρ,S,σ,as,aD,H1,ee,rfl,rfl,I1.kept (t':=s1.toks) hm.keeps,r.keep (.bw x1.bw) (r.bT.ext x1),.bw x1.bw,va W I1 hm⟩
theorem JW{names:List (Nat×Str)}(C:gd X.K X.mg cl names){body:List Stmt}{d:Nat}{y:Str}{n x:Nat}{en ex:Str}{np p1 p2 p3 P4 pos:Pos}(W:Own X)(hy:(d,y)∈names)(hb:iL X cl body f)(hN:X.N.Nodup)
    (hn:X.N[n]?=some en) (hx:X.N[x]?=some ex) (JX:X.env.scope.names.lookup en=some .local) (RO:Loc X.env.scope ex) (hg:Gl X y) (IS:n≠x) (d4:(y ==("__debug__" : Str))=false:=by decide)
    (ib:swapsWith (.Name en p2) (some (.Name ex p1)) p3.line X.env=pure false:=by rfl) (RP:(en ==("__debug__" : Str))=false:=by decide) (RQ:(en ==("__classdict__" : Str))=false:=by decide) :
    ZS X cl (.Try body [.ExceptHandler (some (.Name y np)) (some en) [.Assign [.Name ex p1] (.Name en p2) p3] P4] [] [] pos) (eW f (names.map (·.1)) d n x):=by
  refine⟨fun pins s σ as Hf H ρ S I r hs=>?_⟩;have hf:f ρ S≠.stuck:=fun z=>hs (by unfold eW;rw[z])
  refine wpAny_Try_except (VN (hb.go pins s σ as Hf H ρ S I r hf) (fun fl s1 q=>?_) fun u s1 q=>?_)
  . cases fl with
    | next =>
      obtain⟨ρ',S',σ',aJ,ao,H',e1,I',r',g'⟩:=q;have e2:eW f (names.map (·.1)) d n x ρ S=.next ρ' S':=by unfold eW;rw[e1]
      rw[e2];exact Xf ⟨ρ',S',σ',aJ,ao,H',rfl,I',r',g'⟩
    | brk =>
      obtain⟨ρ',S',σ',aJ,ao,H',e1,I',r',g'⟩:=q;have e2:eW f (names.map (·.1)) d n x ρ S=.brk ρ' S':=by unfold eW;rw[e1]
      rw[e2];exact⟨ρ',S',σ',aJ,ao,H',rfl,I',r',g'⟩
    | cont =>
      obtain⟨ρ',S',σ',aJ,ao,H',e1,I',r',g'⟩:=q;have e2:eW f (names.map (·.1)) d n x ρ S=.cont ρ' S':=by unfold eW;rw[e1]
      rw[e2];exact⟨ρ',S',σ',aJ,ao,H',rfl,I',r',g'⟩
    | ret u =>
      obtain⟨p,v,S',σ',aJ,ao,H',e1,rest⟩:=q;have e2:eW f (names.map (·.1)) d n x ρ S=.ret p S':=by unfold eW;rw[e1]
      rw[e2];exact⟨p,v,S',σ',aJ,ao,H',rfl,rest⟩
  . obtain⟨c,ρ',S',σ',aJ,ao,H',e,e1,rfl,I',r',g',B,a0,mT,nd,st⟩:=q;have e2:eW f (names.map (·.1)) d n x ρ S=if (names.map (·.1)).contains c&&under c d then .next (((ρ'.set n (some (.exc c))).set x (some (.exc c))).set n none) S' else .stuck:=by unfold eW;rw[e1]
    rw[e2]at hs ⊢;have hc:((names.map (·.1)).contains c&&under c d)=true:=by
      cases q:((names.map (·.1)).contains c&&under c d)with
      | true=>rfl
      | false=>rw[q]at hs;exact absurd rfl hs
    rw[VP hc];rw[VR]at hc;obtain⟨cx,RR⟩:=vb hc.1;refine sf W I'.ok.frames nd st fun h1 hh u1 AX=>?_;have I1:=Inv.iy W I' mT hh.1 u1 (tk:=s1.toks)
    have c1:=mT.iy W I' hh.1;refine uY (s:={ s1 with heap:=h1 }) AX hh fun h2 E3 u2 AY=>?_;have I2:=Inv.iy W I1 c1 E3.1 u2 (tk:=s1.toks)
    have c2:=c1.iy W I1 E3.1;refine wpAny_handleBy_cons (codeAny_handlers_test (Yg I2.ok.kind hg (Zx (by rw[I2.ok.glob];exact I2.mod.glob.keeps I2.bk) (C.cls d y hy).mg ?_) d4)) (by intro z;cases z);have LT:PySem.W.Looks (model X.prog X.w) h2 (typeOf (.ref e)) (.ref (cl c)):=by
      obtain⟨ob,q1,q2⟩:=E3.there;exact q2 ▸ (PySem.W.Looks.ld q1).andThen .now
    refine(PySem.W.exm_one (M:=model X.prog X.w) (h:=h2) I2.dR LT (C.Rl c cx d y RR hy)).here ?_;rw[hc.2];refine codeAny_handlers_suite_as ?_;refine Di (s:={ s1 with heap:=h2 }) AY E3 fun h3 iW u3 RT=>?_;have I3:=Inv.iy W I2 c2 iW.1 u3 (tk:=s1.toks)
    have c3:=c2.iy W I2 iW.1;obtain⟨nH,I4⟩:=Bi W I3 c3 RT iW;have x4:=Ext.new r'.bT.sub nH (uR e (cl c))
    have Nx:Rp X.K cl (upd ao e (uR e (cl c))) (.ref e) (.exc c):=.exc bp;have Ny:n<σ'.length:=by rw[I'.len];exact(VS.mp hn).1
    have RU:x<(σ'.set n (some (.ref e))).length:=by rw[YJ,I'.len];exact(VS.mp hx).1
    refine fB I4 hN hn (.inl JX) (v:=.ref e) rfl (fun s5 I5=>?_) (.inl (W.fn en));refine XX (Yu (xi I5 hn (.inl JX) (Wg Ny) (fun u ru=>?_) RP RQ) ib);refine fB I5 hN hx RO ru (fun s6 I6=>?_) (.inl (W.fn ex));refine Xf ?_;refine Dw I6 hN hn JX fun s7 I7=>?_;exact⟨_,S',_,aJ,_,_,rfl,I7,((((r'.keep (.bw x4.bw) (r'.bT.ext x4)).set n (Vr.of Nx) Ny).set x (Vr.of Nx) RU).forget n none),g'.trans (.bw x4.bw)⟩
theorem zH(W:Own X):PassesOwn (model X.prog X.w) X.A X.env (mZ X cl pins as Hf r):=sW W fun u s ⟨c,ρ,S,σ,aJ,ao,H,e,e1,eu,I,rr,g,x⟩ =>
  ⟨pins,σ,H,e,cl c,eu,I,x,fun h' I' x'=>⟨c,ρ,S,σ,aJ,ao,H,e,e1,eu,I',rr,g,x'⟩⟩
theorem vy{i:Nat}{x:Str}{iter:Expr}{body:List Stmt}{pos pos':Pos}(W:Own X)(hc:X.calm=true)(hN:X.N.Nodup)(hi:X.N[i]?=some x)(hx:Loc X.env.scope x)(h:MI X cl (.Name x pos') iter f)(hb:iL X cl body g)
    (hf:X.fn x=true\/X.env.scope.names.lookup x=some .local:=by first | exact .inl rfl | exact .inr rfl | assumption) (ic:∀ y,foldedSetIterable iter X.env y=pure y:=by intro _;rfl) :
    ZS X cl (.For (.Name x pos') iter body [] pos) (jO i f g):=by
  refine⟨fun pins s σ as Hf H ρ S I r hs=>?_⟩;have nJ:f (hide ρ)≠.stuck:=fun z=>hs (by unfold jO;rw[z])
  have hE:∀ u s',bW X cl pins σ Hf H (f (hide ρ)) u s'->mZ X cl pins as Hf (jO i f g ρ S) u s':=fun u s' ⟨c,e1,e,ao,H',eu,I',ex,xs⟩=>by
    have e2:jO i f g ρ S=.exc c ρ S:=by unfold jO;rw[e1]
    rw[e2,eu];exact vx r I' (.bw ex.bw) (r.bT.ext ex) xs
  refine wpAny_For (VN (h pins s σ Hf H Hf H (hide ρ) I r.rep nJ) (fun v s1 h1=>VN h1 (fun sF s2 h2=>?_) hE) hE) ic;obtain⟨ps,vs,bG,e1,it,fp,tn,J,H2,e,I2,T,gi,f2,x2,ov,aT⟩:=h2;subst e;have e2:jO i f g ρ S=dB i g ps ρ S:=by unfold jO;rw[e1]
  rw[e2]at hs ⊢;have hp:PassesOwn (model X.prog X.w) X.A X.env (mZ X cl pins as Hf (dB i g ps ρ S)):=zH W
  have iz:∀{H':Hp},(∀ b∈fp,H' b=none)->∀ b∈fp,gG X pins H' b:=fun hn b hb=>⟨hn b hb,(f2 b hb).2⟩;have u4:∀{σ':SV}{H':Hp}{s':Shared},Inv X pins σ' H' s'->i<σ'.length:=fun I'=>by rw[I'.len];exact(VS.mp hi).1
  have g2:bE as Hf as bG:=.bw x2.bw;refine codeAny_forLoop_any (fun n s'=>∃ k ρ' S' σ' aJ ao H',Inv X pins σ' H' s'/\tn k s'.heap/\(∀ b∈fp,H' b=none)/\cj X.K cl aJ ao H' σ' ρ' S'/\bE as bG aJ ao/\n=ps.length - k/\k<=ps.length/\dB i g (ps.drop k) ρ' S'=dB i g ps ρ S) ?_ ps.length
    ⟨0,ρ,S,σ,as,bG,H2,I2,gi,fun b hb=>(f2 b hb).1,r.keep g2 (r.bT.ext x2),.refl _ _,rfl,Xp _,rfl⟩
  rintro n s3 ⟨k,ρ3,S3,σ3,xu,iI,H3,I3,nL,A0,r3,g3,rfl,hk,e3⟩;have nM:=aT.length
  have nN:aO bG H3:=g3.2.trans r3.bT.sub;by_cases gJ:k<ps.length
  . obtain⟨go,yl⟩:=(ov H3 k nN).1 (by rw[nM];exact gJ);refine WT hp (VN (T.item X rfl rfl rfl hc k pins s3 σ3 H3 (mZ X cl pins as Hf (dB i g ps ρ S)) I3 (iz A0) nL go) (fun rr s4 ⟨u,hr,h4⟩=>?_) fun _ _ z=>z);subst hr;refine WT hp (ft h4 fun _ s5 ⟨x5,H5,I5,r5,y5,u6,IZ⟩=>?_);obtain⟨eH,I0⟩:=yl x5 H5 y5;subst eH;obtain⟨p5,A2,A3⟩:=aT.get' I0;have Dl:Vr X.K cl xu iI x5 p5:=Vr.of (A3.keep g3.2)
    have mw:ps.drop k=p5::ps.drop (k+1):=by
      rw[XT gJ];rw[V9 gJ]at A2;rw[WL A2]
    have Ja:=I5.pinned (iz IZ) (T.obj _ _ u6);refine WT hp (XQ (fB Ja hN hi hx r5 (fun s6 I6=>?_) hf));have r6:=r3.set i Dl (u4 I3)
    rw[mw]at e3;have step:dB i g (p5::ps.drop (k+1)) ρ3 S3=(match g (ρ3.set i (some p5)) S3 with | .next ρ' S'=>dB i g (ps.drop (k+1)) ρ' S' | .cont ρ' S'=>dB i g (ps.drop (k+1)) ρ' S' | .brk ρ' S'=>.next ρ' S' | o=>o):=rfl
    rw[step]at e3;have hg:g (ρ3.set i (some p5)) S3≠.stuck:=fun z=>hs (by rw[<- e3,z])
    have JY:bE as Hf xu iI:=g2.trans g3;refine WT hp (VN (hb.go _ s6 _ xu iI H5 _ S3 I6 r6 hg) (fun fl s7 q7=>?_) fun u s7 q7=>?_)
    . have again:∀{ρ7:ay}{S7:aI}{σ7:SV}{m7:List Addr}{eh H7:Hp},Inv X (pins++lL fp s5.heap) σ7 H7 s7->cj X.K cl m7 eh H7 σ7 ρ7 S7->bE as bG m7 eh->dB i g (ps.drop (k+1)) ρ7 S7=dB i g ps ρ S ->
          ∃ m,m<ps.length - k/\∃ k ρ' S' σ' aJ ao H',Inv X pins σ' H' s7/\tn k s7.heap/\(∀ b∈fp,H' b=none)/\cj X.K cl aJ ao H' σ' ρ' S'/\bE as bG aJ ao/\m=ps.length - k/\k<=ps.length/\dB i g (ps.drop k) ρ' S'=dB i g ps ρ S:=fun{ρ7 S7 σ7 m7 eh H7} I7 r7 g7 e7=>by
        refine⟨ps.length - (k+1),by omega,k+1,ρ7,S7,σ7,m7,eh,H7,I7.fD,T.keep _ _ _ u6 fun b hb o e=>(I7.pin (b,o) (We _ (We _ (fu hb e)))).1,fun b hb=>?_,r7,g7,rfl,gJ,e7⟩;obtain⟨o,e,d⟩:=T.obj _ _ u6 b hb;exact(I7.pin (b,o) (We _ (We _ (fu hb e)))).2.1
      cases fl with
      | next =>
        obtain⟨ρ7,S7,σ7,m7,eh,H7,e7,I7,r7,g7⟩:=q7;rw[e7]at e3;exact again I7 r7 (g3.trans g7) e3
      | cont =>
        obtain⟨ρ7,S7,σ7,m7,eh,H7,e7,I7,r7,g7⟩:=q7;rw[e7]at e3;exact again I7 r7 (g3.trans g7) e3
      | brk =>
        obtain⟨ρ7,S7,σ7,m7,eh,H7,e7,I7,r7,g7⟩:=q7;rw[e7]at e3;rw[<- e3];exact⟨ρ7,S7,σ7,m7,eh,H7,rfl,I7.fD,r7,JY.trans g7⟩
      | ret u =>
        obtain⟨p7,v7,S7,σ7,m7,eh,H7,e7,I7,RV,g7,A4,A5⟩:=q7;rw[e7]at e3;rw[<- e3];exact⟨p7,v7,S7,σ7,m7,eh,H7,rfl,I7.fD,RV,JY.trans g7,A4,A5⟩
    . obtain⟨c7,ρ7,S7,σ7,m7,eh,H7,A6,e7,A7,I7,r7,g7,x7⟩:=q7;rw[e7]at e3;rw[<- e3];exact⟨c7,ρ7,S7,σ7,m7,eh,H7,A6,rfl,A7,I7.fD,r7,JY.trans g7,x7.uh⟩
  . have u7:k=ps.length:=by omega
    subst u7;refine WT hp (ft (T.done X rfl rfl rfl hc ps.length pins s3 σ3 H3 _ I3 (iz A0) nL ((ov H3 ps.length nN).2 (by rw[nM];exact VU _))) fun rr s4 ⟨hr,I4⟩=>?_);subst hr;rw[YA]at e3;rw[<- e3];exact Xf ⟨ρ3,S3,σ3,xu,iI,H3,rfl,I4,r3,g2.trans g3⟩
theorem tD:∀{is:List Nat}{vs:List V}{ps:List PV}{σ:SV}{ρ ρ':ay},cj X.K cl as Hf H σ ρ S->bB X.K cl Hf vs ps->jy is ps ρ=some ρ'->(∀ i∈is,i<σ.length) ->
    cj X.K cl as Hf H ((is.zip vs).foldl (fun σ q=>σ.set q.1 (some q.2)) σ) ρ' S
  | [],vs,ps,σ,ρ,ρ',r,rp,e,_=>by
    cases rp with
    | nil=>cases e;exact r
    | cons _ _=>cases e
  | i::is,vs,ps,σ,ρ,ρ',r,rp,e,hl=>by
    cases rp with
    | nil=>cases e
    | cons r1 t1 =>
      have q:=tD (is:=is) (r.set i (Vr.of r1) (hl i (Wf))) t1 (show jy is _ _=some ρ' from e) fun j hj=>by rw[YJ];exact hl j (V6 _ hj)
      exact q
theorem tE{ts:List Expr}{is:List Nat}{k:Nat}{pos pos':Pos}(hc:X.calm=true)(he:SE X cl e f)(hg:w9 X ts is)(u4:∀ i∈is,i<X.N.length)(hn:(assignEach ts X.env).length=is.length:=by rfl)
    (dE:(assignEach ts X.env).findIdx? (·.1)=none:=by rfl) (lP:swapsWithSole [.Tuple ts k pos'] e pos.line X.env=pure false:=by rfl) (hw:swappedStores [.Tuple ts k pos'] e X.env=pure none:=by rfl)
    (h1:(assignEach [.Tuple ts k pos'] X.env).map (·.2)=[assign (.Tuple ts k pos') X.env]:=by rfl):ZS X cl (.Assign [.Tuple ts k pos'] e pos) (j8 is f):=by
  refine⟨fun pins s σ as Hf H ρ S I r hs=>?_⟩;unfold j8 at hs ⊢;refine wpAny_Assign_stores (he.lR I r (.refl _ _) hs fun p v u s1 bC aD H1 S1 e1 I1 rv g1 r1 rp=>?_) lP hw;rw[e1]at hs ⊢;rw[h1];cases p<;>first
    | exact absurd rfl hs
    | skip
  rename_i l;have qX:=rp.rp rfl
  cases qX with
  | tup hq rr =>
    cases rv;obtain⟨its,w,pl,z⟩:=I1.tuple (aO.dX r1.bT.sub hq);have cu:(match jy is l ρ with | some ρ'=>ZR.next ρ' S1 | none=>.stuck)≠.stuck:=hs
    cases E4:jy is l ρ with
    | none=>rw[E4]at cu;exact absurd rfl cu
    | some ρ' =>
      have hlen:=qP E4;refine assign_Tuple_tuple (I1.ok.hd hc) pl (by rw[hn,hlen,Wl,<- w.length,rr.length]) dE fun h' hx=>?_;have I2:Inv X pins σ H1 { s1 with heap:=h' }:=I1.kept (t':=s1.toks) fun b o e=>hx b o (Wz (V8 e)) e
      refine ft (hg pins _ σ H1 _ _ _ I2 (by simpa using w) (by rw[rr.length,hlen])) fun _ s3 I3=>?_;show xr X cl pins as Hf (match jy is l ρ with | some ρ'=>ZR.next ρ' S1 | none=>.stuck) .next s3
      rw[E4];exact⟨ρ',S1,_,bC,aD,H1,rfl,I3,tD r1 rr E4 (fun i hi=>by rw[I1.len];exact u4 i hi),g1⟩
end
def spS(K:PySem.W.Frag)(cl:Nat->Addr)(n:Nat)(G:List PV->aI->RS PV):Sp:=fun vs H Q E=>vs.length=n/\∃ as Hf S ps,bI K cl as Hf H S/\eV K cl as Hf vs ps/\G ps S≠.stuck /\
  (∀ p v S' aJ ao H',G ps S=.ok p S'->bE as Hf aJ ao->bI K cl aJ ao H' S'->Vr K cl aJ ao v p->Q v H') /\
  ∀ c S' aJ ao H',G ps S=.exc c S'->bE as Hf aJ ao->bI K cl aJ ao H' S'->E (.ref (cl c)) none H'
section
variable {X:Cx}{cl:Nat->Addr}{pins:List (Addr×Obj)}{s:Shared}{σ:SV}{as bC:List Addr}{Hf H aD H1:Hp}{ρ:ay}{S:aI}{α:Type}
theorem E5{r:RS PV} (I:Inv X pins σ H s)
    (h:hZ cl X.prog X.w X.stack H s (fun u o H'=>∃ c S' aJ ao,r=.exc c S'/\bE as Hf aJ ao/\bI X.K cl aJ ao H' S'/\u=.ref (cl c)) e s') (inj:∀ c d,cl c=cl d->c=d) (hex:∀ b,b ∉ X.ex):fA X cl pins σ as Hf r e s':=by
  obtain⟨a,c,H',B,a0,rfl,ho,hg,un,bh,fl,mT,nd,c',S',aJ,ao,e1,g,st,e2⟩:=h;have ec:c'=c:=inj _ _ (by injection e2 with e2;exact e2.symm)
  subst ec;refine⟨c',S',aJ,ao,H',a,e1,rfl,I.t7 ho un bh hg (fun b z=>absurd z (by simp)),g,st,B,a0,?_,nd,.inr (.inr fl)⟩;intro b o hb hc hn;refine mT b o hb ?_ hn;rcases hc with hc | ⟨p,hp,e⟩ | ⟨o₀,hc⟩ | ⟨x,hc⟩
  . exact .inl hc
  . right;rw[<- e];exact⟨_,(I.pin p hp).1⟩
  . right;by_cases hx:b∈X.ex
    . exact absurd hx (hex b)
    . exact I.base.there b o₀ hc hx
  . right;obtain⟨v,o',q,_⟩:=I.cell x b hc;exact⟨o',q⟩
theorem zI{G:List PV->aI->RS PV}{kZ:List Str}{k n:Nat}{qs:List PV}(hf:d9 X.prog X.w X.K X.mg X.base (hZ cl X.prog X.w) k f fd kZ (spS X.K cl n G))(hb:Binds X.K fd kZ [])(hr:bH k X.A)
    (inj:∀ c d,cl c=cl d->c=d) (hex:∀ b,b ∉ X.ex) (I:Inv X pins σ H s) (st:bI X.K cl as Hf H S) (rv:Vals vs us) (aT:eV X.K cl as Hf vs qs) (hn:kZ.length=n) (hq:qs.length=n) (hs:G qs S≠.stuck) :
    wpAny (model X.prog X.w) X.A (call (.ref f) us) (mY X cl pins σ as Hf (G qs S)) (fA X cl pins σ as Hf (G qs S)) s:=by
  have hv:vs.length=n:=by rw[aT.length,hq]
  have gy:spS X.K cl n G vs H (fun v H'=>∃ p S' aJ ao,G qs S=.ok p S'/\bE as Hf aJ ao/\bI X.K cl aJ ao H' S'/\Vr X.K cl aJ ao v p) (fun u o H'=>∃ c S' aJ ao,G qs S=.exc c S'/\bE as Hf aJ ao/\bI X.K cl aJ ao H' S'/\u=.ref (cl c)) :=
    ⟨hv,as,Hf,S,qs,st,aT,hs,fun p v S' aJ ao H' a b c d=>⟨p,S',aJ,ao,a,b,c,d⟩,fun c S' aJ ao H' a b d=>⟨c,S',aJ,ao,a,b,d,rfl⟩⟩
  have lQ:(us ++[]).length=kZ.length:=by rw[Wj,<- rv.length,hv,hn]
  have gz:=hb s us I.dR lQ;rw[Wj]at gz;refine XS (XC (hf.run X.A X.stack s H ⟨us,[]⟩ us vs _ _ hr I.pO gz rv gy) fun r s' dz=>?_);cases r with
  | error e=>exact E5 I dz inj hex
  | ok fl =>
    cases fl with
    | ret u =>
      obtain⟨v,H',I',d0,p,S',aJ,ao,e2,g,gx,rp⟩:=I.after dz;exact⟨p,v,S',aJ,ao,H',e2,I',d0,g,gx,rp⟩
    | next=>exact False.elim dz
    | brk=>exact False.elim dz
    | cont=>exact False.elim dz
theorem L9{F:List PV->R PV}{kZ:List Str}{k n:Nat}{qs:List PV}(hf:d9 X.prog X.w X.K X.mg X.base (hZ cl X.prog X.w) k f fd kZ (mS X.K cl n F))(hb:Binds X.K fd kZ [])(hr:bH k X.A)(dE:X.stack=X.env::X.outer)
    (inj:∀ c d,cl c=cl d->c=d) (hex:∀ b,b ∉ X.ex) (I:Inv X pins σ H s) (sm:aO Hf H) (rv:Vals vs us) (aT:bB X.K cl Hf vs qs) (hn:kZ.length=n) (hq:qs.length=n) (hs:F qs≠.stuck) :
    wpAny (model X.prog X.w) X.A (call (.ref f) us) (eU X cl pins σ Hf H (F qs)) (bW X cl pins σ Hf H (F qs)) s:=by
  have hv:vs.length=n:=by rw[aT.length,hq]
  have gy:mS X.K cl n F vs H (fun v H'=>∃ p ao,F qs=.ok p/\Ext Hf H ao H'/\Rp X.K cl ao v p) (fun u o H'=>∃ c ao,F qs=.exc c/\Ext Hf H ao H'/\u=.ref (cl c)) :=
    ⟨hv,Hf,qs,sm,aT,hs,fun p v ao H' a b c=>⟨p,ao,a,b,c⟩,fun c ao H' a b=>⟨c,ao,a,b,rfl⟩⟩
  have lQ:(us ++[]).length=kZ.length:=by rw[Wj,<- rv.length,hv,hn]
  have gz:=hb s us I.dR lQ;rw[Wj]at gz;refine XS (XC (hf.run X.A X.stack s H ⟨us,[]⟩ us vs _ _ hr I.pO gz rv gy) fun r s' dz=>?_);cases r with
  | error e=>exact qM I sm dE dz inj hex
  | ok fl =>
    cases fl with
    | ret u =>
      obtain⟨v,H',I',d0,p,ao,e2,ex,rp⟩:=I.after dz;exact⟨p,v,ao,H',e2,I',d0,ex,rp⟩
    | next=>exact False.elim dz
    | brk=>exact False.elim dz
    | cont=>exact False.elim dz
noncomputable def pK(F:List PV->R PV)(ps:List PV)(S:aI):RS PV:=if ps.any d8 then .stuck else fz S (F ps)
noncomputable def jF(F:List PV->R PV)(a:GA):GE:=fun ρ S=>(a ρ S).bind (pK F)
noncomputable def gj(G:List PV->aI->RS PV)(a:GA):GE:=fun ρ S=>(a ρ S).bind G
theorem DH{e:Expr}{es:List Expr}{p pos:Pos}{k n:Nat}{F:List PV->R PV}(hF:Fn X cl k x n F)(hr:bH k X.A)(hg:Gl X x)(dE:X.stack=X.env::X.outer)(inj:∀ c d,cl c=cl d->c=d)(hex:∀ b,b ∉ X.ex)
    (ha:SA X cl (e::es) g) (hl:(e::es).length=n) (d4:(x ==("__debug__" : Str))=false:=by decide) (he:starEach (e::es) X.env=(false,eval e X.env)::starEach es X.env:=by rfl) (dD:(backTo pos (starEach es X.env)).any (·.1)=false:=by rfl) :
    SE X cl (.Call (.Name x p) (e::es) [] pos) (jF F g):=by
  obtain⟨f,fd,ps,hm,hk,hn,hf,hb⟩:=hF.ex;refine⟨fun pins s σ as Hf H ρ S I r hs=>?_⟩;unfold jF at hs ⊢;refine WJ (fj I hg hm ?_ d4);refine Xd (h₀:=X.base) I.ok.mod.mM hk (ha.run pos I r (.refl _ _) hs fun qs vs us s1 bC aD H1 S1 hq e1 I1 rv g1 r1 aT=>⟨I1.dR,?_⟩) he dD;rw[e1]at hs ⊢;unfold pK at hs ⊢;split at hs
  . exact absurd rfl hs
  . next ho =>
    rw[VQ ho];exact VN (L9 hf hb hr dE inj hex I1 r1.bT.sub rv (aT.aT (by simpa using ho)) hn (by rw[hq,hl]) (lV hs)) (fun _ _ q=>(uj r1.bT q).from g1) fun _ _ q=>(uk r1.bT q).from g1
noncomputable def DI(f:FE):GE:=fun ρ S=>match f (hide ρ)with
  | .ok (.lst l)=>.ok (aR S.length) (S ++[.ls l])
  | .exc c=>.exc c S
  | _=>.stuck
noncomputable def isObj(c:Nat)(m:Str)(p:PV)(S:aI):Bool:=match iK p with
  | some i=>(match S[i]? with
    | some (.obj d fs)=>d == c&&(fs.lookup m).isNone
    | _=>false)
  | none=>false
theorem qf(h:isObj c m p S=true):∃ i fs,iK p=some i/\S[i]?=some (.obj c fs)/\fs.lookup m=none:=by
  unfold isObj at h;split at h
  . next i e1 =>
    split at h
    . next d fs e2 =>
      rw[VR,Wo]at h;obtain⟨rfl,h2⟩:=h;exact⟨i,fs,e1,e2,by simpa using h2⟩
    . cases h
  . cases h
noncomputable def vz(c:Nat)(m:Str)(G:List PV->aI->RS PV)(a:GA)(ρ:ay)(p:PV)(S:aI):RS PV:=if isObj c m p S then (a ρ S).bind fun ps S2=>G (p::ps) S2 else .stuck
noncomputable def cI(c:Nat)(m:Str)(G:List PV->aI->RS PV)(o:GE)(a:GA):GE:=fun ρ S=>(o ρ S).bind (vz c m G a ρ)
end
section
variable {P:Program}{w:World}{K:PySem.W.Frag}{mg:Str->Option Value}{base:Heap}{cl:Nat->Addr}
structure vA(P:Program)(w:World)(K:PySem.W.Frag)(mg:Str->Option Value)(base:Heap)(cl:Nat->Addr)(k:Nat)(x:Str)(n:Nat)(G:List PV->aI->RS PV):Prop where
  ex:∃(f:Addr)(fd:FuncData)(ps:List Str),mg x=some (.ref f)/\PySem.W.keepIn K (.ref f)=true/\ps.length=n/\d9 P w K mg base (hZ cl P w) k f fd ps (spS K cl n G)/\Binds K fd ps []
structure ky(P:Program)(w:World)(K:PySem.W.Frag)(mg:Str->Option Value)(base:Heap)(cl:Nat->Addr)(k:Nat)(c:Nat)(m:Str)(n:Nat)(G:List PV->aI->RS PV):Prop where
  ex:∃(f:Addr)(fd:FuncData)(ps:List Str),L2.gd K (cl c)/\Meth K (cl c) m f/\ps.length=n+1/\d9 P w K mg base (hZ cl P w) k f fd ps (spS K cl (n+1) G)/\Binds K fd ps []
structure nY(P:Program)(w:World)(K:PySem.W.Frag)(mg:Str->Option Value)(base:Heap)(cl:Nat->Addr)(k:Nat)(c:Nat)(x:Str)(n:Nat)(G:List PV->aI->RS PV)(ds:List PV):Prop where
  ex:∃(f:Addr)(fd:FuncData)(ps:List Str)(sH:List V)(xy:List Value),mg x=some (.ref (cl c))/\Mk K (cl c) f/\ps.length=n+ds.length+1/\d9 P w K mg base (hZ cl P w) k f fd ps (spS K cl (n+ds.length+1) G)/\Binds K fd ps xy/\Vals sH xy/\(∀ Hf,bB K cl Hf sH ds)
end
section
variable {X:Cx}{cl:Nat->Addr}{pins:List (Addr×Obj)}{s:Shared}{σ:SV}{as bC:List Addr}{Hf H aD H1:Hp}{ρ:ay}{S:aI}{α:Type}
theorem DJ{e:Expr}{es:List Expr}{p pos:Pos}{k n:Nat}{G:List PV->aI->RS PV}(hF:vA X.prog X.w X.K X.mg X.base cl k x n G)(hr:bH k X.A)(hg:Gl X x)(inj:∀ c d,cl c=cl d->c=d)(hex:∀ b,b ∉ X.ex)
    (ha:SA X cl (e::es) g) (hl:(e::es).length=n) (d4:(x ==("__debug__" : Str))=false:=by decide) (he:starEach (e::es) X.env=(false,eval e X.env)::starEach es X.env:=by rfl) (dD:(backTo pos (starEach es X.env)).any (·.1)=false:=by rfl) :
    SE X cl (.Call (.Name x p) (e::es) [] pos) (gj G g):=by
  obtain⟨f,fd,ps,hm,hk,hn,hf,hb⟩:=hF.ex;refine⟨fun pins s σ as Hf H ρ S I r hs=>?_⟩;unfold gj at hs ⊢;refine WJ (fj I hg hm ?_ d4);refine Xd (h₀:=X.base) I.ok.mod.mM hk (ha.run pos I r (.refl _ _) hs fun qs vs us s1 bC aD H1 S1 hq e1 I1 rv g1 r1 aT=>⟨I1.dR,?_⟩) he dD;rw[e1]at hs ⊢;exact VN (zI hf hb hr inj hex I1 r1.bT rv aT hn (by rw[hq,hl]) hs) (fun _ _ q=>q.from g1) fun _ _ q=>q.from g1
theorem GU{e:Expr}{es:List Expr}{apos pos:Pos}{k n:Nat}{G:List PV->aI->RS PV} (hF:ky X.prog X.w X.K X.mg X.base cl k c m n G) (hr:bH k X.A) (inj:∀ c d,cl c=cl d->c=d) (hex:∀ b,b ∉ X.ex)
    (ho:SE X cl o fo) (ha:SA X cl (e::es) g) (hl:(e::es).length=n)
    (dE:starEach (e::es) X.env=(false,eval e X.env)::starEach es X.env:=by rfl) (dD:(backTo pos (starEach es X.env)).any (·.1)=false:=by rfl)
    (ht:eval (.Call (.Attribute o m apos) (e::es) [] pos) X.env=(do
      let ov <- eval o X.env
      standAt apos.atName
      let (f,first) <- holding [ov] (getMethod ov m pl)
      callWith pos f first (backTo pos (starEach (e::es) X.env)) (backToKw pos (keywordEach [] X.env))):=by rfl) :
    SE X cl (.Call (.Attribute o m apos) (e::es) [] pos) (cI c m G fo g):=by
  obtain⟨f,fd,ps,hc,hm,hn,hf,hb⟩:=hF.ex;refine⟨fun pins s σ as Hf H ρ S I r hs=>?_⟩;unfold cI at hs ⊢;refine WN (pl:=pl) (ho.run I r (.refl _ _) hs fun q v u s1 bC aD H1 S1 e1 I1 rv g1 r1 rp=>?_) ht;rw[e1]at hs ⊢;unfold vz at hs ⊢;split at hs
  . next hi =>
    rw[VP hi];obtain⟨i,fs,h1,h2,h3⟩:=qf hi;obtain⟨a,m8,rfl⟩:=iY rp h1;obtain rfl:u=Value.ref a:=rv;obtain⟨dx,Nz,k1,k2,k3⟩:=r1.bT.at_ i a _ m8 h2
    refine jW I1 k1 hc hm ((k3.look m).2 h3) ?_;refine Xd (first:=[.ref a]) (h₀:=X.base) I.ok.mod.mM hm.kp (ha.run pos I1 r1 g1 hs fun qs vs us s2 jT bG H2 S2 xk e2 I2 kR g2 r2 aT=>⟨I2.dR,?_⟩) dE dD;rw[e2]at hs ⊢;have lW:=g1.trans g2
    exact VN (zI (us:=.ref a::us) (vs:=.ref a::vs) (qs:=q::qs) hf hb hr inj hex I2 r2.bT (.cons rfl kR) (.cons (rp.keep g2) aT) hn (by rw[VT,xk,hl]) hs) (fun _ _ q=>q.from lW) fun _ _ q=>q.from lW
  . exact absurd rfl hs
theorem DK{apos pos:Pos}{k:Nat}{G:List PV->aI->RS PV} (hF:ky X.prog X.w X.K X.mg X.base cl k c m 0 G) (hr:bH k X.A) (inj:∀ c d,cl c=cl d->c=d) (hex:∀ b,b ∉ X.ex)
    (ho:SE X cl o fo)
    (ht:eval (.Call (.Attribute o m apos) [] [] pos) X.env=(do
      let ov <- eval o X.env
      standAt apos.atName
      let (f,first) <- holding [ov] (getMethod ov m pl)
      callWith pos f first (backTo pos (starEach [] X.env)) (backToKw pos (keywordEach [] X.env))):=by rfl) :
    SE X cl (.Call (.Attribute o m apos) [] [] pos) (cI c m G fo bK):=by
  obtain⟨f,fd,ps,hc,hm,hn,hf,hb⟩:=hF.ex;refine⟨fun pins s σ as Hf H ρ S I r hs=>?_⟩;unfold cI at hs ⊢;refine WN (pl:=pl) (ho.run I r (.refl _ _) hs fun q v u s1 bC aD H1 S1 e1 I1 rv g1 r1 rp=>?_) ht;rw[e1]at hs ⊢;unfold vz at hs ⊢;split at hs
  . next hi =>
    rw[VP hi];obtain⟨i,fs,h1,h2,h3⟩:=qf hi;obtain⟨a,m8,rfl⟩:=iY rp h1;obtain rfl:u=Value.ref a:=rv;obtain⟨dx,Nz,k1,k2,k3⟩:=r1.bT.at_ i a _ m8 h2
    refine jW I1 k1 hc hm ((k3.look m).2 h3) ?_;refine aaS (first:=[.ref a]) I1.dR hm.kp ?_;exact VN (zI (us:=[.ref a]) (vs:=[.ref a]) (qs:=[q]) hf hb hr inj hex I1 r1.bT (.cons rfl .nil) (.cons rp .nil) hn rfl hs) (fun _ _ q=>q.from g1) fun _ _ q=>q.from g1
  . exact absurd rfl hs
noncomputable def BL(c:Nat)(G:List PV->aI->RS PV)(ds:List PV)(ps:List PV)(S:aI):RS PV:=match G (aR S.length::(ps++ds)) (S ++[.obj c []])with
  | .ok .aU S'=>.ok (aR S.length) S'
  | .exc d S'=>.exc d S'
  | _=>.stuck
noncomputable def mD(c:Nat)(G:List PV->aI->RS PV)(ds:List PV)(a:GA):GE:=fun ρ S=>(a ρ S).bind (BL c G ds)
theorem eV.append{K:PySem.W.Frag}:∀{vs ws:List V}{ps qs:List PV},eV K cl as Hf vs ps->eV K cl as Hf ws qs->eV K cl as Hf (vs++ws) (ps++qs)
  | _,_,_,_,.nil,s=>s
  | _,_,_,_,.cons r t,s=>.cons r (eV.append t s)
theorem GV{e:Expr}{es:List Expr}{p pos:Pos}{k n:Nat}{G:List PV->aI->RS PV}{ds:List PV}(hF:nY X.prog X.w X.K X.mg X.base cl k c x n G ds)(hr:bH (k+1) X.A)(hg:Gl X x)(inj:∀ c d,cl c=cl d->c=d)(hex:∀ b,b ∉ X.ex)
    (ha:SA X cl (e::es) g) (hl:(e::es).length=n) (d4:(x ==("__debug__" : Str))=false:=by decide) (he:starEach (e::es) X.env=(false,eval e X.env)::starEach es X.env:=by rfl) (dD:(backTo pos (starEach es X.env)).any (·.1)=false:=by rfl) :
    SE X cl (.Call (.Name x p) (e::es) [] pos) (mD c G ds g):=by
  obtain⟨f,fd,ps,sH,xy,hm,M,hn,hf,hb,hd,RW⟩:=hF.ex;refine⟨fun pins s σ as Hf H ρ S I r hs=>?_⟩;unfold mD at hs ⊢;refine WJ (fj I hg hm ?_ d4);refine Xd (h₀:=X.base) I.ok.mod.mM M.kp (ha.run pos I r (.refl _ _) hs fun qs vs us s1 bC aD H1 S1 hq e1 I1 rv g1 r1 aT=>⟨I1.dR,?_⟩) he dD;rw[e1]at hs ⊢;unfold BL at hs ⊢;generalize hR:G (aR S1.length::(qs++ds)) (S1 ++[.obj c []])=R' at hs ⊢;have I2:=Inv.made (C:=cl c) I1
  have n1:H1 s1.heap.objs.size=none:=I1.bh.fresh (VU _);have n2:H1 (s1.heap.objs.size+1)=none:=I1.bh.fresh (Nat.le_succ _)
  have JV:=r1.bT.more (o:=.own (s1.heap.objs.size+1)) n1;have n3:upd H1 s1.heap.objs.size (.own (s1.heap.objs.size+1)) (s1.heap.objs.size+1)=none:=by rw[a7 (Zg (XW _))];exact n2
  have Aq:aD (s1.heap.objs.size+1)=none:=r1.bT.sub.free n2;have gi:=JV.new (o:=.ins (cl c) s1.heap.objs.size []) (c:=.obj c []) n3 ⟨_,_,bp,Aq,.nil⟩
  have g2:bE bC aD (bC ++[s1.heap.objs.size+1]) aD:=⟨⟨_,rfl⟩,aO.refl _⟩;have hx:Vr X.K cl (bC ++[s1.heap.objs.size+1]) aD (.ref (s1.heap.objs.size+1)) (aR S1.length):=r1.bT.JO
  have JZ:eV X.K cl (bC ++[s1.heap.objs.size+1]) aD (.ref (s1.heap.objs.size+1)::(vs++sH)) (aR S1.length::(qs++ds)):=.cons hx ((aT.keep g2).append (.of (RW aD)));have kR:Vals (V.ref (s1.heap.objs.size+1)::(vs++sH)) (Value.ref (s1.heap.objs.size+1)::(us++xy)):=.cons rfl (rv.append hd)
  have RX:(aR S1.length::(qs++ds)).length=n+ds.length+1:=by rw[VT,VV,hq,hl]
  have hv:(V.ref (s1.heap.objs.size+1)::(vs++sH)).length=n+ds.length+1:=by rw[JZ.length,RX]
  have lQ:(Value.ref (s1.heap.objs.size+1)::us++xy).length=ps.length:=by
    have e:=kR.length;rw[hv]at e;rw[hn];exact e.symm
  have ns:R'≠.stuck:=fun z=>hs (by rw[z]);have gy:spS X.K cl (n+ds.length+1) G (.ref (s1.heap.objs.size+1)::(vs++sH)) (upd (upd H1 s1.heap.objs.size (.own (s1.heap.objs.size+1))) (s1.heap.objs.size+1) (.ins (cl c) s1.heap.objs.size []))
      (fun v H'=>∃ p S' aJ ao,R'=.ok p S'/\bE (bC ++[s1.heap.objs.size+1]) aD aJ ao/\bI X.K cl aJ ao H' S'/\Vr X.K cl aJ ao v p)
      (fun u o H'=>∃ c' S' aJ ao,(match R' with | .ok .aU S'=>RS.ok (aR S1.length) S' | .exc d S'=>.exc d S' | _=>.stuck)=.exc c' S'/\bE (bC ++[s1.heap.objs.size+1]) aD aJ ao/\bI X.K cl aJ ao H' S'/\u=.ref (cl c')) :=
    ⟨hv,_,aD,_,_,gi,JZ,(by rw[hR];exact ns),fun p v S' aJ ao H' a b c d=>⟨p,S',aJ,ao,by rw[<- hR];exact a,b,c,d⟩,fun c S' aJ ao H' a b d=>⟨c,S',aJ,ao,by rw[hR]at a;rw[a],b,d,rfl⟩⟩
  refine XS (C5 (f:=f) I1.dR M.makes M.init (Wo.mp M.fn) (XC (hf.run _ X.stack _ _ ⟨Value.ref (s1.heap.objs.size+1)::us,[]⟩ (Value.ref (s1.heap.objs.size+1)::(us++xy)) _ _ _ (hr.make (cl c) us [])
    (I2.pO.make (cl c) us []) (hb _ (Value.ref (s1.heap.objs.size+1)::us) I2.dR lQ) kR gy) fun rr s' dz=>?_))
  cases rr with
  | error e=>exact(E5 I2 dz inj hex).from (g1.trans g2)
  | ok fl =>
    cases fl with
    | ret u =>
      obtain⟨v,H',I3,d0,p,S',aJ,ao,e2,g3,nL,rp⟩:=I2.after dz;subst e2;cases p<;>first
        | exact absurd rfl hs
        | skip
      have qX:=rp.rp rfl;cases qX;refine⟨d0,?_⟩;exact⟨aR S1.length,V.ref (s1.heap.objs.size+1),S',aJ,ao,H',rfl,I3,rfl,(g1.trans g2).trans g3,nL,hx.keep g3⟩
    | next=>exact False.elim dz
    | brk=>exact False.elim dz
    | cont=>exact False.elim dz
end
noncomputable def cG(n:Nat)(b:GS)(vs:List PV)(S:aI):RS PV:=match b (start n vs) S with
  | .next _ S'=>.ok .aU S'
  | .ret v S'=>.ok v S'
  | .exc c _ S'=>.exc c S'
  | _=>.stuck
theorem zJ{K:PySem.W.Frag}{cl:Nat->Addr}{as:List Addr}{Hf H:Hp}{S:aI}{n:Nat}{N:List Str}{vs:List V}{ps:List PV}(hn:N.length=n)(st:bI K cl as Hf H S)(r:eV K cl as Hf vs ps):cj K cl as Hf H (L2.start N vs) (Mi.start n ps) S:=by
  have hl:=r.length;refine⟨st,fun i p h=>?_⟩;have e:ps[i]?=some p:=by
    unfold Mi.start at h;by_cases hi:i<ps.length
    . rw[Wb (by simpa using hi),Wt]at h;cases e:ps[i]? with
      | none=>rw[e]at h;cases h
      | some q=>rw[e]at h;cases h;rfl
    . rw[Wm (by simpa using hi),Ys]at h;split at h<;>cases h
  obtain⟨v,h1,h2⟩:=r.get e;refine⟨v,?_,h2⟩;unfold L2.start;have hi:i<vs.length:=(VS.mp h1).1
  rw[Wb (by simpa using hi),Wt,h1];rfl
section
variable {P:Program}{w:World}{K:PySem.W.Frag}{mg:Str->Option Value}{base:Heap}{cl:Nat->Addr}
theorem gV{x qual:Str}{st:Stmt}{f:Addr}{N ps:List Str}{k n:Nat}{b:GS}{dV kV doc pm aK ct oc:Value}{an od:Option Addr}{eQ:Array (Option Value)}
    (lk:K.lookup f=some ⟨oc,od,.func (PySem.W.fnOf x qual (b9 st) (ba st) (az st) dV kV doc pm an aK ct),eQ⟩) (cU:PySem.W.codeIn K aK qual=true) (S:eo N ps (az st)) (hn:ps.length=n)
    (dA:∀(aK:Value)(A:Around)(outer:List Env)(s:Shared)(H:Hp)(E:XK),bH k (A.deeper (envOfC qual (az st) s.heap.objs.size f aK)) ->
      iL (aV P w K mg base cl N qual (az st) f aK A outer s H E) cl (ba st) b):d9 P w K mg base (hZ cl P w) (k+1) f (PySem.W.fnOf x qual (b9 st) (ba st) (az st) dV kV doc pm an aK ct) ps (spS K cl n (cG N.length b)):=by
  refine yz lk cU S (fun vs H Q E h=>by rw[h.1,hn]) fun A outer s H vs Q E hr gy=>?_;obtain⟨hl,as,Hf,S0,qs,Bb,aT,hs,bh,hex⟩:=gy;have hb:=dA aK A outer s H E hr
  have cu:b (Mi.start N.length qs) S0≠.stuck:=fun z=>hs (by unfold cG;rw[z]);refine⟨fun D σ H1=>σ=L2.start N vs/\H1=H/\D={ nx:=fun _ H'=>Q .aU H',rt:=Q },fun pins s1 σ H1 D I h=>?_,rfl,rfl,rfl⟩;obtain⟨rfl,rfl,rfl⟩:=h;refine VN (hb.go pins s1 _ as Hf H1 _ S0 I (zJ rfl Bb aT) cu) (fun fl s2 q=>?_) fun u s2 q=>?_
  . cases fl with
    | next =>
      obtain⟨ρ',S',σ',aJ,ao,H',e1,I',r',g⟩:=q;exact⟨σ',H',I',bh .aU .aU S' aJ ao H' (by unfold cG;rw[e1]) g r'.bT (Vr.of .aU)⟩
    | ret u =>
      obtain⟨p,v,S',σ',aJ,ao,H',e1,I',gx,g,rv,rp⟩:=q;exact⟨v,σ',H',I',rv,bh p v S' aJ ao H' (by unfold cG;rw[e1]) g gx rp⟩
    | brk =>
      obtain⟨ρ',S',σ',aJ,ao,H',e1,I',r',g⟩:=q;exact absurd (by unfold cG;rw[e1]) hs
    | cont =>
      obtain⟨ρ',S',σ',aJ,ao,H',e1,I',r',g⟩:=q;exact absurd (by unfold cG;rw[e1]) hs
  . obtain⟨c,ρ',S',σ',aJ,ao,H',e,e1,rfl,I',r',g,x⟩:=q;exact nO I' x (hex c S' aJ ao H' (by unfold cG;rw[e1]) g r'.bT)
theorem bc.RY{x:Str}{st:Stmt}{f:Addr}{fd:FuncData}{N ps:List Str}{k n:Nat}{b:GS}(D:bc K mg x st f fd)(S:eo N ps (az st))(hn:ps.length=n)
    (hb:∀(kV doc pm:Value)(an:Option Addr)(aK ct:Value)(us:List Value),us.length=ps.length->bindArgs (PySem.W.fnOf x x (b9 st) (ba st) (az st) .none kV doc pm an aK ct) ⟨us,[]⟩=pure (ps.zip us))
    (dA:∀(aK:Value)(A:Around)(outer:List Env)(s:Shared)(H:Hp)(E:XK),bH k (A.deeper (envOfC x (az st) s.heap.objs.size f aK)) ->
      iL (aV P w K mg base cl N x (az st) f aK A outer s H E) cl (ba st) b):vA P w K mg base cl (k+1) x n (cG N.length b):=by
  obtain⟨oc,od,kV,doc,pm,an,aK,ct,eQ,rfl,lk,cU⟩:=D.fn.ex;exact⟨⟨f,_,ps,D.mg,D.fn.kp,hn,gV lk cU S hn dA,D.fn.binds hb⟩⟩
theorem MethAt.RZ{c:Nat}{m qual:Str}{st:Stmt}{f:Addr}{fd:FuncData}{N ps:List Str}{k n:Nat}{b:GS}(D:MethAt K cl c m qual st f fd)(hc:L2.gd K (cl c))(S:eo N ps (az st))(hn:ps.length=n+1)
    (hb:∀(kV doc pm:Value)(an:Option Addr)(aK ct:Value)(us:List Value),us.length=ps.length->bindArgs (PySem.W.fnOf m qual (b9 st) (ba st) (az st) .none kV doc pm an aK ct) ⟨us,[]⟩=pure (ps.zip us))
    (dA:∀(aK:Value)(A:Around)(outer:List Env)(s:Shared)(H:Hp)(E:XK),bH k (A.deeper (envOfC qual (az st) s.heap.objs.size f aK)) ->
      iL (aV P w K mg base cl N qual (az st) f aK A outer s H E) cl (ba st) b):ky P w K mg base cl (k+1) c m n (cG N.length b):=by
  obtain⟨oc,od,kV,doc,pm,an,aK,ct,eQ,rfl,lk,cU⟩:=D.fn.ex;exact⟨⟨f,_,ps,hc,D.at_,hn,gV lk cU S hn dA,D.fn.binds hb⟩⟩
structure qg(K:PySem.W.Frag)(mg:Str->Option Value)(cl:Nat->Addr)(c:Nat)(x:Str):Prop where
  mg:mg x=some (.ref (cl c))
  makes:PySem.W.makesIn K (cl c)=true
  kp:PySem.W.keepIn K (.ref (cl c))=true
  cls:L2.gd K (cl c)
noncomputable def E6(K:PySem.W.Frag)(x:Str):Bool :=
  qQ K x&&PySem.W.makesIn K (ck K x)&&PySem.W.keepIn K (.ref (ck K x)) &&
  PySem.W.plainGet K (ck K x) Str.empty&&PySem.W.hasDictIn K (ck K x)&&PySem.W.plainOver K (ck K x)&&PySem.W.findIn K (.ref (ck K x)) "__setattr__" == some (some (.builtin "object.__setattr__"))
theorem obj_of{h:Heap}{all:List (Nat×Str)}{c:Nat}{x:Str}(X:K.In h)(G:h.Ns mainGlobals mg)(hn:(all.map (·.1)).Nodup)(hx:(c,x)∈all)(o:E6 K x=true):qg K mg (g6 K all) c x:=by
  have ec:=dM (K:=K) hn hx;unfold E6 at o;simp only[VR,Wo]at o;obtain⟨⟨⟨⟨⟨⟨o1,o2⟩,o3⟩,o4⟩,o5⟩,o6⟩,o7⟩:=o;exact⟨by rw[ec];exact Xm X G (pZ o1),by rw[ec];exact o2,by rw[ec];exact o3,by rw[ec];exact⟨o4,o5,o6,o7⟩⟩
theorem noattr_of{all:List (Nat×Str)}{c:Nat}{x f:Str}(hn:(all.map (·.1)).Nodup)(hx:(c,x)∈all)(o:PySem.W.findIn K (.ref (ck K x)) f=some none):fN K (g6 K all c) f:=by
  show PySem.W.findIn K (.ref (g6 K all c)) f=some none;rw[dM hn hx];exact o
structure MethAtD(K:PySem.W.Frag)(cl:Nat->Addr)(c:Nat)(m qual:Str)(st:Stmt)(f:Addr)(fd:FuncData)(y:Str):Prop where
  fn:Jp K m qual st f fd y
  at_:Meth K (cl c) m f
theorem meth_mkD{all:List (Nat×Str)}{c:Nat}{x m qual:Str}{st:Stmt}{C f:Addr}{oc:Value}{od an:Option Addr}{eQ:Array (Option Value)}{kV doc pm aK ct:Value}{T:Addr}{Jq:Value}{Jr:Option Addr}{Dx:Array (Option Value)}{n:Nat}{t:Tok}{y:Str}(hn:(all.map (·.1)).Nodup)(hx:(c,x)∈all)(a:PySem.W.nsIn K mainGlobals x=some (some (.ref C)))
    (b:PySem.W.findIn K (.ref C) m=some (some (.ref f))) (i:PySem.W.isFn K (.ref f)=true) (l:K.lookup f=some ⟨oc,od,.func (PySem.W.fnOf m qual (b9 st) (ba st) (az st) (.ref T) kV doc pm an aK ct),eQ⟩) (d:PySem.W.codeIn K aK qual=true) (k:PySem.W.keepIn K (.ref f)=true)
    (e:K.lookup T=some ⟨Jq,Jr,.seq #[.str y t] n,Dx⟩) :
    ∃ f fd,MethAtD K (g6 K all) c m qual st f fd y:=⟨f,_,⟨⟨oc,od,kV,doc,pm,an,aK,ct,eQ,T,_,n,t,rfl,l,d,e,rfl⟩,k⟩,by rw[dM hn hx,xl a];exact⟨b,i,k⟩⟩
theorem MethAt.J0{c:Nat}{x qual:Str}{st:Stmt}{f:Addr}{fd:FuncData}{N ps:List Str}{k n:Nat}{b:GS} (D:MethAt K cl c "__init__" qual st f fd) (C:qg K mg cl c x) (S:eo N ps (az st)) (hn:ps.length=n+1)
    (hb:∀(kV doc pm:Value)(an:Option Addr)(aK ct:Value)(us:List Value),us.length=ps.length->bindArgs (PySem.W.fnOf "__init__" qual (b9 st) (ba st) (az st) .none kV doc pm an aK ct) ⟨us,[]⟩=pure (ps.zip us))
    (dA:∀(aK:Value)(A:Around)(outer:List Env)(s:Shared)(H:Hp)(E:XK),bH k (A.deeper (envOfC qual (az st) s.heap.objs.size f aK)) ->
      iL (aV P w K mg base cl N qual (az st) f aK A outer s H E) cl (ba st) b):nY P w K mg base cl (k+1) c x n (cG N.length b) []:=by
  obtain⟨oc,od,kV,doc,pm,an,aK,ct,eQ,rfl,lk,cU⟩:=D.fn.ex;exact⟨⟨f,_,ps,[],[],C.mg,⟨C.makes,D.at_.at_,D.at_.fn,C.kp⟩,hn,gV lk cU S hn dA,D.fn.binds hb,.nil,fun _=>.nil⟩⟩
theorem MethAtD.J0{c:Nat}{x qual y:Str}{st:Stmt}{f:Addr}{fd:FuncData}{N ps:List Str}{k n:Nat}{b:GS} (D:MethAtD K cl c "__init__" qual st f fd y) (C:qg K mg cl c x) (S:eo N ps (az st)) (hn:ps.length=n+2)
    (hb:∀(T:Addr)(t:Tok)(kV doc pm:Value)(an:Option Addr)(aK ct:Value)(us:List Value),us.length=ps.length->∃ k,bindArgs (PySem.W.fnOf "__init__" qual (b9 st) (ba st) (az st) (.ref T) kV doc pm an aK ct) ⟨us,[]⟩=seqItems? (.ref T) >>= k/\k (some #[.str y t])=pure (ps.zip us))
    (vf:∀(T:Addr)(t:Tok)(kV doc pm:Value)(an:Option Addr)(aK ct:Value)(us:List Value),us.length+1=ps.length->∃ k,bindArgs (PySem.W.fnOf "__init__" qual (b9 st) (ba st) (az st) (.ref T) kV doc pm an aK ct) ⟨us,[]⟩=seqItems? (.ref T) >>= k/\k (some #[.str y t])=pure (ps.zip (us ++[.str y t])))
    (dA:∀(aK:Value)(A:Around)(outer:List Env)(s:Shared)(H:Hp)(E:XK),bH k (A.deeper (envOfC qual (az st) s.heap.objs.size f aK)) ->
      iL (aV P w K mg base cl N qual (az st) f aK A outer s H E) cl (ba st) b):nY P w K mg base cl (k+1) c x (n+1) (cG N.length b) []/\nY P w K mg base cl (k+1) c x n (cG N.length b) [.str y]:=by
  obtain⟨oc,od,kV,doc,pm,an,aK,ct,eQ,T,o,m,t,rfl,lk,cU,lt,dt⟩:=D.fn.ex;have M:Mk K (cl c) f:=⟨C.makes,D.at_.at_,D.at_.fn,C.kp⟩
  refine⟨⟨⟨f,_,ps,[],[],C.mg,M,hn,gV lk cU S hn dA,fun s us X hl=>?_,.nil,fun _=>.nil⟩⟩,⟨⟨f,_,ps,[.str y],[.str y t],C.mg,M,hn,gV lk cU S hn dA,fun s us X hl=>?_,.cons ⟨t,rfl⟩ .nil,fun _=>.cons (.str y) .nil⟩⟩⟩
  . rw[Wj]at hl ⊢;obtain⟨k,e1,e2⟩:=hb T t kV doc pm an aK ct us hl;exact YH X rfl lt dt e1 e2
  . obtain⟨k,e1,e2⟩:=vf T t kV doc pm an aK ct us (by simpa using hl);exact YH X rfl lt dt e1 e2
end
section
variable {P:Program}{w:World}{K:PySem.W.Frag}{mg:Str->Option Value}{base:Heap}{cl:Nat->Addr}{N:List Str}{qual:Str}{scope:Scope}{f:Addr}{cd:Value}{A:Around}{outer:List Env}{s:Shared}{H:Hp}{E:XK}
theorem BM{X:Cx}(h:X.ex=[]):∀ b,b ∉ X.ex:=fun b z=>by rw[h]at z;cases z
theorem E7{k k' n:Nat}{F:List PV->R PV}{e:Expr}{es:List Expr}{p pos:Pos}
    (h:FG P w K mg base cl k x n F) (hr:bH k' (A.deeper (envOfC qual scope s.heap.objs.size f cd))) (inj:∀ c d,cl c=cl d->c=d) (ha:SA (aV P w K mg base cl N qual scope f cd A outer s H E) cl (e::es) g) (hk:k<=k':=by decide)
    (hl:(e::es).length=n:=by rfl) (hg:Gl (aV P w K mg base cl N qual scope f cd A outer s H E) x:=by rfl) (d4:(x ==("__debug__" : Str))=false:=by decide)
    (he:starEach (e::es) (aV P w K mg base cl N qual scope f cd A outer s H E).env=(false,eval e (aV P w K mg base cl N qual scope f cd A outer s H E).env)::starEach es (aV P w K mg base cl N qual scope f cd A outer s H E).env:=by rfl)
    (dD:(backTo pos (starEach es (aV P w K mg base cl N qual scope f cd A outer s H E).env)).any (·.1)=false:=by rfl) :
    SE (aV P w K mg base cl N qual scope f cd A outer s H E) cl (.Call (.Name x p) (e::es) [] pos) (jF F g) :=
  DH h.fn (hr.mono hk) hg rfl inj (BM rfl) ha hl d4 he dD
theorem tF{k k' n:Nat}{G:List PV->aI->RS PV}{e:Expr}{es:List Expr}{p pos:Pos}
    (h:vA P w K mg base cl k x n G) (hr:bH k' (A.deeper (envOfC qual scope s.heap.objs.size f cd))) (inj:∀ c d,cl c=cl d->c=d) (ha:SA (aV P w K mg base cl N qual scope f cd A outer s H E) cl (e::es) g) (hk:k<=k':=by decide)
    (hl:(e::es).length=n:=by rfl) (hg:Gl (aV P w K mg base cl N qual scope f cd A outer s H E) x:=by rfl) (d4:(x ==("__debug__" : Str))=false:=by decide)
    (he:starEach (e::es) (aV P w K mg base cl N qual scope f cd A outer s H E).env=(false,eval e (aV P w K mg base cl N qual scope f cd A outer s H E).env)::starEach es (aV P w K mg base cl N qual scope f cd A outer s H E).env:=by rfl)
    (dD:(backTo pos (starEach es (aV P w K mg base cl N qual scope f cd A outer s H E).env)).any (·.1)=false:=by rfl) :
    SE (aV P w K mg base cl N qual scope f cd A outer s H E) cl (.Call (.Name x p) (e::es) [] pos) (gj G g) :=
  DJ h (hr.mono hk) hg inj (BM rfl) ha hl d4 he dD
theorem jG{k k' n c:Nat}{G:List PV->aI->RS PV}{o e:Expr}{es:List Expr}{apos pos:Pos}
    (h:ky P w K mg base cl k c m n G) (hr:bH k' (A.deeper (envOfC qual scope s.heap.objs.size f cd))) (inj:∀ c d,cl c=cl d->c=d) (ho:SE (aV P w K mg base cl N qual scope f cd A outer s H E) cl o fo) (ha:SA (aV P w K mg base cl N qual scope f cd A outer s H E) cl (e::es) g) (hk:k<=k':=by decide)
    (hl:(e::es).length=n:=by rfl)
    (he:starEach (e::es) (aV P w K mg base cl N qual scope f cd A outer s H E).env=(false,eval e (aV P w K mg base cl N qual scope f cd A outer s H E).env)::starEach es (aV P w K mg base cl N qual scope f cd A outer s H E).env:=by rfl)
    (dD:(backTo pos (starEach es (aV P w K mg base cl N qual scope f cd A outer s H E).env)).any (·.1)=false:=by rfl)
    (ht:eval (.Call (.Attribute o m apos) (e::es) [] pos) (aV P w K mg base cl N qual scope f cd A outer s H E).env=(do
      let ov <- eval o (aV P w K mg base cl N qual scope f cd A outer s H E).env
      standAt apos.atName
      let (f',first) <- holding [ov] (getMethod ov m pl)
      callWith pos f' first (backTo pos (starEach (e::es) (aV P w K mg base cl N qual scope f cd A outer s H E).env)) (backToKw pos (keywordEach [] (aV P w K mg base cl N qual scope f cd A outer s H E).env))):=by rfl) :
    SE (aV P w K mg base cl N qual scope f cd A outer s H E) cl (.Call (.Attribute o m apos) (e::es) [] pos) (cI c m G fo g) :=
  GU h (hr.mono hk) inj (BM rfl) ho ha hl he dD ht
theorem P5{k k' c:Nat}{G:List PV->aI->RS PV}{apos pos:Pos}
    (h:ky P w K mg base cl k c m 0 G) (hr:bH k' (A.deeper (envOfC qual scope s.heap.objs.size f cd))) (inj:∀ c d,cl c=cl d->c=d) (ho:SE (aV P w K mg base cl N qual scope f cd A outer s H E) cl o fo) (hk:k<=k':=by decide)
    (ht:eval (.Call (.Attribute o m apos) [] [] pos) (aV P w K mg base cl N qual scope f cd A outer s H E).env=(do
      let ov <- eval o (aV P w K mg base cl N qual scope f cd A outer s H E).env
      standAt apos.atName
      let (f',first) <- holding [ov] (getMethod ov m pl)
      callWith pos f' first (backTo pos (starEach [] (aV P w K mg base cl N qual scope f cd A outer s H E).env)) (backToKw pos (keywordEach [] (aV P w K mg base cl N qual scope f cd A outer s H E).env))):=by rfl) :
    SE (aV P w K mg base cl N qual scope f cd A outer s H E) cl (.Call (.Attribute o m apos) [] [] pos) (cI c m G fo bK) :=
  DK h (hr.mono hk) inj (BM rfl) ho ht
theorem J1{k k' n c:Nat}{G:List PV->aI->RS PV}{ds:List PV}{e:Expr}{es:List Expr}{p pos:Pos}
    (h:nY P w K mg base cl k c x n G ds) (hr:bH k' (A.deeper (envOfC qual scope s.heap.objs.size f cd))) (inj:∀ c d,cl c=cl d->c=d) (ha:SA (aV P w K mg base cl N qual scope f cd A outer s H E) cl (e::es) g) (hk:k+1<=k':=by decide)
    (hl:(e::es).length=n:=by rfl) (hg:Gl (aV P w K mg base cl N qual scope f cd A outer s H E) x:=by rfl) (d4:(x ==("__debug__" : Str))=false:=by decide)
    (he:starEach (e::es) (aV P w K mg base cl N qual scope f cd A outer s H E).env=(false,eval e (aV P w K mg base cl N qual scope f cd A outer s H E).env)::starEach es (aV P w K mg base cl N qual scope f cd A outer s H E).env:=by rfl)
    (dD:(backTo pos (starEach es (aV P w K mg base cl N qual scope f cd A outer s H E).env)).any (·.1)=false:=by rfl) :
    SE (aV P w K mg base cl N qual scope f cd A outer s H E) cl (.Call (.Name x p) (e::es) [] pos) (mD c G ds g) :=
  GV h (hr.mono hk) hg inj (BM rfl) ha hl d4 he dD
end
section
variable {X:Cx}{cl:Nat->Addr}
theorem sv(i:Nat){x:Str}{pos:Pos}(hN:X.N[i]?=some x:=by rfl)(hv:kK X.env.scope x:=by first | exact Or.inl rfl | exact Or.inr (Or.inl rfl) | exact Or.inr (Or.inr rfl)) (hd:(x ==("__debug__" : Str))=false:=by decide)
    (cU:(x ==("__classdict__" : Str))=false:=by decide):SE X cl (.Name x pos) (bA i):=JP hN hv hd cU
end
theorem law_ofS{l:PySem.W.OpenLaw}{k:Nat}{XP:(Str->Option Value)->Heap->Prop}{YP:World->Heap->Prop}{d:DefRec}{K:Params->PySem.W.Frag}{x:Str}{G:List PV->aI->RS PV}{names:List (Nat×Str)}
    (hn:l.most=some 63) (R0:d.params.defaults=[]) (hr:bH k callerA)
    (hY:∀(w:World)(h:Heap),YP w h->(K w.params).In h)
    (hF:∀(w:World)(mg:Str->Option Value)(fa:Addr)(h:Heap),(K w.params).In h->h.Ns mainGlobals mg->mg d.name=some (.ref fa) ->
      ∃ fd:FuncData,(∀(s:Shared)(u:Value),BindsTo s fd ⟨[u],[]⟩ [(x,u)]) /\
        ∀ base:Heap,(K w.params).In base->base.Ns mainGlobals mg->d9 l.prog w (K w.params) mg base (hZ (g6 (K w.params) names) l.prog w) k fa fd [x] (spS (K w.params) (g6 (K w.params) names) 1 G))
    (P6:∀ ns:List Int,ns.length<=63->(∀ x∈ns,nb x<=1048576)->∃ S,G [.lst (ns.map PV.int)] []=.ok (.bl true) S) :
    PySem.W.WalkO q loose XP YP l.row.toRowW d [] (fun f vs=>PySem.call f vs):=by
  intro w s₀ s₁ mg mb G' Y fa o pm cd doc dV kV ho hd cU hD hmg hg args vals as yA P7 VE Im M8;obtain rfl:dV=.none:=PySem.W.Dflts.none hD R0;obtain rfl:kV=.none:=PySem.W.Dflts.noKw hD;obtain⟨a,vs,ns,rfl,rfl,P8,hints,hlen⟩:=Il.AE hn yA Im;have KX:=hY w _ Y
  obtain⟨fd,hb,R1⟩:=hF w mg fa _ KX G'.T.g hmg;obtain⟨S1,e⟩:=P6 ns hlen (wG P7);refine PySem.W.enter_call (XC (C6 KX G'.T.g G'.T.b G'.T.builtins G'.T.nolimit hg P8 hints (Wh hlen (by decide)) hr R1 hb (fun H hO hS=>?_) fun H e s' h=>?_) fun r s' hq=>?_)
  . refine⟨rfl,[],H,[],[.lst (ns.map PV.int)],⟨aO.refl _,X8,rfl,fun i a c h=>(by simp at h),fun a h=>(by simp at h)⟩,.cons (Vr.of (.lst hS (bB.ints ns))) .nil,(by rw[e];intro z;cases z),fun p v S' aJ ao H' h _ _ rp=>?_,fun c S' aJ ao H' h _ _=>?_⟩
    . rw[e]at h;cases h;have qX:=rp.rp rfl;cases qX;rfl
    . rw[e]at h;cases h
  . obtain⟨a,c,H',B,a0,_,_,_,_,_,_,_,_,z⟩:=h;exact z
  . obtain⟨rfl,h2,h3,h4⟩:=hq;exact⟨.inl ⟨.bool true,.bool true,[],rfl,fun _=>rfl,.bool true,Il.AF l _,fun _=>⟨List.Pairwise.nil,fun _ hm=>(nomatch hm)⟩⟩,h2,h3,h4⟩
section
variable {P:Program}{w:World}{K:PySem.W.Frag}{mg:Str->Option Value}{base:Heap}{cl:Nat->Addr}
theorem bc.fns{x:Str}{st:Stmt}{f:Addr}{fd:FuncData}{N ps:List Str}{k n:Nat}{b:GS}(D:bc K mg x st f fd)(S:eo N ps (az st))(hn:ps.length=n)
    (dA:∀(aK:Value)(A:Around)(outer:List Env)(s:Shared)(H:Hp)(E:XK),bH k (A.deeper (envOfC x (az st) s.heap.objs.size f aK)) ->
      iL (aV P w K mg base cl N x (az st) f aK A outer s H E) cl (ba st) b):d9 P w K mg base (hZ cl P w) (k+1) f fd ps (spS K cl n (cG N.length b)):=by
  obtain⟨oc,od,kV,doc,pm,an,aK,ct,eQ,rfl,lk,cU⟩:=D.fn.ex;exact gV lk cU S hn dA
noncomputable def BN:GE:=fun _ _=>.stuck
theorem DL:SE X cl e BN:=⟨fun _ _ _ _ _ _ _ _ _ _ h=>absurd rfl h⟩
theorem nQ.alias{k n:Nat}{F:List PV->R PV}(h:nQ P w K mg base cl k x n F z)(e:mg y=mg x):nQ P w K mg base cl k y n F z:=by
  obtain⟨f,fd,ps,d,a,b⟩:=h.ex;exact⟨⟨f,fd,ps,d,e.trans a,b⟩⟩
theorem alias_of{h:Heap}{u:Value}(X:K.In h)(G:h.Ns mainGlobals mg)(a:PySem.W.nsIn K mainGlobals y=some (some u))(b:PySem.W.nsIn K mainGlobals x=some (some u)):mg y=mg x:=(Xm X G a).trans (Xm X G b).symm
end
theorem BO{P:List Value->Prop}(h:∀ a,P [a]):∀ us:List Value,us.length=1->P us
  | [a],_=>h a
theorem ln2{P:List Value->Prop}(h:∀ a b,P [a,b]):∀ us:List Value,us.length=2->P us
  | [a,b],_=>h a b
theorem vB{P:List Value->Prop}(h:∀ a b c,P [a,b,c]):∀ us:List Value,us.length=3->P us
  | [a,b,c],_=>h a b c
theorem xA{P:List Value->Prop}(h:∀ a b c d,P [a,b,c,d]):∀ us:List Value,us.length=4->P us
  | [a,b,c,d],_=>h a b c d
theorem xB{P:List Value->Prop}(h:∀ a b c d e,P [a,b,c,d,e]):∀ us:List Value,us.length=5->P us
  | [a,b,c,d,e],_=>h a b c d e
theorem NA{P:List Value->Prop}(h:∀ a b,P [a,b])(us:List Value)(e:us.length+1=3):P us:=ln2 h us (Nat.succ.inj e)
theorem R3{P:List Value->Prop}(h:∀ a b c d,P [a,b,c,d])(us:List Value)(e:us.length+1=5):P us:=xA h us (Nat.succ.inj e)
section
variable {P:Program}{w:World}{K:PySem.W.Frag}{mg:Str->Option Value}{base:Heap}{cl:Nat->Addr}{x m qual y:Str}{st:Stmt}{N:List Str}{c k n:Nat}
def pI(N:List Str)(n:Nat)(sc:Scope):Prop:=N.Nodup/\(∀ x∈N.take n,sc.names.lookup x=some .local\/sc.names.lookup x=some .cell)/\(∀ y∈sc.names,y.2≠.free)/\(N.take n).length=n
noncomputable instance (N:List Str) (n:Nat) (sc:Scope):Decidable (pI N n sc):=inferInstanceAs (Decidable (_/\_/\_/\_))
theorem tG{sc:Scope}(h:pI N n sc)(a:sc.kind=.function)(b:sc.isCoroutine=false)(c:sc.isGenerator=false):eo N (N.take n) sc:=⟨a,b,c,h.1,by rw[h.2.2.2],h.2.1,h.2.2.1⟩
noncomputable abbrev tH(P:Program)(w:World)(K:PySem.W.Frag)(mg:Str->Option Value)(base:Heap)(cl:Nat->Addr)(N:List Str)(qual:Str)(st:Stmt)(f:Addr)(aK:Value)(A:Around)(outer:List Env)(s:Shared)(H:Hp)(E:XK):Cx:=aV P w K mg base cl N qual (az st) f aK A outer s H E
abbrev tI(k:Nat)(qual:Str)(st:Stmt)(f:Addr)(aK:Value)(A:Around)(s:Shared):Prop:=bH k (A.deeper (envOfC qual (az st) s.heap.objs.size f aK))
abbrev BP(m qual:Str)(st:Stmt)(ps:List Str):Prop:=∀(kV doc pm:Value)(an:Option Addr)(aK ct:Value)(us:List Value),us.length=ps.length->bindArgs (PySem.W.fnOf m qual (b9 st) (ba st) (az st) .none kV doc pm an aK ct) ⟨us,[]⟩=pure (ps.zip us)
abbrev E8(m qual:Str)(st:Stmt)(ps:List Str)(y:Str)(j:Nat)(g:List Value->Tok->List Value):Prop:=∀(T:Addr)(t:Tok)(kV doc pm:Value)(an:Option Addr)(aK ct:Value)(us:List Value),us.length+j=ps.length->∃ k,bindArgs (PySem.W.fnOf m qual (b9 st) (ba st) (az st) (.ref T) kV doc pm an aK ct) ⟨us,[]⟩=seqItems? (.ref T) >>= k/\k (some #[.str y t])=pure (ps.zip (g us t))
theorem cS(E:∃ f fd,bc K mg x st f fd)(h:∀ {f aK A outer s H E},tI k x st f aK A s->N.Nodup->ia (tH P w K mg base cl N x st f aK A outer s H E) cl (ba st) b)
    (hb:BP x x st (N.take n):=by first|exact fun _ _ _ _ _ _=>ln2 fun _ _=>rfl|exact fun _ _ _ _ _ _=>vB fun _ _ _=>rfl|exact fun _ _ _ _ _ _=>BO fun _=>rfl|exact fun _ _ _ _ _ _=>xA fun _ _ _ _=>rfl|exact fun _ _ _ _ _ _=>xB fun _ _ _ _ _=>rfl)
    (S:pI N n (az st):=by decide +kernel) (a:(az st).kind=.function:=by rfl) (a2:(az st).isCoroutine=false:=by rfl) (a3:(az st).isGenerator=false:=by rfl):FG P w K mg base cl (k+1) x n (a9 N.length b):=by
  obtain⟨f,fd,D⟩:=E;exact D.fg (tG S a a2 a3) S.2.2.2 hb fun aK A outer s H E hr=>h hr S.1
theorem DM(E:∃ f fd,bc K mg x st f fd)(h:∀ {f aK A outer s H E},tI k x st f aK A s->N.Nodup->iL (tH P w K mg base cl N x st f aK A outer s H E) cl (ba st) b)
    (hb:BP x x st (N.take n):=by first|exact fun _ _ _ _ _ _=>ln2 fun _ _=>rfl|exact fun _ _ _ _ _ _=>vB fun _ _ _=>rfl|exact fun _ _ _ _ _ _=>BO fun _=>rfl|exact fun _ _ _ _ _ _=>xA fun _ _ _ _=>rfl|exact fun _ _ _ _ _ _=>xB fun _ _ _ _ _=>rfl)
    (S:pI N n (az st):=by decide +kernel) (a:(az st).kind=.function:=by rfl) (a2:(az st).isCoroutine=false:=by rfl) (a3:(az st).isGenerator=false:=by rfl):vA P w K mg base cl (k+1) x n (cG N.length b):=by
  obtain⟨f,fd,D⟩:=E;exact D.RY (tG S a a2 a3) S.2.2.2 hb fun aK A outer s H E hr=>h hr S.1
theorem J2(E:∃ f fd,lS K mg x st f fd y)(hb:E8 x x st (N.take n) y 0 fun us _=>us)(vf:E8 x x st (N.take n) y 1 fun us t=>us ++[.str y t])(h:∀ {f aK A outer s H E},tI k x st f aK A s->N.Nodup->ia (tH P w K mg base cl N x st f aK A outer s H E) cl (ba st) b)
    (S:pI N n (az st):=by decide +kernel) (a:(az st).kind=.function:=by rfl) (a2:(az st).isCoroutine=false:=by rfl) (a3:(az st).isGenerator=false:=by rfl):nQ P w K mg base cl (k+1) x n (a9 N.length b) y:=by
  obtain⟨f,fd,D⟩:=E;exact D.fg (tG S a a2 a3) S.2.2.2 hb vf fun aK A outer s H E hr=>h hr S.1
theorem BQ(E:∃ f fd,MethAt K cl c m qual st f fd)(hc:L2.gd K (cl c))(h:∀ {f aK A outer s H E},tI k qual st f aK A s->N.Nodup->ia (tH P w K mg base cl N qual st f aK A outer s H E) cl (ba st) b)
    (hb:BP m qual st (N.take (n+1)):=by first|exact fun _ _ _ _ _ _=>ln2 fun _ _=>rfl|exact fun _ _ _ _ _ _=>vB fun _ _ _=>rfl|exact fun _ _ _ _ _ _=>BO fun _=>rfl|exact fun _ _ _ _ _ _=>xA fun _ _ _ _=>rfl|exact fun _ _ _ _ _ _=>xB fun _ _ _ _ _=>rfl)
    (S:pI N (n+1) (az st):=by decide +kernel) (a:(az st).kind=.function:=by rfl) (a2:(az st).isCoroutine=false:=by rfl) (a3:(az st).isGenerator=false:=by rfl):MG P w K mg base cl (k+1) c m n (a9 N.length b):=by
  obtain⟨f,fd,D⟩:=E;exact D.Ru hc (tG S a a2 a3) S.2.2.2 hb fun aK A outer s H E hr=>h hr S.1
theorem nZ(E:∃ f fd,MethAt K cl c m qual st f fd)(hc:L2.gd K (cl c))(h:∀ {f aK A outer s H E},tI k qual st f aK A s->N.Nodup->iL (tH P w K mg base cl N qual st f aK A outer s H E) cl (ba st) b)
    (hb:BP m qual st (N.take (n+1)):=by first|exact fun _ _ _ _ _ _=>ln2 fun _ _=>rfl|exact fun _ _ _ _ _ _=>vB fun _ _ _=>rfl|exact fun _ _ _ _ _ _=>BO fun _=>rfl|exact fun _ _ _ _ _ _=>xA fun _ _ _ _=>rfl|exact fun _ _ _ _ _ _=>xB fun _ _ _ _ _=>rfl)
    (S:pI N (n+1) (az st):=by decide +kernel) (a:(az st).kind=.function:=by rfl) (a2:(az st).isCoroutine=false:=by rfl) (a3:(az st).isGenerator=false:=by rfl):ky P w K mg base cl (k+1) c m n (cG N.length b):=by
  obtain⟨f,fd,D⟩:=E;exact D.RZ hc (tG S a a2 a3) S.2.2.2 hb fun aK A outer s H E hr=>h hr S.1
theorem P9 (E:∃ f fd,MethAt K cl c "__init__" qual st f fd) (C:qg K mg cl c x) (h:∀{f aK A outer s H E},tI k qual st f aK A s->N.Nodup->iL (tH P w K mg base cl N qual st f aK A outer s H E) cl (ba st) b)
    (hb:BP "__init__" qual st (N.take (n+1)):=by first|exact fun _ _ _ _ _ _=>ln2 fun _ _=>rfl|exact fun _ _ _ _ _ _=>vB fun _ _ _=>rfl|exact fun _ _ _ _ _ _=>BO fun _=>rfl|exact fun _ _ _ _ _ _=>xA fun _ _ _ _=>rfl|exact fun _ _ _ _ _ _=>xB fun _ _ _ _ _=>rfl)
    (S:pI N (n+1) (az st):=by decide +kernel) (a:(az st).kind=.function:=by rfl) (a2:(az st).isCoroutine=false:=by rfl) (a3:(az st).isGenerator=false:=by rfl):nY P w K mg base cl (k+1) c x n (cG N.length b) []:=by
  obtain⟨f,fd,D⟩:=E;exact D.J0 C (tG S a a2 a3) S.2.2.2 hb fun aK A outer s H E hr=>h hr S.1
theorem Qa (E:∃ f fd,MethAtD K cl c "__init__" qual st f fd y) (C:qg K mg cl c x) (hb:E8 "__init__" qual st (N.take (n+2)) y 0 fun us _=>us) (vf:E8 "__init__" qual st (N.take (n+2)) y 1 fun us t=>us ++[.str y t]) (h:∀{f aK A outer s H E},tI k qual st f aK A s->N.Nodup->iL (tH P w K mg base cl N qual st f aK A outer s H E) cl (ba st) b)
    (S:pI N (n+2) (az st):=by decide +kernel) (a:(az st).kind=.function:=by rfl) (a2:(az st).isCoroutine=false:=by rfl) (a3:(az st).isGenerator=false:=by rfl):nY P w K mg base cl (k+1) c x (n+1) (cG N.length b) []/\nY P w K mg base cl (k+1) c x n (cG N.length b) [.str y]:=by
  obtain⟨f,fd,D⟩:=E;exact D.J0 C (tG S a a2 a3) S.2.2.2 hb vf fun aK A outer s H E hr=>h hr S.1
theorem Qb(E:∃ f fd,bc K mg x st f fd){fa:Addr}(mW:mg x=some (.ref fa)){u:Str}(hN:N.take 1=[u])(gz:∀ (kV doc pm:Value) (an:Option Addr) (aK ct:Value) (s:Shared) (v:Value),BindsTo s (PySem.W.fnOf x x (b9 st) (ba st) (az st) .none kV doc pm an aK ct) ⟨[v],[]⟩ [(u,v)])
    (h:∀ base:Heap,K.In base->∀ f aK A outer s H E,tI k x st f aK A s->N.Nodup->iL (tH P w K mg base cl N x st f aK A outer s H E) cl (ba st) b)
    (S:pI N 1 (az st):=by decide +kernel) (a:(az st).kind=.function:=by rfl) (a2:(az st).isCoroutine=false:=by rfl) (a3:(az st).isGenerator=false:=by rfl) :
    ∃ fd:FuncData,(∀(s:Shared)(v:Value),BindsTo s fd ⟨[v],[]⟩ [(u,v)])/\∀ base:Heap,K.In base->base.Ns mainGlobals mg->d9 P w K mg base (hZ cl P w) (k+1) fa fd [u] (spS K cl 1 (cG N.length b)):=by
  obtain⟨f,fd,D⟩:=E;have e:=mW.symm.trans D.mg
  cases e;refine⟨fd,?_,fun base KX _=>?_⟩
  . obtain⟨oc,od,kV,doc,pm,an,aK,ct,eQ,rfl,lk,cU⟩:=D.fn.ex;exact gz kV doc pm an aK ct
  . have S':=tG S a a2 a3;rw[hN]at S';exact D.fns S' rfl fun aK A outer s H E hr=>h base KX _ aK A outer s H E hr S.1
end
section
variable {K:PySem.W.Frag}{mg:Str->Option Value}{h:Heap}{x:Str}
theorem int_of{i:Int}{t:Tok}(X:K.In h)(G:h.Ns mainGlobals mg)(a:PySem.W.nsIn K mainGlobals x=some (some (.int i t))):∃ t,mg x=some (.int i t):=⟨t,Xm X G a⟩
theorem kc_of{u:Value}(X:K.In h)(G:h.Ns mainGlobals mg)(a:PySem.W.nsIn K mainGlobals x=some (some u))(k:qT K 4 u p=true):∃ u,mg x=some u/\iA K u p:=⟨u,Xm X G a,GJ k⟩
end
noncomputable def putD(k:Str)(v:PV)(l:List (Str×PV)):List (Str×PV):=if (l.lookup k).isSome then l.map (fun p=>if p.1=k then (p.1,v) else p) else l ++[(k,v)]
noncomputable def q5(k:Str)(l:List (Str×PV)):List (Str×PV):=l.filter fun p=>decide (p.1≠k)
theorem lX(k:Str):∀(l:List (Str×V)),i9 (l.map kS) (Sum.inr k:Key)=l.lookup k
  | []=>rfl
  | (x,v)::r=>by
    rw[VZ,Wa];by_cases e:x=k
    . rw[pQ (by show(Sum.inr x:Key)=_;rw[e]),e,WM];rfl
    . rw[pR (by show ¬(Sum.inr x:Key)=_;intro q;cases q;exact e rfl),lX k r]
      have:(k == x)=false:=by rw[Wr];exact fun z=>e z.symm
      rw[this]
theorem J3(k:Str)(l:List (Str×V)):((l.map kS).any fun kv=>decide (kv.1=(Sum.inr k:Key)))=(l.lookup k).isSome:=by
  rw[uL,lX]
section
variable {K:PySem.W.Frag}{cl:Nat->Addr}{as aJ:List Addr}{Hf ao H H':Hp}{S S':aI}
theorem dw.isSome(k:Str){vs:List (Str×V)}{ps:List (Str×PV)}(h:dw K cl as Hf vs ps):(vs.lookup k).isSome=(ps.lookup k).isSome:=by
  have a:=h.look k;cases e:ps.lookup k with
  | none=>rw[a.2 e];rfl
  | some p=>obtain⟨v,q,_⟩:=a.1 p e;rw[q];rfl
theorem dw.app{f:Str}(h:Vr K cl as Hf v p):∀{vs:List (Str×V)}{ps:List (Str×PV)},dw K cl as Hf vs ps->dw K cl as Hf (vs ++[(f,v)]) (ps ++[(f,p)])
  | _,_,.nil=>.cons h .nil
  | _,_,.cons r t=>.cons r (t.app h)
theorem dw.uM{f:Str}(h:Vr K cl as Hf v p):∀{vs:List (Str×V)}{ps:List (Str×PV)},dw K cl as Hf vs ps->dw K cl as Hf (vs.map fun q=>if q.1=f then (q.1,v) else q) (ps.map fun q=>if q.1=f then (q.1,p) else q)
  | _,_,.nil=>.nil
  | _,_,.cons (x:=x) r t=>by
    rw[VZ,VZ];by_cases e:x=f
    . rw[VP e,VP e];exact .cons h (t.uM h)
    . rw[VQ e,VQ e];exact .cons r (t.uM h)
theorem dw.drop{f:Str}:∀{vs:List (Str×V)}{ps:List (Str×PV)},dw K cl as Hf vs ps->dw K cl as Hf (vs.filter fun q=>decide (q.1≠f)) (ps.filter fun q=>decide (q.1≠f))
  | _,_,.nil=>.nil
  | _,_,.cons (x:=x) r t=>by
    rw[Yd,Yd];by_cases e:x=f
    . rw[VQ (by simp[e]),VQ (by simp[e])];exact t.drop
    . rw[VP (by simp[e]),VP (by simp[e])];exact .cons r t.drop
theorem GW{k:Str}(l:List (Str×V)):putK (l.map kS) (Sum.inr k:Key) v=(if (l.lookup k).isSome then l.map (fun p=>if p.1=k then (p.1,v) else p) else l ++[(k,v)]).map kS:=by
  unfold putK;rw[J3];by_cases e:(l.lookup k).isSome=true
  . rw[VP e,VP e,W6,W6];refine W9 fun p _=>?_;show(if (Sum.inr p.1:Key)=Sum.inr k then _ else _)=kS (if p.1=k then _ else _)
    by_cases q:p.1=k
    . rw[VP (by rw[q]),VP q];rfl
    . rw[VQ (fun z=>q (by cases z;rfl)),VQ q]
  . rw[VQ e,VQ e,X4];rfl
theorem DN{k:Str}(l:List (Str×V)):oA (l.map kS) (Sum.inr k:Key)=(l.filter fun p=>decide (p.1≠k)).map kS:=by
  unfold oA;rw[List.filter_map];congr 1;refine List.filter_congr fun p _=>?_;show decide (¬(Sum.inr p.1:Key)=Sum.inr k)=decide (¬ p.1=k)
  exact YB.mpr ⟨fun a b=>a (by rw[b]),fun a b=>a (by cases b;rfl)⟩
theorem dw.putD{vs:List (Str×V)} (h:Vr K cl as Hf v p) (r:dw K cl as Hf vs ps) :
    dw K cl as Hf (if (vs.lookup f).isSome then vs.map (fun p=>if p.1=f then (p.1,v) else p) else vs ++[(f,v)]) (Mi.putD f p ps):=by
  unfold Mi.putD;rw[r.isSome f];by_cases e:(ps.lookup f).isSome=true
  . rw[VP e,VP e];exact r.uM h
  . rw[VQ e,VQ e];exact r.app h
end
section
variable {X:Cx}{cl:Nat->Addr}{pins:List (Addr×Obj)}{σ:SV}{as:List Addr}{Hf H:Hp}{ρ:ay}{S:aI}{s:Shared}
noncomputable def zK:GE:=fun _ S=>.ok (aR S.length) (S ++[.dc []])
theorem GX{pos:Pos}:SE X cl (.Dict [] [] pos) zK:=by
  refine⟨fun pins s σ as Hf H ρ S I r hs=>?_⟩;have hf:H s.heap.objs.size=none:=I.bh.fresh (VU _)
  have I2:=I.laid (a:=s.heap.objs.size) (o:=.dK []) (t':=s.toks) (fun _ _ q=>VW _ q) (VU _) (C8 s.heap I.big);have g2:bE as Hf (as ++[s.heap.objs.size]) Hf:=⟨⟨_,rfl⟩,aO.refl _⟩
  refine wpAny_Dict_empty ⟨aR S.length,.ref s.heap.objs.size,S ++[.dc []],as ++[s.heap.objs.size],Hf,_,rfl,I2,rfl,g2,r.bT.new (c:=.dc []) (o:=.dK []) hf ⟨[],bp,r.bT.sub.free hf,.nil⟩,?_⟩;refine⟨S.length,s.heap.objs.size,rfl,?_,rfl⟩;rw[<- r.bT.len,Wm (VU _),YK];rfl
noncomputable def q6(p q:PV)(S:aI):RS PV:=match iK p with
  | some i=>(match q with
    | .str k=>(match S[i]? with
      | some (.dc l)=>(match l.lookup k with
        | some z=>.ok z S
        | none=>.stuck)
      | _=>.stuck)
    | _=>.stuck)
  | none=>.stuck
theorem J4(h:q6 p q S≠.stuck):∃ i k l z,iK p=some i/\q=.str k/\S[i]?=some (.dc l)/\l.lookup k=some z/\q6 p q S=.ok z S:=by
  unfold q6 at h ⊢;split at h
  . next i h1 =>
    split at h
    . next k =>
      split at h
      . next l h2 =>
        split at h
        . next z h3=>exact⟨i,k,l,z,h1,rfl,h2,h3,by simp only[h2,h3]⟩
        . exact absurd rfl h
      . exact absurd rfl h
    . exact absurd rfl h
  . exact absurd rfl h
noncomputable def iZ(a b:GE):GE:=fun ρ S=>(a ρ S).bind fun p S1=>(b ρ S1).bind fun q S2=>q6 p q S2
theorem DO{pos:Pos} (ha:SE X cl a fa) (hb:SE X cl b fb) (hx:Iq b:=by intro _ _;rfl):SE X cl (.Subscript a b pos) (iZ fa fb):=by
  refine⟨fun pins s σ as Hf H ρ S I r hs=>?_⟩;unfold iZ at hs ⊢;refine Gz PySem.F.slot_dict_getitem.lookup hx (ha.run I r (.refl _ _) hs fun p v u s1 bC aD H1 S1 e1 I1 rv g1 r1 rp=>?_);rw[e1]at hs ⊢;refine hb.run I1 r1 g1 hs fun q v' u' s2 jT bG H2 S2 e2 I2 d0 g2 r2 rq=>?_;rw[e2]at hs ⊢;obtain⟨i,k,l,z,h1,rfl,h2,h3,e3⟩:=J4 hs;rw[e3];obtain⟨a',m8,rfl⟩:=iY (rp.keep g2) h1;obtain rfl:u=Value.ref a':=rv;obtain⟨vs,k1,k2,k3⟩:=r2.bT.at_ i a' _ m8 h2
  obtain⟨w,e4,e5⟩:=(k3.look k).1 z h3;have BR:Rp X.K cl bG v' (.str k):=rq
  cases BR;obtain⟨z',hd,vk,rel,dd⟩:=ud I2.bh k1;obtain⟨w',hw,kh⟩:=gF.some_of (v:=w) (o:=valueAt vk (Sum.inr k:Key)) (by rw[<- e4,<- lX];exact rel.val _);refine⟨dd.typeIs,wpAny_getItem_of (md (k:=(Sum.inr k:Key)) d0) dd.mapOf hw ⟨z,w,S2,jT,bG,H2,rfl,I2.tok _,kh,g1.trans g2,r2.bT,e5⟩⟩
noncomputable def q8(neg:Bool)(q p:PV)(S:aI):RS PV:=match iK p with
  | some i=>(match q with
    | .str k=>(match S[i]? with
      | some (.dc l)=>.ok (.bl (if neg then !(l.lookup k).isSome else (l.lookup k).isSome)) S
      | _=>.stuck)
    | _=>.stuck)
  | none=>.stuck
theorem J5(h:q8 neg q p S≠.stuck):∃ i k l,iK p=some i/\q=.str k/\S[i]?=some (.dc l)/\q8 neg q p S=.ok (.bl (if neg then !(l.lookup k).isSome else (l.lookup k).isSome)) S:=by
  unfold q8 at h ⊢;split at h
  . next i h1 =>
    split at h
    . next k =>
      split at h
      . next l h2=>exact⟨i,k,l,h1,rfl,h2,by simp only[h2]⟩
      . exact absurd rfl h
    . exact absurd rfl h
  . exact absurd rfl h
noncomputable def lG(neg:Bool)(a b:GE):GE:=fun ρ S=>(a ρ S).bind fun q S1=>(b ρ S1).bind fun p S2=>q8 neg q p S2
theorem GY(neg:Bool)(ha:SE X cl a fa)(hb:SE X cl b fb)(I:Inv X pins σ H s)(r:cj X.K cl as Hf H σ ρ S)(hs:lG neg fa fb ρ S≠.stuck) :
    wpAny (model X.prog X.w) X.A (eval a X.env) (fun v s₁=>wpAny (model X.prog X.w) X.A (eval b X.env) (fun u s₂=>wpAny (model X.prog X.w) X.A (compareOp (if neg then .NotIn else .In) v u)
      (mY X cl pins σ as Hf (lG neg fa fb ρ S)) (fA X cl pins σ as Hf (lG neg fa fb ρ S)) s₂) (fA X cl pins σ as Hf (lG neg fa fb ρ S)) s₁) (fA X cl pins σ as Hf (lG neg fa fb ρ S)) s:=by
  unfold lG at hs ⊢;refine ha.run I r (.refl _ _) hs fun q v' u' s1 bC aD H1 S1 e1 I1 d0 g1 r1 rq=>?_;rw[e1]at hs ⊢;refine hb.run I1 r1 g1 hs fun p v u s2 jT bG H2 S2 e2 I2 rv g2 r2 rp=>?_;rw[e2]at hs ⊢;obtain⟨i,k,l,h1,rfl,h2,e3⟩:=J5 hs;rw[e3];obtain⟨a',m8,rfl⟩:=iY rp h1;obtain rfl:u=Value.ref a':=rv;obtain⟨vs,k1,k2,k3⟩:=r2.bT.at_ i a' _ m8 h2
  have BR:Rp X.K cl aD v' (.str k):=rq;cases BR;obtain⟨z',hd,vk,rel,dd⟩:=ud I2.bh k1;have ev:(valueAt vk (Sum.inr k:Key)).isSome=(l.lookup k).isSome:=by rw[<- (rel.val (Sum.inr k:Key)).AH,lX,k3.isSome k]
  cases neg with
  | true =>
    refine wpAny_notIn_of (md (k:=(Sum.inr k:Key)) d0) hd dd.mapOf ?_;rw[ev];exact⟨.bl (!(l.lookup k).isSome),.bl (!(l.lookup k).isSome),S2,jT,bG,H2,rfl,I2.tok _,rfl,g1.trans g2,r2.bT,.bl _⟩
  | false =>
    refine wpAny_in_of (md (k:=(Sum.inr k:Key)) d0) hd dd.mapOf ?_;rw[ev];exact⟨.bl (l.lookup k).isSome,.bl (l.lookup k).isSome,S2,jT,bG,H2,rfl,I2.tok _,rfl,g1.trans g2,r2.bT,.bl _⟩
noncomputable def rg(ρ:ay)(q p k:PV)(S:aI):ZR:=match iK p with
  | some i=>(match k with
    | .str k=>(match S[i]? with
      | some (.dc l)=>if l.length<1000 then .next ρ (S.set i (.dc (putD k q l))) else .stuck
      | _=>.stuck)
    | _=>.stuck)
  | none=>.stuck
theorem J6{ρ:ay}{q p k:PV}(h:rg ρ q p k S≠.stuck):∃ i x l,iK p=some i/\k=.str x/\S[i]?=some (.dc l)/\l.length<1000/\rg ρ q p k S=.next ρ (S.set i (.dc (putD x q l))):=by
  unfold rg at h ⊢;split at h
  . next i h1 =>
    split at h
    . next k =>
      split at h
      . next l h2 =>
        split at h
        . next h3=>exact⟨i,k,l,h1,rfl,h2,h3,by simp only[h2,VP h3]⟩
        . exact absurd rfl h
      . exact absurd rfl h
    . exact absurd rfl h
  . exact absurd rfl h
noncomputable def n5(o k v:GE):GS:=fun ρ S=>ig (v ρ S) ρ fun q S1=>ig (o ρ S1) ρ fun p S2=>ig (k ρ S2) ρ fun j S3=>rg ρ q p j S3
theorem DP{o k e:Expr}{pos pos':Pos}(ho:SE X cl o fo)(hk:SE X cl k fk)(he:SE X cl e fe)
    (lP:swapsWithSole [.Subscript o k pos'] e pos.line X.env=pure false:=by rfl) (hw:swappedStores [.Subscript o k pos'] e X.env=pure none:=by rfl)
    (h1:(assignEach [.Subscript o k pos'] X.env).map (·.2)=[assign (.Subscript o k pos') X.env]:=by rfl)
    (ha:∀ v,assign (.Subscript o k pos') X.env v=(do
      let ov <- holding [v] (eval o X.env)
      let iv <- holding [v,ov] (eval k X.env)
      standAt pos'
      holding [v,ov,iv] (setItem ov iv v)
      release [v,ov,iv] []):=by intro _;rfl):ZS X cl (.Assign [.Subscript o k pos'] e pos) (n5 fo fk fe):=by
  refine⟨fun pins s σ as Hf H ρ S I r hs=>?_⟩;unfold n5 at hs ⊢;refine wpAny_Assign_stores (he.lR I r (.refl _ _) hs fun q y u s1 bC aD H1 S1 e1 I1 ry g1 r1 rq=>?_) lP hw;rw[e1]at hs ⊢;rw[h1];show wpAny _ _ (assign (.Subscript o k pos') X.env u) _ _ _
  rw[ha];refine V0 (Yh (ho.lR I1 r1 g1 hs fun p v ov s2 jT bG H2 S2 e2 I2 rv g2 r2 rp=>?_));rw[e2]at hs ⊢;have lW:=g1.trans g2
  refine V0 (Yh (hk.lR I2 r2 lW hs fun j w kv s3 xu iI H3 S3 e3 I3 kh g3 r3 rj=>?_));rw[e3]at hs ⊢;have R4:=lW.trans g3
  obtain⟨i,x,l,h1,rfl,h2,h3,e4⟩:=J6 hs;rw[e4];have R5:Rp X.K cl iI w (.str x):=rj
  cases R5;obtain⟨a,m8,rfl⟩:=iY (rp.keep g3) h1;obtain rfl:ov=Value.ref a:=rv;obtain⟨vs,k1,k2,k3⟩:=r3.bT.at_ i a _ m8 h2
  have hl:vs.length<1000:=by rw[k3.length];exact h3
  have hz:(vs.map kS).length<sizeLine:=by rw[V5];exact Wc hl (by decide)
  obtain⟨z,hd,vk,rel,dd⟩:=ud I3.bh k1;have R6:vk.length<=sizeLine:=by rw[<- rel.length];exact z
  have Bf:(putK (vs.map kS) (Sum.inr x:Key) y).length<=sizeLine:=by have:=wu (vs.map kS) (Sum.inr x:Key) y;omega
  generalize mZ X cl pins as Hf _=E;refine V0 (wpAny_standAt (V0 (Yh (wpAny_setItem_pairs (hsz:=R6) (md (k:=(Sum.inr x:Key)) kh) dd fun h' AJ cu=>?_))));have hq:∃ q,h'.get? a=some q:=let ⟨q,_,_,hq,_⟩:=AJ;⟨q,hq⟩
  have I4:=wW (t':=s3.toks+1) (ob:=.dK (putK (vs.map kS) (Sum.inr x:Key) y)) I3 (by rw[k1];exact True.intro) cu hq (AI Bf hd (rel.put (Sum.inr x:Key) ry) AJ);rw[GW]at I4;exact wpAny_release ⟨ρ,_,σ,xu,iI,_,rfl,I4,r3.keep (.refl _ _) (r3.bT.write m8 k2 ⟨_,bp,k2,dw.putD (rq.keep (g2.trans g3)) k3⟩),R4⟩
noncomputable def tJ(p q:PV)(S:aI):RS PV:=match iK p with
  | some i=>(match q with
    | .str k=>(match S[i]? with
      | some (.dc l)=>(match l.lookup k with
        | some z=>.ok z (S.set i (.dc (q5 k l)))
        | none=>.stuck)
      | _=>.stuck)
    | _=>.stuck)
  | none=>.stuck
theorem J7(h:tJ p q S≠.stuck):∃ i k l z,iK p=some i/\q=.str k/\S[i]?=some (.dc l)/\l.lookup k=some z/\tJ p q S=.ok z (S.set i (.dc (q5 k l))):=by
  unfold tJ at h ⊢;split at h
  . next i h1 =>
    split at h
    . next k =>
      split at h
      . next l h2 =>
        split at h
        . next z h3=>exact⟨i,k,l,z,h1,rfl,h2,h3,by simp only[h2,h3]⟩
        . exact absurd rfl h
      . exact absurd rfl h
    . exact absurd rfl h
  . exact absurd rfl h
noncomputable def vC(p:PV)(S:aI):Bool:=match iK p with
  | some i=>(match S[i]? with
    | some (.dc _)=>true
    | _=>false)
  | none=>false
noncomputable def BS(b:GE)(ρ:ay)(p:PV)(S:aI):RS PV:=if vC p S then (b ρ S).bind fun q S2=>tJ p q S2 else .stuck
noncomputable def um(a b:GE):GE:=fun ρ S=>(a ρ S).bind (BS b ρ)
theorem GZ(ho:SE X cl o fo)(he:SE X cl e fe) (m:M1 X o "pop" apos e cpos):SE X cl (.Call (.Attribute o "pop" apos) [e] [] cpos) (um fo fe):=by
  refine⟨fun pins s σ as Hf H ρ S I r hs=>?_⟩;unfold um at hs ⊢;refine wpAny_Call_method m.base m.M7 m.line Zz ZZ PySem.F.type_dict_pop (ho.run I r (.refl _ _) hs fun p v u s1 bC aD H1 S1 e1 I1 rv g1 r1 rp=>?_);rw[e1]at hs ⊢;unfold BS at hs ⊢;by_cases hd:vC p S1=true;rotate_left
  . rw[VQ hd]at hs;exact absurd rfl hs
  rw[VP hd]at hs ⊢;obtain⟨i,l,h1,h2⟩:∃ i l,iK p=some i/\S1[i]?=some (.dc l):=by
    unfold vC at hd;split at hd
    . next i q1 =>
      split at hd
      . next l q2=>exact⟨i,l,q1,q2⟩
      . cases hd
    . cases hd
  obtain⟨a,ha,rfl⟩:=iY rp h1;obtain rfl:u=Value.ref a:=rv;obtain⟨vs,k1,k2,k3⟩:=r1.bT.at_ i a _ ha h2
  obtain⟨t1,t2,_⟩:=Ir I1 (.inl ⟨_,.inl k1⟩);refine⟨t1,t2,?_⟩;rw[m.trees];refine W7 rfl (Xe (WA (he.run I1 r1 g1 hs fun q v' u' s2 jT bG H2 S2 e2 I2 d0 g2 r2 rq=>WY ?_)));rw[e2]at hs ⊢;obtain⟨i',k,l',z,w5,rfl,Jw,h3,e3⟩:=J7 hs;rw[e3];rw[h1]at w5;cases w5;have Be:=g2.at_ ha
  obtain⟨vk,R7,NB,NC⟩:=r2.bT.at_ i a _ Be Jw
  have BR:Rp X.K cl bG v' (.str k):=rq;cases BR;obtain⟨w,e4,e5⟩:=(NC.look k).1 z h3;refine LU I2 R7 (k:=(Sum.inr k:Key)) d0 (by rw[lX];exact e4) (.inl rfl) fun w' s3 I3 kh=>?_;rw[DN]at I3;exact⟨z,w,_,jT,bG,_,rfl,I3,kh,g1.trans g2,r2.bT.write Be NB ⟨_,bp,NB,NC.drop⟩,e5⟩
noncomputable def E9(ps:List PV)(S:aI):RS PV:=if ps.any d8=false/\ps.length<=sizeLine then .ok (.tup ps) S else .stuck
noncomputable def zL(a:GA):GE:=fun ρ S=>(a ρ S).bind E9
theorem J8{k:Nat}{pos:Pos} (h:SA X cl es f):SE X cl (.Tuple es k pos) (zL f):=by
  refine⟨fun pins s σ as Hf H ρ S I r hs=>?_⟩;unfold zL at hs ⊢;refine wpAny_Tuple_spliced (h.run pos I r (.refl _ _) hs fun ps vs us s1 bC aD H1 S1 _ e1 I1 rv g1 r1 aT=>?_);rw[e1]at hs ⊢;unfold E9 at hs ⊢;by_cases hz:ps.any d8=false/\ps.length<=sizeLine;rotate_left
  . rw[VQ hz]at hs;exact absurd rfl hs
  rw[VP hz];have z:vs.length<=sizeLine:=by rw[aT.length];exact hz.2
  refine⟨by rw[<- rv.length];exact z,?_⟩;have hf:H1 s1.heap.objs.size=none:=I1.bh.fresh (VU _)
  refine mY.from g1 (uj (r:=.ok (.tup ps)) r1.bT (iw (tk:=s1.toks) hf r1.bT.sub (I1.laid (t':=s1.toks) (o:=.tup vs) (fun b u e=>VW _ e) (VU _) ?_) (.tup (iG.of bp) ((aT.aT hz.1).keep (dk (r1.bT.sub.free hf) _)))));exact⟨z,us,rv,⟨_,Wi _ rfl,rfl,_,rfl⟩⟩
noncomputable def ND(f g:GE)(ρ:ay)(c:Bool)(S:aI):RS PV:=if c then f ρ S else g ρ S
noncomputable def Fb(t:GT)(f g:GE):GE:=fun ρ S=>(t ρ S).bind (ND f g ρ)
theorem Ma{t:GT}{pos:Pos} (hc:ST X cl c t) (ha:SE X cl a f) (hb:SE X cl b g):SE X cl (.IfExp c a b pos) (Fb t f g):=by
  refine⟨fun pins s σ as Hf H ρ S I r hs=>?_⟩;unfold Fb at hs ⊢;refine wpAny_IfExp (hc.run I r (.refl _ _) hs fun d s1 bC aD H1 S1 e1 I1 g1 r1=>?_);rw[e1]at hs ⊢;cases d with
  | true=>exact VN (ha.go pins s1 σ bC aD H1 ρ S1 I1 r1 hs) (fun _ _ q=>q.from g1) fun _ _ q=>q.from g1
  | false=>exact VN (hb.go pins s1 σ bC aD H1 ρ S1 I1 r1 hs) (fun _ _ q=>q.from g1) fun _ _ q=>q.from g1
structure SW(X:Cx)(cl:Nat->Addr)(e:Expr)(f:GT):Prop where
  go:∀(whole:Sem Value)(pins:List (Addr×Obj))(s:Shared)(σ:SV)(as:List Addr)(Hf H:Hp)(ρ:ay)(S:aI),Inv X pins σ H s->cj X.K cl as Hf H σ ρ S->f ρ S≠.stuck ->
    wpAny (model X.prog X.w) X.A (isTrue e X.env whole) (vv X cl pins σ as Hf (f ρ S)) (fA X cl pins σ as Hf (f ρ S)) s
theorem SW.st(h:SW X cl e f):ST X cl e f:=⟨h.go _⟩
theorem rh{pos:Pos} (h:ST X cl a f):SW X cl (.BoolOp .Or [a] pos) f:=by
  refine⟨fun wh pins s σ as Hf H ρ S I r hs=>isTrue_or (ft (h.go pins s σ as Hf H ρ S I r hs) fun c s1 q=>?_)⟩;cases c with
  | false=>exact isTrue_or_nil q
  | true=>exact q
noncomputable def toK(g:GT)(ρ:ay)(c:Bool)(S:aI):RS Bool:=if c then .ok true S else g ρ S
noncomputable def NF(g:GT)(ρ:ay)(c:Bool)(S:aI):RS Bool:=if c then g ρ S else .ok false S
noncomputable def qh(f g:GT):GT:=fun ρ S=>(f ρ S).bind (toK g ρ)
noncomputable def Mb(f g:GT):GT:=fun ρ S=>(f ρ S).bind (NF g ρ)
theorem uo{a b:Expr}{rest:List Expr}{pos:Pos}(h:ST X cl a f)(hb:SW X cl (.BoolOp .Or (b::rest) pos) g):SW X cl (.BoolOp .Or (a::b::rest) pos) (qh f g):=by
  refine⟨fun wh pins s σ as Hf H ρ S I r hs=>?_⟩;unfold qh at hs ⊢;refine isTrue_or (h.run I r (.refl _ _) hs fun c s1 bC aD H1 S1 e1 I1 g1 r1=>?_);rw[e1]at hs ⊢;cases c with
  | false=>exact VN (hb.go wh pins s1 σ bC aD H1 ρ S1 I1 r1 hs) (fun _ _ q=>q.from g1) fun _ _ q=>q.from g1
  | true=>exact⟨S1,bC,aD,H1,rfl,I1,g1,r1.bT⟩
end
theorem cj.snoc{K:PySem.W.Frag}{cl:Nat->Addr}{σ:SV}(r:cj K cl as Hf H σ ρ S)(hr:Vr K cl as Hf v p):cj K cl as Hf H (σ ++[some v]) (cT σ.length ρ ++[some p]) S:=by
  refine⟨r.bT,fun i q h=>?_⟩;by_cases hi:i<σ.length
  . rw[Wb (by rw[fW];exact hi)]at h;obtain⟨w,h1,h2⟩:=r.slot i q (kU h);exact⟨w,by rw[Wb hi];exact h1,h2⟩
  . rw[Wm (by rw[fW];omega),fW]at h;by_cases z:i=σ.length
    . subst z;simp at h;subst h;exact⟨v,by simp,hr⟩
    . rw[WQ (by simp;omega)]at h;cases h
theorem eV.snoc{K:PySem.W.Frag}{cl:Nat->Addr}(h:Vr K cl as Hf v p):∀{vs:List V}{ps:List PV},eV K cl as Hf vs ps->eV K cl as Hf (vs ++[v]) (ps ++[p])
  | _,_,.nil=>.cons h .nil
  | _,_,.cons r t=>.cons r (t.snoc h)
noncomputable def xC(i:Nat)(S:aI):RS PV:=match S[i]? with
  | some (.ls qs)=>if qs.any d8=false then .ok (.lst qs) (S.set i .gone) else .stuck
  | _=>.stuck
noncomputable def lY(i:Nat)(v:PV)(S:aI)(k:aI->RS PV):RS PV:=match S[i]? with
  | some (.ls qs)=>if qs.length<1000 then k (S.set i (.ls (qs ++[v]))) else .stuck
  | _=>.stuck
noncomputable def jP(n:Nat)(g:GE)(ρ:ay)(i:Nat):List PV->aI->RS PV
  | [],S=>xC i S
  | p::r,S=>match g (cT n ρ ++[some p]) S with
    | .ok v S'=>lY i v S' (jP n g ρ i r)
    | _=>.stuck
noncomputable def iu(n:Nat)(it:FA)(g:GE):GE:=fun ρ S=>match it (hide ρ)with
  | .ok l=>jP n g ρ S.length l (S ++[.ls []])
  | _=>.stuck
section
variable {X:Cx}{cl:Nat->Addr}
theorem xD{elt iter:Expr}{px pos:Pos}{n:Nat}(hc:X.calm=true)(c0:X.Ok->tr X Ns x sc cs)(hn:X.N.length=n)(i7:(Ns ++[x]).Nodup)(hi:MI X cl (.Name x px) iter fa)
    (hb:∀ C s H fp,SE (eM X Ns x sc cs C s H fp) cl elt g) (ic:∀ y,foldedSetIterable iter X.env y=pure y:=by intro _;rfl) :
    SE X cl (.ListComp elt [⟨.Name x px,iter,[],0⟩] sc pos) (iu n fa g):=by
  refine⟨fun pins s σ as Hf H ρ S I r hs=>?_⟩;rw[eval_ListComp];have c:=c0 I.ok
  obtain⟨ps,e1,er⟩:∃ ps,fa (hide ρ)=.ok ps/\iu n fa g ρ S=jP n g ρ S.length ps (S ++[.ls []]):=by
    unfold iu at hs ⊢;cases e:fa (hide ρ)with
    | ok l=>exact⟨l,rfl,rfl⟩
    | exc d=>rw[e]at hs;exact absurd rfl hs
    | stuck=>rw[e]at hs;exact absurd rfl hs
  generalize Vs:iu n fa g ρ S=res at *;have hE:∀ u s',bW X cl pins σ Hf H (fa (hide ρ)) u s'->fA X cl pins σ as Hf res u s':=fun u s' ⟨d,e2,_⟩=>by rw[e1]at e2;cases e2
  refine Zt (use:=none) rfl ic c.Jx c.kind c.names (VN (hi pins s σ Hf H Hf H (hide ρ) I r.rep (by rw[e1];intro z;cases z)) (fun xv s1 h1=>VN h1 (fun sF s2 h2=>?_) hE) hE);obtain⟨VF,vs,bG,iJ,it,fp,tn,J,H2,e,I2,T,gi,f2,x2,ov,aT⟩:=h2;rw[e1]at iJ;cases iJ;subst e;have vi:H2 s2.heap.objs.size=none:=I2.bh.fresh (VU _)
  have Br:∀ b∈fp,b<s2.heap.objs.size:=fun b hb=>by
    obtain⟨o,ho,_⟩:=T.obj _ _ gi b hb;exact V8 ho
  refine wpAny_newList ?_;have k3:∀ b u,s2.heap.get? b=some u->(s2.heap.push { cls:=.type "list",data:=.seq ([]:List Value).toArray }).get? b=some u:=fun b u q=>VW _ q
  have I3:Inv X pins σ (upd H2 s2.heap.objs.size (.lst [])) { s2 with heap:=s2.heap.push { cls:=.type "list",data:=.seq ([]:List Value).toArray } } :=
    I2.laid (a:=s2.heap.objs.size) (o:=.lst []) (t':=s2.toks) k3 (VU _) ⟨Xp _,[],0,.nil,Wi _ rfl⟩
  generalize hl:s2.heap.objs.size=l at *;have iW:∀ b∈fp,gG X pins (upd H2 l (.lst [])) b:=fun b hb=>⟨by rw[a7 (Wz (Br b hb))];exact(f2 b hb).1,(f2 b hb).2⟩
  generalize Bs:({ s2 with heap:=s2.heap.push { cls:=.type "list",data:=.seq ([]:List Value).toArray } }:Shared)=s3 at I3 ⊢;have Bt:∀ b∈fp,b<s3.heap.objs.size:=fun b hb=>by
    rw[<- Bs];show b<(s2.heap.push _).objs.size
    rw[Yq,hl];exact Nat.lt_succ_of_lt (Br b hb)
  have nL:tn 0 s3.heap:=T.keep _ _ _ gi fun b _ o e=>by rw[<- Bs];exact k3 b o e
  refine wpAny_newFunctionEnv c.Bo (by intro y hy;simp at hy) (fun h1 JA vc=>?_) c.kind;have kC:∀ b o,s3.heap.get? b=some o->h1.get? b=some o:=fun b o e=>vc.extBut b o (Wz (V8 e)) (VW _ e)
  have IB:=xm (tk:=s3.toks+([]:List (Str×Value)).length) I3 c iW Bt JA kC;have J9:=r.bT.ext x2
  have Qc:bI X.K cl (as ++[l]) bG (upd H2 l (.lst [])) (S ++[.ls []]):=J9.new (c:=.ls []) (o:=.lst []) vi ⟨[],bp,J9.sub.free vi,.nil⟩;have g3:bE as Hf (as ++[l]) bG:=⟨⟨_,rfl⟩,x2.bw⟩
  have al:(as ++[l])[S.length]?=some l:=by rw[<- r.bT.len,Wm (VU _),YK];rfl
  have Bu:tn 0 h1:=T.keep _ _ _ nL fun b _ o e=>kC b o e;have Bv:σ.length=n:=by rw[I.len,hn]
  have nM:=aT.length;have JB:Ns.length=n:=c.len.trans hn
  have JC:(Ns ++[x])[n]?=some x:=by rw[Wm (by omega),JB];simp
  have Bw:(relabel sc X.env).names.lookup x=some .local:=lookup_relabel_local c.here;have JD:∀ b∈fp,b≠s3.heap.objs.size:=fun b hb=>Wz (Bt b hb)
  have iz:∀{H':Hp},(∀ b∈fp,H' b=none)->∀ b∈fp,gG (eM X Ns x sc cs s3.heap.objs.size s3 (upd H2 l (.lst [])) fp) [] H' b:=fun uC=>Bp c I3 JD iW uC;have gz:=hb s3.heap.objs.size s3 (upd H2 l (.lst [])) fp
  have loop:codeAny (model X.prog X.w) X.A (.compLoop (.ListComp elt [⟨.Name x px,iter,[],0⟩] sc pos) 0 (.ref it) (.ref l) (compEnvC sc cs s3.heap.objs.size X.env))
      (compPost (model X.prog X.w) X.A (fA X cl pins σ as Hf res) none (mY X cl pins σ as Hf res) (.ref l) s3.heap.objs.size) { s3 with heap:=h1,toks:=s3.toks+([]:List (Str×Value)).length }:=by
    refine nR (fun m s'=>∃(k:Nat)(S':aI)(aJ:List Addr)(ao H':Hp)(v:Option V),Inv (eM X Ns x sc cs s3.heap.objs.size s3 (upd H2 l (.lst [])) fp) [] (σ ++[v]) H' s'/\tn k s'.heap/\(∀ b∈fp,H' b=none)/\bE (as ++[l]) bG aJ ao/\bI X.K cl aJ ao H' S' /\
      m=ps.length - k/\k<=ps.length/\jP n g ρ S.length (ps.drop k) S'=res) ?_ ps.length
      ⟨0,S ++[.ls []],as ++[l],bG,upd H2 l (.lst []),none,IB,Bu,fun b hb=>(iW b hb).1,.refl _ _,Qc,by omega,Xp _,(by rw[Z1];exact er.symm)⟩
    rintro m s4 ⟨k,S4,Fc,EV,H4,v4,I4,Bx,By,g4,DQ,rfl,hk,e4⟩;have nN:aO bG H4:=g4.2.trans DQ.sub
    have NG:Fc[S.length]?=some l:=g4.at_ al
    by_cases gJ:k<ps.length
    . obtain⟨go,yl⟩:=(ov H4 k nN).1 (by rw[nM];exact gJ);refine VN (T.item (eM X Ns x sc cs s3.heap.objs.size s3 (upd H2 l (.lst [])) fp) rfl rfl rfl hc k [] s4 (σ ++[v4]) H4 (fun _ _=>False) I4 (iz By) Bx go) (fun rr s5 ⟨u,hr,h5⟩=>?_) fun _ _ z=>z;subst hr;refine ft h5 fun _ s6 ⟨x6,H6,I6,r6,y6,vj,JE⟩=>?_;obtain⟨eH,JF⟩:=yl x6 H6 y6;subst eH;obtain⟨p6,Bz,AR⟩:=aT.get' JF;have DB:=AR.keep g4.2
      have mw:ps.drop k=p6::ps.drop (k+1):=by
        rw[XT gJ];rw[V9 gJ]at Bz;rw[WL Bz]
      rw[mw]at e4;have JG:=I6.pinned (iz JE) (T.obj _ _ vj)
      refine XQ (fB (X:=eM X Ns x sc cs s3.heap.objs.size s3 (upd H2 l (.lst [])) fp) JG i7 JC (.inl Bw) r6 (fun s7 I7=>?_) (.inr Bw));have eσ:(σ ++[v4]).set n (some x6)=σ ++[some x6]:=by rw[<- Bv,aac _ _ (VU _)];simp
      rw[eσ]at I7;have r7:cj X.K cl Fc EV H6 (σ ++[some x6]) (cT σ.length ρ ++[some p6]) S4:=(r.keep (g3.trans g4) DQ).snoc (.of DB)
      rw[Bv]at r7;rw[List.forIn_nil];refine Ws ?_;rw[VP rfl];have eg:∃ v S9 qs,g (cT n ρ ++[some p6]) S4=.ok v S9/\S9[S.length]?=some (.ls qs)/\qs.length<1000/\jP n g ρ S.length (ps.drop (k+1)) (S9.set S.length (.ls (qs ++[v])))=res:=by
        have i8:jP n g ρ S.length (p6::ps.drop (k+1)) S4≠.stuck:=by rw[e4];exact hs
        unfold jP at e4 i8;cases e:g (cT n ρ ++[some p6]) S4 with
        | exc d S9=>rw[e]at i8;exact absurd rfl i8
        | stuck=>rw[e]at i8;exact absurd rfl i8
        | ok v S9 =>
          rw[e]at e4 i8;simp only at e4 i8;unfold lY at e4 i8;split at i8
          . next qs h9 =>
            rw[h9]at e4;simp only at e4;split at i8
            . next ri=>rw[VP ri]at e4;exact⟨v,S9,qs,rfl,h9,ri,e4⟩
            . exact absurd rfl i8
          . exact absurd rfl i8
      obtain⟨v,S9,qs,ef,h9,ri,e5⟩:=eg;refine VN (gz.go _ s7 _ Fc EV H6 _ S4 I7 r7 (by rw[ef];intro z;cases z)) (fun u s9 q9=>?_) fun u s9 q9=>?_
      . obtain⟨p9,v9,VG,NH,pG,H9,e9,I9,JH,g9,NI,R8⟩:=q9;rw[ef]at e9;cases e9;have NJ:NH[S.length]?=some l:=g9.at_ NG
        obtain⟨ys,BB,qc,rq⟩:=NI.at_ S.length l _ NJ h9
        refine ft (nv (X:=eM X Ns x sc cs s3.heap.objs.size s3 (upd H2 l (.lst [])) fp) _ s9 _ H9 (.ref l) [v9] (.ref l) [u] (fun w H'=>H'=upd H9 l (.lst (ys ++[v9]))) I9 rfl (.cons JH .nil) ⟨l,ys,v9,rfl,rfl,BB,by rw[rq.length];exact Wc ri (by decide),rfl⟩) fun w RG ⟨w',RH,BC,_,JI⟩=>?_;subst JI;refine⟨ps.length - (k+1),by omega,k+1,S9.set S.length (.ls (qs ++[v])),NH,pG,upd H9 l (.lst (ys ++[v9])),some x6,BC.fD,T.keep _ _ _ vj fun b hb o e=>(BC.pin (b,o) (We _ (We _ (fu hb e)))).1,fun b hb=>?_,g4.trans g9,NI.write NJ qc ⟨_,bp,qc,rq.snoc R8⟩,rfl,gJ,e5⟩;obtain⟨o,e,d⟩:=T.obj _ _ vj b hb;exact(BC.pin (b,o) (We _ (We _ (fu hb e)))).2.1
      . obtain⟨d,_,_,_,_,_,e9,_⟩:=q9;rw[ef]at e9;cases e9
    . have u7:k=ps.length:=by omega
      subst u7;refine VN (T.done (eM X Ns x sc cs s3.heap.objs.size s3 (upd H2 l (.lst [])) fp) rfl rfl rfl hc ps.length [] s4 (σ ++[v4]) H4 (fun _ _=>False) I4 (iz By) Bx ((ov H4 ps.length nN).2 (by rw[nM];exact VU _))) (fun rr s5 ⟨hr,I5⟩=>?_) fun _ _ z=>z;subst hr;rw[YA]at e4;obtain⟨qs,h9,ri,Qd⟩:∃ qs,S4[S.length]?=some (.ls qs)/\qs.any d8=false/\res=.ok (.lst qs) (S4.set S.length .gone):=by
        have i8:jP n g ρ S.length [] S4≠.stuck:=by rw[e4];exact hs
        unfold jP xC at e4 i8;split at i8
        . next qs h9 =>
          rw[h9]at e4;simp only at e4;split at i8
          . next ri=>rw[VP ri]at e4;exact⟨qs,h9,ri,e4.symm⟩
          . exact absurd rfl i8
        . exact absurd rfl i8
      obtain⟨m5,JK,_⟩:=I5.loc;have IX:Inv X pins σ H4 s5:=I3.t7 I5.os I5.base I5.bh I5.bare fun b hb=>⟨(iW b hb).2.2.2.1,(iW b hb).2.1,(iW b hb).2.2.2.2.1,(iW b hb).2.2.2.2.2⟩
      obtain⟨mR,g5,Qe,A3⟩:=DQ.bw NG h9 ri;exact⟨m5,JK,fun h' BD=>⟨.lst qs,.ref l,_,Fc,mR,H4,Qd,nS IX (I3.rT (VU _) I5.free) BD,rfl,(g3.trans g4).trans g5,Qe,.of A3⟩⟩
  exact codeAny_compStart_list loop (T.self _ 0 _ _ _ Bu loop)
end
noncomputable def rl:List DictEntry->List (Str×Int)->Bool
  | [],[]=>true
  | e::es,(x,i)::l=>kJ (.inr x) e.key&&Value.isInt i e.val&&rl es l
  | _,_=>false
structure uq(P:Program)(w:World)(K:PySem.W.Frag)(u:Value)(l:List (Str×Int)):Prop where
  ex:∃(a:Addr)(o:Obj)(es:Array DictEntry)(ep:Nat),u=.ref a/\K.lookup a=some o/\o.cls=.type "dict"/\o.dict=none/\o.slots=#[]/\o.data=.dict es ep/\es.toList.map (·.hash)=l.map (fun p=>uA w (.inr p.1))/\rl es.toList l=true/\(a == sysModules)=false
  nd:(l.map (·.1)).Nodup
noncomputable def xE(l:List (Str×Int))(us:List Value):List (Key×Value):=(l.map fun p=>(Sum.inr p.1:Key)).zip us
theorem tK:∀{es:List DictEntry}{l:List (Str×Int)},rl es l=true->∃ us:List Value,us.length=l.length/\Pairs (dJ P w) es (xE l us)/\∀(i:Nat)(p:Str×Int)(u:Value),l[i]?=some p->us[i]?=some u->∃ t,u=.int p.2 t
  | [],[],_=>⟨[],rfl,.nil,fun i p u h=>by simp at h⟩
  | e::es,(x,i)::l,h=>by
    unfold rl at h;rw[VR,VR]at h;obtain⟨us,a,b,c⟩:=tK (P:=P) (w:=w) h.2;refine⟨e.val::us,by rw[VT,VT,a],.cons h.1.1 rfl b,fun j p u h1 h2=>?_⟩;cases j with
    | zero =>
      simp at h1 h2;subst h1 h2;exact Value.isInt_shape h.1.2
    | succ j=>exact c j p u (by simpa using h1) (by simpa using h2)
  | [],_::_,h=>by unfold rl at h;cases h
  | _::_,[],h=>by unfold rl at h;cases h
theorem vD:∀{l:List (Str×Int)}{us:List Value},us.length=l.length->(xE l us).map (·.1)=l.map fun p=>(Sum.inr p.1:Key)
  | [],_,_=>rfl
  | p::l,[],h=>by simp at h
  | p::l,u::us,h=>by
    show _::(xE l us).map (·.1)=_::_;rw[vD (by simpa using h)]
theorem xF(k:Str):∀{l:List (Str×Int)}{us:List Value},us.length=l.length->(∀(i:Nat)(p:Str×Int)(u:Value),l[i]?=some p->us[i]?=some u->∃ t,u=.int p.2 t) ->
    RelV (((l.lookup k).map V.int).getD .aU) ((valueAt (xE l us) (Sum.inr k:Key)).getD .none)
  | [],_,_,_=>rfl
  | (x,i)::l,[],h,_=>by simp at h
  | (x,i)::l,u::us,h,c=>by
    have ih:=xF k (l:=l) (us:=us) (by simpa using h) fun j p u' h1 h2=>c (j+1) p u' (by simpa using h1) (by simpa using h2);rw[Wa];unfold valueAt at ih ⊢;show RelV _ (Option.getD (Option.map _ (List.find? _ (((Sum.inr x:Key),u)::xE l us))) _)
    rw[Yk];by_cases e:x=k
    . subst e;rw[WM,VX rfl];obtain⟨t,rfl⟩:=c 0 (x,i) u rfl rfl;exact⟨t,rfl⟩
    . have e1:(k == x)=false:=by rw[Wr];exact fun z=>e z.symm
      have e2:decide ((Sum.inr x:Key)=Sum.inr k)=false:=V3 fun z=>e (by cases z;rfl);rw[e1,e2];exact ih
noncomputable def rm(l:List (Str×Int))(f:FE):FE:=fun ρ=>(f ρ).bind fun p=>match p with
  | .str k=>.ok (((l.lookup k).map PV.int).getD .aU)
  | _=>.stuck
section
variable {X:Cx}{cl:Nat->Addr}
theorem G0{px apos cpos:Pos} (hg:Gl X x) (hm:∃ u,X.mg x=some u/\uq X.prog X.w X.K u l) (he:ME X cl e f) (m:M1 X (.Name x px) "get" apos e cpos) (hd:(x ==("__debug__" : Str))=false:=by decide) :
    ME X cl (.Call (.Attribute (.Name x px) "get" apos) [e] [] cpos) (rm l f):=by
  obtain⟨u0,hm,⟨a,o,es,ep,rfl,lk,o1,o2,o3,o4,hh,hp,JM⟩,nd⟩:=hm;refine⟨?_⟩;intro pins s σ aA H0 Hf H ρ I r hs;unfold rm at hs ⊢;obtain⟨us,ul,up,uc⟩:=tK (P:=X.prog) (w:=X.w) hp;have dict:∀ h:Heap,h.get? a=some o->h.DictOf (dJ X.prog X.w) a (xE l us):=fun h ho=>by
    refine⟨o,es,ep,ho,⟨o1,o2,o3⟩,o4,fun e' R9=>?_,up,?_⟩
    . obtain⟨j,hj,rfl⟩:=Array.mem_iff_getElem.mp R9;have hl:es.toList.length=l.length:=by have:=Xq List.length hh;simpa using this
      have NK:j<l.length:=by rw[<- hl];simpa using hj
      have h1:(es.toList.map (·.hash))[j]?=(l.map (fun p=>uA X.w (.inr p.1)))[j]?:=by rw[hh]
      rw[Wt,Wt,V9 NK,V9 (by simpa using hj)]at h1;simp at h1;refine⟨Sum.inr (l[j]).1,?_,h1⟩;have key:∀{es:List DictEntry}{l:List (Str×Int)}(j:Nat)(a:j<es.length)(b:j<l.length),rl es l=true->kJ (.inr (l[j]).1) (es[j]).key=true:=fun{es l}=>by
        induction es generalizing l with
        | nil=>intro j a;simp at a
        | cons e es ih =>
          intro j a b q;cases l with
          | nil=>simp at b
          | cons p l =>
            obtain⟨x,i⟩:=p;unfold rl at q;rw[VR,VR]at q;cases j with
            | zero=>exact q.1.1
            | succ j=>exact ih j (by simpa using a) (by simpa using b) q.2
      exact key j (by simpa using hj) NK hp
    . rw[vD ul];have:l.map (fun p=>(Sum.inr p.1:Key))=(l.map (·.1)).map Sum.inr:=by rw[W6];rfl
      rw[this];exact List.pairwise_map.mpr (nd.imp fun h z=>h (by cases z;rfl))
  refine wpAny_Call_method m.base m.M7 m.line Zz aae PySem.F.type_dict_get (fj I hg hm ?_ hd);have dd:=dict s.heap (I.dR a o lk)
  refine⟨dd.typeIs,dd.mapOf.noDict,?_⟩;rw[m.trees];refine W7 rfl (Xe (WA (he.run I r (Ext.refl r.sub) hs fun p v u s1 aD H1 e1 I1 rv x1 rp=>WY ?_)));rw[e1]at hs ⊢;cases p with
  | str k =>
    cases rp;have d1:=dict s1.heap (I1.dR a o lk)
    refine call_meetsIn aae d1.typeIs PySem.F.entry_dict_get (PySem.F.args_dict_get_2 _ _) (meets_dict_get (dJ X.prog X.w) a (md (k:=(Sum.inr k:Key)) rv) JM) ⟨_,d1.mapOf,?_⟩;have q:=xF k ul uc
    refine⟨_,((l.lookup k).map V.int).getD .aU,aD,H1,rfl,I1.tok _,q,x1,?_⟩;cases l.lookup k with
    | none=>exact .aU
    | some i=>exact .int i
  | _=>exact absurd rfl hs
end
noncomputable def lH:PV->PV->R PV
  | .str x,.str y=>.ok (.bl (!decide (y.cps.toList<x.cps.toList)))
  | _,_=>.stuck
section
variable {X:Cx}{cl:Nat->Addr}
theorem Fd:cO X cl (compareOp .LtE) lH:=by
  intro pins s σ Hf H v v' u u' p q I sm rv ru rp rq hs;cases p with
  | str x =>
    cases q with
    | str y =>
      cases rp;cases rq;obtain⟨t,rfl⟩:=rv;obtain⟨t',rfl⟩:=ru;exact PySem.P.le_str ⟨.bl _,.bl _,Hf,H,rfl,I,rfl,Ext.refl sm,.bl _⟩
    | _=>exact absurd rfl hs
  | _=>exact absurd rfl hs
end
structure NL(X:Cx)(cl:Nat->Addr)(e:Expr)(f:FT):Prop where
  go:∀(pins:List (Addr×Obj))(s:Shared)(σ:SV)(aA H0 Hf H:Hp)(ρ:ay),Inv X pins σ H s->Rep X.K cl aA H0 Hf H σ ρ->f ρ≠.stuck ->
    wpAny (model X.prog X.w) X.A (isTrue e X.env (eval e X.env)) (fun b s'=>1<=s'.toks/\mQ X pins σ Hf H (f ρ) b s') (bW X cl pins σ Hf H (f ρ)) s
structure NM(X:Cx)(cl:Nat->Addr)(st:List Stmt)(f:FS):Prop where
  go:∀(pins:List (Addr×Obj))(s:Shared)(σ:SV)(aA H0 Hf H:Hp)(ρ:ay),Inv X pins σ H s->Rep X.K cl aA H0 Hf H σ ρ->1<=s.toks->f ρ≠.stuck ->
    wpAny (model X.prog X.w) X.A (execs st X.env) (nK X cl pins aA H0 Hf (f ρ)) (iU X cl pins aA H0 Hf (f ρ)) s
section
variable {X:Cx}{cl:Nat->Addr}{pins:List (Addr×Obj)}{s:Shared}{σ:SV}{aA H0 Hf H aD H1:Hp}{ρ:ay}{α:Type}
theorem G1{a:Expr}{o:PV->PV->R PV}{z:Str}{j:Nat}{pos pos':Pos}(rule:cO X cl (compareOp op) o)(ha:ME X cl a fa)(hm:behindInMarks op (.Constant (.str z) j pos')=false):NL X cl (.Compare a [op] [.Constant (.str z) j pos'] pos) (aP (ag o fa (fC (.str z)))):=by
  refine⟨?_⟩;intro pins s σ aA H0 Hf H ρ I r hs;have cu:ag o fa (fC (.str z)) ρ≠.stuck:=fun q=>hs (by unfold aP;rw[q];rfl)
  have hx:∀(u:Value)(s':Shared),bW X cl pins σ Hf H (ag o fa (fC (.str z)) ρ) u s'->bW X cl pins σ Hf H (aP (ag o fa (fC (.str z))) ρ) u s':=fun u s' ⟨c,e1,x⟩=>⟨c,by unfold aP;rw[e1];rfl,x⟩;refine XG ?_ hm;have key:wpAny (model X.prog X.w) X.A (eval a X.env) (fun v s₁=>wpAny (model X.prog X.w) X.A (eval (.Constant (.str z) j pos') X.env) (fun u s₂=>wpAny (model X.prog X.w) X.A (compareOp op v u)
      (fun c s'=>1<=s'.toks/\eU X cl pins σ Hf H (ag o fa (fC (.str z)) ρ) c s') (bW X cl pins σ Hf H (ag o fa (fC (.str z)) ρ)) s₂) (bW X cl pins σ Hf H (ag o fa (fC (.str z)) ρ)) s₁) (bW X cl pins σ Hf H (ag o fa (fC (.str z)) ρ)) s:=by
    unfold ag at cu ⊢;refine ha.run I r (Ext.refl r.sub) cu fun p v u s1 aD H1 e1 I1 rv x1 rp=>X0 ?_;rw[e1]at cu ⊢;exact VN (wpAny_toks_of (n:=1) (Nat.succ_pos _) (rule pins _ σ aD H1 v (.str z) u _ p (.str z) (I1.tok _) x1.sub rv ⟨_,rfl⟩ rp (.str _) cu)) (fun _ _ h=>⟨h.1,h.2.from (e0:=x1)⟩) fun _ _ h=>h.2.from (e0:=x1)
  refine VN key (fun v s1 h1=>VN h1 (fun u s2 h2=>VN h2 (fun c s3 h3=>?_) (hx)) (hx)) (hx);obtain⟨tk,p,v',ao,H',e1,I',rv,ex,rp⟩:=h3;unfold aP at hs ⊢;rw[e1]at hs ⊢;exact VN (wpAny_toks_of tk (je (E:=fun _ _=>False) I' ex.sub rv rp hs)) (fun _ _ q=>⟨q.1,q.2.from (e0:=ex)⟩) fun _ _ q=>q.2.elim
theorem Ka{t:FT}{pos:Pos} (hc:NL X cl c t) (ha:NM X cl a f) (hb:ia X cl b g):MS X cl (.If c a b pos) (cy t f g):=by
  refine⟨?_⟩;intro pins s σ aA H0 Hf H ρ I r hs;have ht:t ρ≠.stuck:=fun z=>hs (by unfold cy;rw[z])
  refine wpAny_If (VN (hc.go pins s σ aA H0 Hf H ρ I r ht) (fun d s1 q=>?_) fun u s1 q=>?_)
  . obtain⟨tk,aD,H1,e1,I1,x1⟩:=q;cases d with
    | true =>
      have e2:cy t f g ρ=f ρ:=by unfold cy;rw[e1];rfl
      rw[e2]at hs ⊢;exact VN (ha.go pins s1 σ aA H0 aD H1 ρ I1 (r.keep x1) tk hs) (fun _ _ q=>q.from x1.bw) fun _ _ q=>q.from x1.bw
    | false =>
      have e2:cy t f g ρ=g ρ:=by unfold cy;rw[e1];rfl
      rw[e2]at hs ⊢;exact VN (hb pins s1 σ aA H0 aD H1 ρ I1 (r.keep x1) hs) (fun _ _ q=>q.from x1.bw) fun _ _ q=>q.from x1.bw
  . obtain⟨c,e1,x⟩:=q;have e2:cy t f g ρ=.exc c ρ:=by unfold cy;rw[e1]
    rw[e2];exact iV r x
theorem DR{pos:Pos} (h:Nu X cl e f):NM X cl [.Return (some e) pos] (bg f):=by
  refine⟨?_⟩;intro pins s σ aA H0 Hf H ρ I r tk hs;unfold bg at hs ⊢;have hf:f ρ≠.stuck:=fun z=>hs (by rw[z];rfl)
  refine XX (Zc (VN (h.run' pins s σ aA H0 Hf H ρ I r tk hf) (fun u s' q=>?_) fun u s' q=>?_))
  . obtain⟨p,v,ao,H',e1,I',rv,ex,rp⟩:=q;rw[e1];exact⟨p,v,σ,ao,H',rfl,I',r.ext.trans ex,rv,rp⟩
  . obtain⟨c,e1,x⟩:=q;rw[e1];exact iV r x
noncomputable def tL(y z:PySem.Str):PV->R PV
  | .str x=>if (y == z)=false/\x.length+(x.length+1)*z.length<=16777216 then .ok (.str (Txt.replace x y z)) else .stuck
  | _=>.stuck
noncomputable def ur(y z:PySem.Str)(a:FE):FE:=fun ρ=>(a ρ).bind (tL y z)
theorem DS{y z:PySem.Str}{j1 j2:Nat}{apos pos p1 p2:Pos} (ho:ME X cl o fo) (hg:mC "replace" "str.replace")
    (dE:backTo pos (starEach [.Constant (.str y) j1 p1,.Constant (.str z) j2 p2] X.env)=[(false,eval (.Constant (.str y) j1 p1) X.env),(false,eval (.Constant (.str z) j2 p2) X.env)]:=by rfl)
    (ht:eval (.Call (.Attribute o "replace" apos) [.Constant (.str y) j1 p1,.Constant (.str z) j2 p2] [] pos) X.env=(do
      let ov <- eval o X.env
      standAt apos.atName
      let (f,first) <- holding [ov] (getMethod ov "replace" pl)
      callWith pos f first (backTo pos (starEach [.Constant (.str y) j1 p1,.Constant (.str z) j2 p2] X.env)) (backToKw pos (keywordEach [] X.env))):=by rfl) :
    Nu X cl (.Call (.Attribute o "replace" apos) [.Constant (.str y) j1 p1,.Constant (.str z) j2 p2] [] pos) (ur y z fo):=by
  refine⟨?_⟩;intro pins s σ aA H0 Hf H ρ I r tk hs;unfold ur at hs ⊢;have hf:fo ρ≠.stuck:=fun z=>hs (by rw[z];rfl)
  refine WN (pl:=pl) (VN (wpAny_toks_of (n:=1) tk (ho pins s σ aA H0 Hf H ρ I r hf)) (fun u s1 q=>?_) fun u s1 q=>?_) ht
  . obtain⟨Sa,p,v,aD,H1,e1,I1,rv,x1,rp⟩:=q;rw[e1]at hs ⊢;have hs:tL y z p≠.stuck:=hs
    show wpAny _ _ _ _ (bW X cl pins σ Hf H (tL y z p)) s1;cases p<;>first
      | exact absurd rfl hs
      | skip
    rename_i xx _;obtain⟨ok,e2⟩:=cX hs;rw[show tL y z (.str xx)=_ from e2]
    show wpAny _ _ _ (fun a s2=>wpAny _ _ _ (eU X cl pins σ Hf H (tL y z (.str xx))) _ s2) _ s1;rw[show tL y z (.str xx)=_ from e2]
    cases rp;obtain⟨t,rfl⟩:=rv;refine hg ?_;rw[dE];refine W7 rfl ?_;refine Xe (WA (X0 (WA (X0 (WY ?_)))));refine SC.replace (Zg Sa) (Nat.succ_ne_zero _) (Wz (XW _)) ok.1 ok.2 fun t' k=>⟨_,.str _,aD,H1,rfl,I1.tok _,⟨_,rfl⟩,x1,.str _⟩
  . obtain⟨c,e1,x⟩:=q.2;exact⟨c,by rw[e1];rfl,x⟩
end
noncomputable def jQ(G:List PV->aI->RS PV):List PV->aI->RS PV:=fun ps S=>match G ps S with
  | .exc _ _=>.stuck
  | r=>r
theorem G2{G:List PV->aI->RS PV}(h:jQ G ps S≠.stuck):∃ p S',G ps S=.ok p S'/\jQ G ps S=.ok p S':=by
  unfold jQ at h ⊢;cases e:G ps S with
  | ok p S'=>exact⟨p,S',rfl,rfl⟩
  | exc c S'=>rw[e]at h;exact absurd rfl h
  | stuck=>rw[e]at h;exact absurd rfl h
section
variable {X:Cx}{cl:Nat->Addr}{pins:List (Addr×Obj)}{s:Shared}{σ:SV}{as bC:List Addr}{Hf H aD H1:Hp}{ρ:ay}{S:aI}{α:Type}
theorem Kb{G:List PV->aI->RS PV}{kZ:List Str}{k n:Nat}{qs:List PV}(hf:d9 X.prog X.w X.K X.mg X.base (hZ cl X.prog X.w) k f fd kZ (spS X.K cl n G))(hb:Binds X.K fd kZ [])(hr:bH k X.A)
    (I:Inv X pins σ H s) (st:bI X.K cl as Hf H S) (rv:Vals vs us) (aT:eV X.K cl as Hf vs qs) (hn:kZ.length=n) (hq:qs.length=n) (hs:jQ G qs S≠.stuck) :
    wpAny (model X.prog X.w) X.A (call (.ref f) us) (mY X cl pins σ as Hf (jQ G qs S)) (fA X cl pins σ as Hf (jQ G qs S)) s:=by
  obtain⟨p0,S0,e0,e1⟩:=G2 hs;rw[e1];have hv:vs.length=n:=by rw[aT.length,hq]
  have gy:spS X.K cl n G vs H (fun v H'=>∃ aJ ao,bE as Hf aJ ao/\bI X.K cl aJ ao H' S0/\Vr X.K cl aJ ao v p0) (fun u o H'=>False) :=
    ⟨hv,as,Hf,S,qs,st,aT,(by rw[e0];intro z;cases z),(fun p v S' aJ ao H' a b c d=>by rw[e0]at a;cases a;exact⟨aJ,ao,b,c,d⟩),fun c S' aJ ao H' a b d=>by rw[e0]at a;cases a⟩
  have lQ:(us ++[]).length=kZ.length:=by rw[Wj,<- rv.length,hv,hn]
  have gz:=hb s us I.dR lQ;rw[Wj]at gz;refine XS (XC (hf.run X.A X.stack s H ⟨us,[]⟩ us vs _ _ hr I.pO gz rv gy) fun r s' dz=>?_);cases r with
  | error e=>obtain⟨a,c,H',B,a0,rfl,ho,hg,un,bh,fl,mT,nd,z⟩:=dz;exact z.elim
  | ok fl =>
    cases fl with
    | ret u =>
      obtain⟨v,H',I',d0,aJ,ao,g,gx,rp⟩:=I.after dz;exact⟨p0,v,S0,aJ,ao,H',rfl,I',d0,g,gx,rp⟩
    | next=>exact False.elim dz
    | brk=>exact False.elim dz
    | cont=>exact False.elim dz
theorem BU{a b:Expr}{g:GE}{pos:Pos}(hm:behindInMarks op b=false) (key:∀(pins:List (Addr×Obj))(s:Shared)(σ:SV)(as:List Addr)(Hf H:Hp)(ρ:ay)(S:aI),Inv X pins σ H s->cj X.K cl as Hf H σ ρ S->g ρ S≠.stuck ->
    wpAny (model X.prog X.w) X.A (eval a X.env) (fun v s₁=>wpAny (model X.prog X.w) X.A (eval b X.env) (fun u s₂=>wpAny (model X.prog X.w) X.A (compareOp op v u)
      (mY X cl pins σ as Hf (g ρ S)) (fA X cl pins σ as Hf (g ρ S)) s₂) (fA X cl pins σ as Hf (g ρ S)) s₁) (fA X cl pins σ as Hf (g ρ S)) s):ST X cl (.Compare a [op] [b] pos) (f9 g):=by
  refine⟨fun pins s σ as Hf H ρ S I r hs=>?_⟩;unfold f9 at hs ⊢;have cu:g ρ S≠.stuck:=fun z=>hs (by rw[z];rfl)
  have hx:∀(u:Value)(s':Shared),fA X cl pins σ as Hf (g ρ S) u s'->fA X cl pins σ as Hf ((g ρ S).bind tB) u s':=fun u s' q=>kx q;refine XG (VN (key pins s σ as Hf H ρ S I r cu) (fun v s1 h1=>VN h1 (fun u s2 h2=>VN h2 (fun c s3 h3=>?_) hx) hx) hx) hm;obtain⟨p,v',S',aJ,ao,H',e1,I',rv,g',gx,rp⟩:=h3;rw[e1]at hs ⊢;have hs:tB p S'≠.stuck:=hs
  show wpAny _ _ _ (vv X cl pins σ as Hf (tB p S')) _ s3;unfold tB at hs ⊢;split at hs
  . exact absurd rfl hs
  . next hn =>
    rw[VQ hn];exact ft (je I' gx.sub rv (rp.rp (by simpa using hn)) (lV hs)) fun _ _ q=>(zG gx q).from g'
theorem kz{a b:Expr}{o:PV->PV->R PV}{pos:Pos}(rule:cO X cl (compareOp op) o)(ha:SE X cl a fa)(hb:SE X cl b fb)(hm:behindInMarks op b=false:=by with_unfolding_all rfl):ST X cl (.Compare a [op] [b] pos) (f9 (fR o fa fb)) :=
  BU hm fun pins s σ as Hf H ρ S I r hs=>two_s ha hb rule I r hs
theorem G3{a b:Expr}{pos:Pos}(ha:SE X cl a fa)(hb:SE X cl b fb)(hm:behindInMarks .NotIn b=false:=by with_unfolding_all rfl):ST X cl (.Compare a [.NotIn] [b] pos) (f9 (lG true fa fb)) :=
  BU hm fun pins s σ as Hf H ρ S I r hs=>GY true ha hb I r hs
theorem BV{st:List Stmt}:iL X cl st BK:=⟨fun _ _ _ _ _ _ _ _ _ _ h=>absurd rfl h⟩
theorem Qf{e:Expr}{es:List Expr}{apos pos:Pos}{k k' n:Nat}{G:List PV->aI->RS PV} (hF:ky X.prog X.w X.K X.mg X.base cl k c m n G) (hr:bH k' X.A)
    (ho:SE X cl o fo) (ha:SA X cl (e::es) g) (hk:k<=k':=by decide) (hl:(e::es).length=n:=by rfl)
    (dE:starEach (e::es) X.env=(false,eval e X.env)::starEach es X.env:=by rfl) (dD:(backTo pos (starEach es X.env)).any (·.1)=false:=by rfl)
    (ht:eval (.Call (.Attribute o m apos) (e::es) [] pos) X.env=(do
      let ov <- eval o X.env
      standAt apos.atName
      let (f,first) <- holding [ov] (getMethod ov m pl)
      callWith pos f first (backTo pos (starEach (e::es) X.env)) (backToKw pos (keywordEach [] X.env))):=by rfl) :
    SE X cl (.Call (.Attribute o m apos) (e::es) [] pos) (cI c m (jQ G) fo g):=by
  obtain⟨f,fd,ps,hc,hm,hn,hf,hb⟩:=hF.ex;refine⟨fun pins s σ as Hf H ρ S I r hs=>?_⟩;unfold cI at hs ⊢;refine WN (pl:=pl) (ho.run I r (.refl _ _) hs fun q v u s1 bC aD H1 S1 e1 I1 rv g1 r1 rp=>?_) ht;rw[e1]at hs ⊢;unfold vz at hs ⊢;split at hs
  . next hi =>
    rw[VP hi];obtain⟨i,fs,h1,h2,h3⟩:=qf hi;obtain⟨a,m8,rfl⟩:=iY rp h1;obtain rfl:u=Value.ref a:=rv;obtain⟨dx,Nz,k1,k2,k3⟩:=r1.bT.at_ i a _ m8 h2
    refine jW I1 k1 hc hm ((k3.look m).2 h3) ?_;refine Xd (first:=[.ref a]) (h₀:=X.base) I.ok.mod.mM hm.kp (ha.run pos I1 r1 g1 hs fun qs vs us s2 jT bG H2 S2 xk e2 I2 kR g2 r2 aT=>⟨I2.dR,?_⟩) dE dD;rw[e2]at hs ⊢;have lW:=g1.trans g2
    exact VN (Kb (us:=.ref a::us) (vs:=.ref a::vs) (qs:=q::qs) hf hb (hr.mono hk) I2 r2.bT (.cons rfl kR) (.cons (rp.keep g2) aT) hn (by rw[VT,xk,hl]) hs) (fun _ _ q=>q.from lW) fun _ _ q=>q.from lW
  . exact absurd rfl hs
end
section
variable {P:Program}{w:World}{K:PySem.W.Frag}{mg:Str->Option Value}{base:Heap}{cl:Nat->Addr}
theorem Mc{N:List Str}{elt iter:Expr}{px pos:Pos}{n:Nat}
    (i7:N.Nodup) (fQ:jN N x sc scope=true) (hn:N.length=n) (hi:MI (aV P w K mg base cl N qual scope f cd A outer s H E) cl (.Name x px) iter fa)
    (hb:∀ C s' H' fp,SE (eM (aV P w K mg base cl N qual scope f cd A outer s H E) N x sc (kr sc (aV P w K mg base cl N qual scope f cd A outer s H E).env) C s' H' fp) cl elt g)
    (ic:∀ y,foldedSetIterable iter (aV P w K mg base cl N qual scope f cd A outer s H E).env y=pure y:=by intro _;rfl) :
    SE (aV P w K mg base cl N qual scope f cd A outer s H E) cl (.ListComp elt [⟨.Name x px,iter,[],0⟩] sc pos) (iu n fa g):=xD rfl (fun ok=>nU fQ rfl (fun _ _ h _=>h) ok) hn (Nv i7 fQ) hi hb ic
theorem Kc{N Ns:List Str}{elt iter:Expr}{px pos:Pos}{n:Nat}
    (eN:sh N Ns sc=true) (fQ:jN Ns x sc scope=true) (hn:N.length=n) (hi:MI (aV P w K mg base cl N qual scope f cd A outer s H E) cl (.Name x px) iter fa)
    (hb:∀ C s' H' fp,SE (eM (aV P w K mg base cl N qual scope f cd A outer s H E) Ns x sc (kr sc (aV P w K mg base cl N qual scope f cd A outer s H E).env) C s' H' fp) cl elt g)
    (ic:∀ y,foldedSetIterable iter (aV P w K mg base cl N qual scope f cd A outer s H E).env y=pure y:=by intro _;rfl) :
    SE (aV P w K mg base cl N qual scope f cd A outer s H E) cl (.ListComp elt [⟨.Name x px,iter,[],0⟩] sc pos) (iu n fa g):=by
  have hd:=eN;unfold sh at hd;simp only[VR,Wo,W8]at hd;exact xD rfl (fun ok=>nU fQ hd.1.1 (vn eN) ok) hn (Nv hd.1.2 fQ) hi hb ic
theorem NN{X:Cx}{o e:Expr}{apos cpos:Pos}(h1:attributeBase o m X.env (eval o X.env)=eval o X.env:=by rfl) (h2:((backTo cpos (starEach [e] X.env)).all (fun x=>!x.1)&&(backToKw cpos (keywordEach [] X.env)).all (fun x=>x.1.isSome)
    && decide (([e]:List Expr).length+([]:List Keyword).length+(if ([]:List Keyword).isEmpty then 0 else 1)<30))=true:=by rfl) (h3:(apos.endLine == cpos.line)=true:=by rfl) (h4:backTo cpos (starEach [e] X.env)=[(false,eval e X.env)]:=by rfl):M1 X o m apos e cpos:=⟨h1,h2,h3,h4⟩
noncomputable def Ke(o:Obj)(l:List (Str×Int)):Bool:=(match o.cls with | .type "dict"=>true | _=>false)&&o.dict.isNone&&o.slots.isEmpty&&(match o.data with | .dict es _=>rl es.toList l | _=>false)
noncomputable def Kf(o:Obj):List Int:=match o.data with
  | .dict es _=>es.toList.map (·.hash)
  | _=>[]
theorem DT{o:Obj}{l:List (Str×Int)} (lk:K.lookup a=some o) (c:Ke o l=true) (hh:Kf o=l.map fun p=>uA w (.inr p.1)) (hs:(a == sysModules)=false) (nd:(l.map (·.1)).Nodup):uq P w K (.ref a) l:=by
  unfold Ke at c;simp only[VR]at c;obtain⟨⟨⟨c1,c2⟩,c3⟩,c4⟩:=c;cases hd:o.data with
  | dict es ep =>
    rw[hd]at c4;unfold Kf at hh;rw[hd]at hh;refine⟨⟨a,o,es,ep,rfl,lk,?_,by simpa using c2,by simpa using c3,hd,hh,c4,hs⟩,nd⟩;split at c1
    . next h=>exact h
    . cases c1
  | _=>rw[hd]at c4;cases c4
end
theorem kd_of{K:PySem.W.Frag}{mg:Str->Option Value}{h:Heap}{w:World}{a:Addr}{o:Obj}{l:List (Str×Int)}(X:K.In h)(G:h.Ns mainGlobals mg)(y:PySem.W.nsIn K mainGlobals x=some (some (.ref a)))(lk:K.lookup a=some o)(c:Ke o l=true)(hh:Kf o=l.map fun p=>uA w (.inr p.1))(hs:(a == sysModules)=false)(nd:(l.map (·.1)).Nodup) :
    ∃ u,mg x=some u/\∀ P,uq P w K u l:=⟨_,Xm X G y,fun _=>DT lk c hh hs nd⟩
end Mi
namespace Mi
open PySem
theorem fVar_e:ae i (x0::ρ0)=iP (x0::ρ0) i:=rfl
theorem getV_0:iP (o::r) 0=bY o:=rfl
theorem getV_s:iP (o::r) (n+1)=iP r n:=rfl
theorem asVal_int:bY (some (.int i))=.ok (.int i):=rfl
theorem asVal_bl:bY (some (.bl i))=.ok (.bl i):=rfl
theorem asVal_str:bY (some (.str i))=.ok (.str i):=rfl
theorem asVal_non:bY (some .aU)=.ok .aU:=rfl
theorem asVal_tup:bY (some (.tup l))=.ok (.tup l):=rfl
theorem asVal_lst:bY (some (.lst l))=.ok (.lst l):=rfl
theorem asVal_exc:bY (some (.exc c))=.ok (.exc c):=rfl
theorem asVal_dic0:bY (some .iO)=.ok .iO:=rfl
theorem fC_e:fC v (x0::ρ0)=.ok v:=rfl
theorem fBin_e:ag o a b (x0::ρ0)=(a (x0::ρ0)).bind fun x=>(b (x0::ρ0)).bind fun y=>o x y:=rfl
theorem fUn_e:gA o a (x0::ρ0)=(a (x0::ρ0)).bind o:=rfl
theorem oBool_e:gB (.bl b)=.ok b:=rfl
theorem fAnd_e:me a b (x0::ρ0)=(a (x0::ρ0)).bind fun x=>(gB x).bind fun c=>if c then b (x0::ρ0) else .ok (.bl false):=rfl
theorem fOr_e:EM a b (x0::ρ0)=(a (x0::ρ0)).bind fun x=>(gB x).bind fun c=>if c then .ok (.bl true) else b (x0::ρ0):=rfl
theorem fNot_e:pU a (x0::ρ0)=(a (x0::ρ0)).bind fun x=>(gB x).bind fun c=>.ok (.bl (!c)):=rfl
theorem fChain_e(o o':PV->PV->R PV)(a b c:FE)(x0:Option PV)(ρ0:ay):gf o o' a b c (x0::ρ0)=(a (x0::ρ0)).bind fun x=>(b (x0::ρ0)).bind fun y=>(o x y).bind fun r=>(gB r).bind fun k =>
  if k then (c (x0::ρ0)).bind fun z=>o' y z else .ok (.bl false):=rfl
theorem fIf_e:iQ t a b (x0::ρ0)=(t (x0::ρ0)).bind fun c=>if c then a (x0::ρ0) else b (x0::ρ0):=rfl
theorem aNil_e:ax (x0::ρ0)=.ok []:=rfl
theorem aCons_e:af a r (x0::ρ0)=(a (x0::ρ0)).bind fun x=>(r (x0::ρ0)).bind fun xs=>.ok (x::xs):=rfl
noncomputable def oH(xs:List PV):R PV:=if xs.length<=sizeLine then .ok (.tup xs) else .stuck
noncomputable def gD(xs:List PV):R PV:=if xs.length<=sizeLine then .ok (.lst xs) else .stuck
theorem wL:1000<=sizeLine:=by decide
theorem fTup_e:eT a (x0::ρ0)=(a (x0::ρ0)).bind oH:=rfl
theorem fLst_e:cB a (x0::ρ0)=(a (x0::ρ0)).bind gD:=rfl
theorem qi(n:Nat)(h:n<=1000):n<=sizeLine:=Wh h wL
theorem fCall_e:aF F a (x0::ρ0)=(a (x0::ρ0)).bind F:=rfl
theorem fIsinst_e:iH t a (x0::ρ0)=(a (x0::ρ0)).bind fun x=>match dG x t with | some b=>.ok (.bl b) | none=>.stuck:=rfl
theorem tVal_e:aP a (x0::ρ0)=(a (x0::ρ0)).bind eR:=rfl
theorem truth_bl:eR (.bl b)=.ok b:=rfl
theorem truth_int:eR (.int i)=.ok (i != 0):=rfl
theorem truth_non:eR .aU=.ok false:=rfl
theorem tAnd_e:yH a b (x0::ρ0)=(a (x0::ρ0)).bind fun c=>if c then b (x0::ρ0) else .ok false:=rfl
theorem tOr_e:nA a b (x0::ρ0)=(a (x0::ρ0)).bind fun c=>if c then .ok true else b (x0::ρ0):=rfl
theorem tNot_e:jc a (x0::ρ0)=(a (x0::ρ0)).bind fun c=>.ok (!c):=rfl
theorem oI(xs:List PV)(h:xs.length<=1000):oH xs=.ok (.tup xs):=VP (qi _ h)
theorem fm(xs:List PV)(h:xs.length<=1000):gD xs=.ok (.lst xs):=VP (qi _ h)
theorem mkTup_1(a:PV):oH [a]=.ok (.tup [a]):=oI _ (by simp)
theorem mkTup_2(a b:PV):oH [a,b]=.ok (.tup [a,b]):=oI _ (by simp)
theorem mkTup_3(a b c:PV):oH [a,b,c]=.ok (.tup [a,b,c]):=oI _ (by simp)
theorem mkTup_4(a b c d:PV):oH [a,b,c,d]=.ok (.tup [a,b,c,d]):=oI _ (by simp)
theorem mkLst_0:gD []=.ok (.lst []):=fm _ (by simp)
theorem mkLst_1(a:PV):gD [a]=.ok (.lst [a]):=fm _ (by simp)
theorem mkLst_2(a b:PV):gD [a,b]=.ok (.lst [a,b]):=fm _ (by simp)
theorem mkLst_3(a b c:PV):gD [a,b,c]=.ok (.lst [a,b,c]):=fm _ (by simp)
theorem mkLst_4(a b c d:PV):gD [a,b,c,d]=.ok (.lst [a,b,c,d]):=fm _ (by simp)
theorem mkLst_5(a b c d e:PV):gD [a,b,c,d,e]=.ok (.lst [a,b,c,d,e]):=fm _ (by simp)
theorem mkLst_6(a b c d e f:PV):gD [a,b,c,d,e,f]=.ok (.lst [a,b,c,d,e,f]):=fm _ (by simp)
theorem mkLst_7(a b c d e f g:PV):gD [a,b,c,d,e,f,g]=.ok (.lst [a,b,c,d,e,f,g]):=fm _ (by simp)
theorem mkLst_8(a b c d e f g h:PV):gD [a,b,c,d,e,f,g,h]=.ok (.lst [a,b,c,d,e,f,g,h]):=fm _ (by simp)
theorem asVal_none:bY none=.stuck:=rfl
noncomputable def Fe:List PV->R (List PV)
  | [.int hi]=>if cC hi then .ok (cV 0 hi 1) else .stuck
  | [.int lo,.int hi]=>if cC lo/\cC hi then .ok (cV lo hi 1) else .stuck
  | [.int lo,.int hi,.int st]=>if cC lo/\cC hi/\cC st/\st≠0 then .ok (cV lo hi st) else .stuck
  | _=>.stuck
def lg(i:Int):Prop:=cC i
theorem iRange_e(a:FA)(x0:Option PV)(ρ0:ay):eD a (x0::ρ0)=(a (x0::ρ0)).bind Fe:=by
  show R.bind _ _=R.bind _ _;congr 1
theorem rg_1(hi:Int)(h:lg hi):Fe [.int hi]=.ok (cV 0 hi 1):=VP h
theorem rg_2(lo hi:Int)(h:lg lo)(h2:lg hi):Fe [.int lo,.int hi]=.ok (cV lo hi 1):=VP ⟨h,h2⟩
theorem rg_3(lo hi st:Int)(h:lg lo)(h2:lg hi)(h3:lg st)(h0:st≠0):Fe [.int lo,.int hi,.int st]=.ok (cV lo hi st):=VP ⟨h,h2,h3,h0⟩
theorem bind_ok:(R.ok p).bind f=f p:=rfl
theorem bind_okl:(R.ok p).bind f=f p:=rfl
theorem bind_okb:(R.ok p).bind f=f p:=rfl
theorem bind_oko:(R.ok p).bind f=f p:=rfl
theorem bindl_ok:(R.ok p).bind f=f p:=rfl
theorem bindl_okl:(R.ok p).bind f=f p:=rfl
theorem bindb_ok:(R.ok p).bind f=f p:=rfl
theorem bindb_okb:(R.ok p).bind f=f p:=rfl
theorem bindo_ok:(R.ok p).bind f=f p:=rfl
theorem bind_exc:(R.exc c:R PV).bind f=.exc c:=rfl
theorem bind_excl:(R.exc c:R PV).bind f=.exc c:=rfl
theorem bind_excb:(R.exc c:R PV).bind f=.exc c:=rfl
theorem bindl_exc:(R.exc c:R (List PV)).bind f=.exc c:=rfl
theorem bindl_excl:(R.exc c:R (List PV)).bind f=.exc c:=rfl
theorem bindb_exc:(R.exc c:R Bool).bind f=.exc c:=rfl
theorem bindb_excb:(R.exc c:R Bool).bind f=.exc c:=rfl
noncomputable def fin:SR->R PV
  | .next _=>.ok .aU
  | .ret v=>.ok v
  | .exc c _=>.exc c
  | _=>.stuck
theorem fin_next:fin (.next ρ)=.ok .aU:=rfl
theorem fin_ret:fin (.ret v)=.ok v:=rfl
theorem fin_exc:fin (.exc c ρ)=.exc c:=rfl
theorem jh(n:Nat)(b:FS)(vs:List PV):a9 n b vs=fin (b (vs.map some++List.replicate (n - vs.length) none)):=by
  show(match b _ with | .next _=>_ | .ret v=>_ | .exc c _=>_ | _=>_)=fin (b _);rfl
theorem run_1(n:Nat)(b:FS)(a1:PV):a9 (n+1) b [a1]=fin (b (some a1::List.replicate n none)):=by
  rw[jh,VT];simp
theorem run_2(n:Nat)(b:FS)(a1 a2:PV):a9 (n+2) b [a1,a2]=fin (b (some a1::some a2::List.replicate n none)):=by
  rw[jh,VT];simp
theorem run_3(n:Nat)(b:FS)(a1 a2 a3:PV):a9 (n+3) b [a1,a2,a3]=fin (b (some a1::some a2::some a3::List.replicate n none)):=by
  rw[jh,VT];simp
theorem run_4(n:Nat)(b:FS)(a1 a2 a3 a4:PV):a9 (n+4) b [a1,a2,a3,a4]=fin (b (some a1::some a2::some a3::some a4::List.replicate n none)):=by
  rw[jh,VT];simp
theorem run_5(n:Nat)(b:FS)(a1 a2 a3 a4 a5:PV):a9 (n+5) b [a1,a2,a3,a4,a5]=fin (b (some a1::some a2::some a3::some a4::some a5::List.replicate n none)):=by
  rw[jh,VT];simp
theorem run_6(n:Nat)(b:FS)(a1 a2 a3 a4 a5 a6:PV):a9 (n+6) b [a1,a2,a3,a4,a5,a6]=fin (b (some a1::some a2::some a3::some a4::some a5::some a6::List.replicate n none)):=by
  rw[jh,VT];simp
noncomputable def p2(b:Int):Int:=2 ^ b.toNat
def fL(a b:Int):Prop:=nb a<=64\/nb b<=64\/nb a+nb b<=rZ
def j3(b:Int):Prop:=0<b/\nb b<=9000
def gW(b:Int):Prop:=0<b
def uv(a b:Int):Prop:=0<=b/\b<=1000000/\nb a<=64
def lh(a b:Int):Prop:=0<=b/\nb a+b<=134217728
def oJ(b:Int):Prop:=0<=b
noncomputable def powI(a b:Int):Int:=a ^ b.toNat
theorem oMul_i(a b:Int)(h:fL a b):ja (.int a) (.int b)=.ok (.int (a*b)):=VP h
theorem oDiv_i(a b:Int)(h:j3 b):oDiv (.int a) (.int b)=.ok (.int (a/b)):=VP h
theorem oMod_i(a b:Int)(h:gW b):oMod (.int a) (.int b)=.ok (.int (a%b)):=VP h
theorem oPow_i(a b:Int)(h:uv a b):yD (.int a) (.int b)=.ok (.int (powI a b)):=VP h
theorem oShl_i(a b:Int)(h:lh a b):jL (.int a) (.int b)=.ok (.int (a*p2 b)):=VP h
theorem oShr_i(a b:Int)(h:oJ b):pS (.int a) (.int b)=.ok (.int (a/p2 b)):=VP h
theorem oAdd_i:ar (.int a) (.int b)=.ok (.int (a+b)):=rfl
theorem oSub_i:fh (.int a) (.int b)=.ok (.int (a - b)):=rfl
theorem oNeg_i:jb (.int a)=.ok (.int (-a)):=rfl
theorem oAnd_i:pT (.int a) (.int b)=.ok (.int (Builtin.bitAnd a b)):=rfl
theorem oOr_i:Iv (.int a) (.int b)=.ok (.int (Builtin.bitOr a b)):=rfl
theorem oXor_i:C9 (.int a) (.int b)=.ok (.int (Builtin.bitXor a b)):=rfl
theorem cLt_i:pA (.int a) (.int b)=.ok (.bl (decide (a<b))):=rfl
theorem cLe_i:wX (.int a) (.int b)=.ok (.bl (decide (a<=b))):=rfl
theorem cGt_i:pB (.int a) (.int b)=.ok (.bl (decide (b<a))):=rfl
theorem cGe_i:EK (.int a) (.int b)=.ok (.bl (decide (b<=a))):=rfl
theorem cEq_i:bQ (.int a) (.int b)=.ok (.bl (decide (a=b))):=rfl
theorem cNe_i:hU (.int a) (.int b)=.ok (.bl (!decide (a=b))):=rfl
theorem cEq_b:bQ (.bl a) (.bl b)=.ok (.bl (a == b)):=rfl
theorem cNe_b:hU (.bl a) (.bl b)=.ok (.bl (!(a == b))):=rfl
theorem cEq_s:bQ (.str a) (.str b)=.ok (.bl (a == b)):=rfl
theorem cNe_s:hU (.str a) (.str b)=.ok (.bl (!(a == b))):=rfl
theorem cEq_tup:bQ (.tup a) (.tup b)=if (a.all (bD 5)&&b.all (bD 5)) then .ok (.bl (cY a b)) else .stuck:=rfl
theorem cNe_tup:hU (.tup a) (.tup b)=if (a.all (bD 5)&&b.all (bD 5)) then .ok (.bl (!cY a b)) else .stuck:=rfl
theorem cEq_lst:bQ (.lst a) (.lst b)=if (a.all (bD 5)&&b.all (bD 5)) then .ok (.bl (cY a b)) else .stuck:=rfl
theorem cNe_lst:hU (.lst a) (.lst b)=if (a.all (bD 5)&&b.all (bD 5)) then .ok (.bl (!cY a b)) else .stuck:=rfl
theorem cmpOkN_int(n:Nat)(i:Int):bD n (.int i)=true:=by cases n<;>rfl
theorem cmpOkN_bl(n:Nat)(i:Bool):bD n (.bl i)=true:=by cases n<;>rfl
theorem cmpOkN_str(n:Nat)(i:Str):bD n (.str i)=true:=by cases n<;>rfl
theorem cmpOkN_non(n:Nat):bD n .aU=true:=by cases n<;>rfl
theorem cmpOkN_tup:bD (n+1) (.tup l)=l.all (bD n):=rfl
theorem cmpOkN_lst:bD (n+1) (.lst l)=l.all (bD n):=rfl
theorem eqPVs_nil:cY [] []=true:=rfl
theorem eqPVs_cons:cY (x::xs) (y::ys)=(dO x y&&cY xs ys):=rfl
theorem eqPVs_cn:cY (x::xs) []=false:=rfl
theorem eqPVs_nc:cY [] (x::xs)=false:=rfl
theorem eqPV_i:dO (.int a) (.int b)=decide (a=b):=rfl
theorem eqPV_b:dO (.bl a) (.bl b)=(a == b):=rfl
theorem eqPV_s:dO (.str a) (.str b)=(a == b):=rfl
theorem eqPV_t:dO (.tup a) (.tup b)=cY a b:=rfl
theorem eqPV_l:dO (.lst a) (.lst b)=cY a b:=rfl
theorem eqPV_n:dO .aU .aU=true:=rfl
theorem bLen_tup:fE [.tup l]=.ok (.int l.length):=rfl
theorem bLen_lst:fE [.lst l]=.ok (.int l.length):=rfl
theorem bAbs_i:uN [.int i]=.ok (.int (if i<0 then -i else i)):=rfl
theorem bMin_i:PS [.int i,.int j]=.ok (.int (if j<i then j else i)):=rfl
theorem bMax_i:yG [.int i,.int j]=.ok (.int (if j>i then j else i)):=rfl
theorem bInt_i:uO [.int i]=.ok (.int i):=rfl
theorem bInt_b:uO [.bl b]=.ok (.int (if b then 1 else 0)):=rfl
theorem bBitLength_i:jX (.int i)=.ok (.int (nb i)):=rfl
theorem bList_l:EL [.lst l]=.ok (.lst l):=rfl
theorem bList_t:EL [.tup l]=.ok (.lst l):=rfl
theorem bTuple_l:AL [.lst l]=.ok (.tup l):=rfl
theorem bTuple_t:AL [.tup l]=.ok (.tup l):=rfl
theorem isTy_int_i:dG (.int i) .int=some true:=rfl
theorem isTy_int_b:dG (.int i) .bool=some false:=rfl
theorem isTy_int_s:dG (.int i) .str=some false:=rfl
theorem isTy_int_t:dG (.int i) .tuple=some false:=rfl
theorem isTy_bl_i:dG (.bl i) .int=some true:=rfl
theorem isTy_bl_b:dG (.bl i) .bool=some true:=rfl
theorem isTy_bl_t:dG (.bl i) .tuple=some false:=rfl
theorem isTy_bl_s:dG (.bl i) .str=some false:=rfl
theorem isTy_tup_t:dG (.tup l) .tuple=some true:=rfl
theorem isTy_tup_i:dG (.tup l) .int=some false:=rfl
theorem isTy_tup_s:dG (.tup l) .str=some false:=rfl
theorem isTy_lst_i:dG (.lst l) .int=some false:=rfl
theorem isTy_lst_l:dG (.lst l) .list=some true:=rfl
theorem isTy_lst_t:dG (.lst l) .tuple=some false:=rfl
theorem isTy_lst_s:dG (.lst l) .str=some false:=rfl
theorem isTy_str_i:dG (.str x) .int=some false:=rfl
theorem isTy_str_s:dG (.str x) .str=some true:=rfl
theorem isTy_str_t:dG (.str x) .tuple=some false:=rfl
theorem isTy_non(t:Ty):dG .aU t=some false:=by cases t<;>rfl
theorem isTy_dic_i:dG .iO .int=some false:=rfl
theorem isTy_dic_s:dG .iO .str=some false:=rfl
theorem kA{l:List PV}{i:Int}{v:PV}(h0:0<=i)(h:l[i.toNat]?=some v):aB (.lst l) (.int i)=.ok v:=by
  have hl:i.toNat<l.length:=(VS.mp h).1;show il l i=_
  unfold il nz;rw[VP h0,VP (by omega)];simp[h]
theorem n6{l:List PV}{i:Int}{v:PV}(h0:0<=i)(h:l[i.toNat]?=some v):aB (.tup l) (.int i)=.ok v:=kA h0 h
theorem oItem_t0(x:PV)(l:List PV):aB (.tup (x::l)) (.int 0)=.ok x:=n6 (by decide) rfl
theorem oItem_t1(x y:PV)(l:List PV):aB (.tup (x::y::l)) (.int 1)=.ok y:=n6 (by decide) rfl
theorem oItem_t2(x y z:PV)(l:List PV):aB (.tup (x::y::z::l)) (.int 2)=.ok z:=n6 (by decide) rfl
theorem oItem_l0(x:PV)(l:List PV):aB (.lst (x::l)) (.int 0)=.ok x:=kA (by decide) rfl
theorem oItem_l1(x y:PV)(l:List PV):aB (.lst (x::y::l)) (.int 1)=.ok y:=kA (by decide) rfl
theorem oItem_l2(x y z:PV)(l:List PV):aB (.lst (x::y::z::l)) (.int 2)=.ok z:=kA (by decide) rfl
theorem sNext_e:bM (x0::ρ0)=.next (x0::ρ0):=rfl
theorem sSeq_e:aH f g (x0::ρ0)=match f (x0::ρ0)with | .next ρ'=>g ρ' | o=>o:=rfl
theorem ofR_ok:jS (.ok v) ρ k=k v:=rfl
theorem ofR_exc:jS (.exc c) ρ k=.exc c ρ:=rfl
theorem sRet_e:bg a (x0::ρ0)=jS (a (x0::ρ0)) (x0::ρ0) fun v=>.ret v:=rfl
theorem sExpr_e:d7 a (x0::ρ0)=jS (a (x0::ρ0)) (x0::ρ0) fun _=>.next (x0::ρ0):=rfl
theorem sSet_e:bf i a (x0::ρ0)=jS (a (x0::ρ0)) (x0::ρ0) fun v=>.next ((x0::ρ0).set i (some v)):=rfl
theorem sIf_e:cy t f g (x0::ρ0)=match t (x0::ρ0)with | .ok c=>if c then f (x0::ρ0) else g (x0::ρ0) | .exc c=>.exc c (x0::ρ0) | .stuck=>.stuck:=rfl
theorem sFor_e:lA i it body (x0::ρ0)=match it (x0::ρ0)with | .ok l=>forL i body l (x0::ρ0) | .exc c=>.exc c (x0::ρ0) | .stuck=>.stuck:=rfl
theorem sBreak_e:Iw (x0::ρ0)=.brk (x0::ρ0):=rfl
theorem sCont_e:LV (x0::ρ0)=.cont (x0::ρ0):=rfl
theorem sRetN_e:LW (x0::ρ0)=.ret .aU:=rfl
theorem sRaise_e:Iy c (x0::ρ0)=.exc c (x0::ρ0):=rfl
theorem iSeq_e:lB a (x0::ρ0)=(a (x0::ρ0)).bind fun x=>match x with | .lst l=>.ok l | .tup l=>.ok l | _=>.stuck:=rfl
theorem forL_nil:forL i body [] ρ=.next ρ:=rfl
theorem forL_cons(i:Nat)(body:FS)(x:PV)(l:List PV)(ρ:ay):forL i body (x::l) ρ=match body (ρ.set i (some x))with
    | .next ρ'=>forL i body l ρ'
    | .cont ρ'=>forL i body l ρ'
    | .brk ρ'=>.next ρ'
    | o=>o:=rfl
theorem oNone_e:mf (x0::ρ0)=.ok none:=rfl
theorem oSome_e:jr a (x0::ρ0)=(a (x0::ρ0)).bind fun x=>match x with | .int i=>.ok (some i) | _=>.stuck:=rfl
theorem fCut_e:mh a l h (x0::ρ0)=(a (x0::ρ0)).bind fun x=>(l (x0::ρ0)).bind fun lo=>(h (x0::ρ0)).bind fun hi=>lz x lo hi:=rfl
theorem oCut_lst:lz (.lst l) lo hi=.ok (.lst (jM l lo hi)):=rfl
theorem isSmallI_i:eB (.ok (.int i))=decide (i.natAbs<18446744073709551616):=rfl
theorem sRaiseT_e:cJ k c (x0::ρ0)=if k (x0::ρ0) then .exc c (x0::ρ0) else .stuck:=rfl
theorem sTryAs_e(f:FS)(ks:List Nat)(d n x:Nat)(x0:Option PV)(ρ0:ay):Iz f ks d n x (x0::ρ0)=match f (x0::ρ0)with
  | .exc c ρ'=>if ks.contains c&&under c d then .next (((ρ'.set n (some (.exc c))).set x (some (.exc c))).set n none) else .stuck
  | o=>o:=rfl
theorem fIsExc_e(ks:List Nat)(d:Nat)(a:FE)(x0:Option PV)(ρ0:ay):gh ks d a (x0::ρ0)=(a (x0::ρ0)).bind fun x=>match x with
  | .exc c=>if ks.contains c then .ok (.bl (under c d)) else .stuck
  | .aU=>.ok (.bl false)
  | _=>.stuck:=rfl
theorem fIsVal_e(ks:List Nat)(a:FE)(x0:Option PV)(ρ0:ay):qF ks a (x0::ρ0)=(a (x0::ρ0)).bind fun x=>match x with
  | .exc c=>if ks.contains c then .ok (.bl true) else .stuck
  | .aU=>.ok (.bl false)
  | _=>.stuck:=rfl
theorem el_1(α:Type)(a b:α):(if (true:Bool)=true then a else b)=a:=rfl
theorem el_2(α:Type)(a b:α):(if (false:Bool)=true then a else b)=b:=rfl
theorem el_3:∀(α:Type)(a b:α),(if True then a else b)=a:=fun _ _ _=>VP trivial
theorem el_4:∀(α:Type)(a b:α),(if False then a else b)=b:=fun _ _ _=>VQ id
theorem el_5:decide True=true:=by decide
theorem el_6:decide False=false:=by decide
theorem el_7:(!true)=false:=rfl
theorem el_8:(!false)=true:=rfl
theorem el_9:∀ b,(true&&b)=b:=fun b=>by cases b<;>rfl
theorem el_10:∀ b,(false&&b)=false:=fun b=>by cases b<;>rfl
theorem el_11:∀ b,(b&&true)=b:=fun b=>by cases b<;>rfl
theorem el_12:∀ b,(b&&false)=false:=fun b=>by cases b<;>rfl
theorem el_13:∀ b,(true||b)=true:=fun b=>by cases b<;>rfl
theorem el_14:∀ b,(false||b)=b:=fun b=>by cases b<;>rfl
theorem el_15:∀ b:Bool,(b == b)=true:=fun b=>by cases b<;>rfl
theorem el_16(x y:Option PV)(l:ay):(x::l).set 0 y=y::l:=rfl
theorem el_17(x y:Option PV)(l:ay)(n:Nat):(x::l).set (n+1) y=x::l.set n y:=rfl
theorem el_18:(List.replicate 0 (none:Option PV))=[]:=rfl
theorem el_19(n:Nat):(List.replicate (n+1) (none:Option PV))=none::List.replicate n none:=rfl
theorem el_20(x:PV)(l:List PV):(x::l).map some=some x::l.map some:=rfl
theorem el_21:([]:List PV).map some=[]:=rfl
theorem el_22(x:Option PV)(l m:ay):(x::l)++m=x::(l++m):=rfl
theorem el_23(l:ay):[]++l=l:=rfl
theorem el_24(x:PV)(l:List PV):(x::l).length=l.length+1:=rfl
theorem el_25:([]:List PV).length=0:=rfl
theorem el_26(p:PV->Bool)(x:PV)(l:List PV):(x::l).all p=(p x&&l.all p):=rfl
theorem el_27(p:PV->Bool):([]:List PV).all p=true:=rfl
theorem el_28(p:PV->Bool)(x:PV)(l:List PV):(x::l).any p=(p x||l.any p):=rfl
theorem el_29(p:PV->Bool):([]:List PV).any p=false:=rfl
def Goes(I:ay->Prop)(r:SR):Prop:=∃ ρ,r=.next ρ/\I ρ
theorem sk{I:Nat->ay->Prop}{i:Nat}{body:FS}:∀{l:List PV}{k:Nat}{ρ:ay},I k ρ->(∀(j:Nat)(x:PV) ρ,l[j]?=some x->I (k+j) ρ->Goes (I (k+j+1)) (body (ρ.set i (some x))))->Goes (I (k+l.length)) (forL i body l ρ)
  | [],k,ρ,h,_=>⟨ρ,rfl,h⟩
  | x::l,k,ρ,h,s=>by
    obtain⟨ρ1,e1,h1⟩:=s 0 x ρ rfl h;obtain⟨ρ2,e2,h2⟩:=sk (I:=I) (i:=i) (body:=body) (l:=l) (k:=k+1) h1 fun j y ρ hj hI=>by
      have:=s (j+1) y ρ hj (by rw[show k+(j+1)=k+1+j from by omega];exact hI)
      rw[show k+(j+1)+1=k+1+j+1 from by omega]at this;exact this
    exact⟨ρ2,by rw[forL_cons,e1];exact e2,by rw[VT,show k+(l.length+1)=k+1+l.length from by omega];exact h2⟩
theorem tM{a:Int}{k:Nat}:nb a<=k↔a.natAbs<2 ^ k:=by
  show(if a == 0 then 0 else a.natAbs.log2+1)<=k↔_;by_cases h:a=0
  . subst h;simp;exact Nat.two_pow_pos k
  . have h0:a.natAbs≠0:=by omega
    rw[VQ (by simpa using h)];rw[<- abq h0];omega
theorem dP{a:Int}{k:Nat}(h:a.natAbs<2 ^ k):nb a<=k:=tM.mpr h
theorem uw{a:Int}{k:Nat}(h:nb a<=k):a.natAbs<2 ^ k:=tM.mp h
theorem G4{a b:Int}(h1 : -18446744073709551616<b)(h2:b<18446744073709551616):fL a b:=.inr (.inl (dP (k:=64) (by omega)))
theorem oK{a b:Int}(h1 : -18446744073709551616<a)(h2:a<18446744073709551616):fL a b:=.inl (dP (k:=64) (by omega))
theorem iC{m n:Nat} (ha:nb a<=m) (hb:nb b<=n) (h:m+n<=134217728):fL a b:=.inr (.inr (by show _<=134217728;omega))
theorem G5{b:Int}(h0:0<b)(h:b<18446744073709551616):j3 b:=⟨h0,Wh (dP (k:=64) (by omega)) (by decide)⟩
theorem kB{b:Int}{n:Nat}(h0:0<b)(h:nb b<=n)(hn:n<=9000):j3 b:=⟨h0,Wh h hn⟩
theorem ji{a b:Int}{n:Nat}(h0:0<=b)(ha:nb a<=n)(h:n+b<=134217728):lh a b:=⟨h0,by omega⟩
theorem G6{a b:Int}(h0:0<=b)(h1:b<=1000000)(h : -18446744073709551616<a)(h2:a<18446744073709551616):uv a b:=⟨h0,h1,dP (k:=64) (by omega)⟩
theorem G7{b:Int}(h:0<b):gW b:=h
theorem G8{b:Int}(h:0<=b):oJ b:=h
theorem n7{b:Int}(h0 : -1152921504606846976<=b)(h:b<1152921504606846976):lg b:=by
  have e:(2:Int) ^ 60=1152921504606846976:=by decide
  show -(2 ^ 60)<=b/\b<2 ^ 60;rw[e];exact⟨h0,h⟩
theorem ow_1:∀(a b:Int)(h1 : -18446744073709551616<b)(h2:b<18446744073709551616),fL a b:=fun _ _=>G4
theorem ow_2:∀(a b:Int)(h1 : -18446744073709551616<a)(h2:a<18446744073709551616),fL a b:=fun _ _=>oK
theorem ow_3:∀(b:Int)(h0:0<b)(h:b<18446744073709551616),j3 b:=fun _=>G5
theorem ow_4:∀(a b:Int)(h0:0<=b)(h1:b<=1000000)(h : -18446744073709551616<a)(h2:a<18446744073709551616),uv a b:=fun _ _=>G6
theorem ow_5:∀(b:Int)(h:0<b),gW b:=fun _=>G7
theorem ow_6:∀(b:Int)(h:0<=b),oJ b:=fun _=>G8
theorem ow_7:∀(b:Int)(h0 : -1152921504606846976<=b)(h:b<1152921504606846976),lg b:=fun _=>n7
theorem n9(n:Nat):p2 (n:Int)=2 ^ n:=rfl
theorem aY(b:Int):0<p2 b:=abo (by decide)
theorem zM:p2 1=2:=rfl
theorem gM{a b:Int}(ha:0<=a)(hb:0<=b):p2 (a+b)=p2 a*p2 b:=by
  obtain⟨m,rfl⟩:=XZ ha;obtain⟨n,rfl⟩:=XZ hb;have e:((m:Int)+(n:Int))=((m+n:Nat):Int):=by omega
  rw[e,n9,n9,n9,Int.pow_add]
theorem fq{a:Int}(ha:0<=a):p2 (a+1)=2*p2 a:=by rw[gM ha (by decide),zM,Wk]
theorem lj{a b:Int}(ha:0<=a)(h:a<=b):p2 a<=p2 b:=by
  have e:b=a+(b - a):=by omega
  rw[e,gM ha (by omega)];have h1:=aY a
  have h2:=aY (b - a);have:p2 a*1<=p2 a*p2 (b - a):=WX (by omega) (by omega)
  omega
theorem BW{b:Int}(hb:0<=b):(p2 b).natAbs=2 ^ b.toNat:=by
  show((2:Int) ^ b.toNat).natAbs=_;rw[Int.natAbs_pow];rfl
theorem zN{b:Int}(hb:0<=b):nb (p2 b)=b.toNat+1:=by
  have h0:p2 b≠0:=by have:=aY b;omega
  show(if p2 b == 0 then 0 else (p2 b).natAbs.log2+1)=_;rw[VQ (by simpa using h0),BW hb,Nat.log2_two_pow]
theorem oa(a b:Int):nb (a*b)<=nb a+nb b:=by
  refine dP ?_;have h1:=uw (VU (nb a))
  have h2:=uw (VU (nb b));rw[Int.natAbs_mul,abr];exact Nat.mul_lt_mul'' h1 h2
theorem rn(a:Int):nb (-a)=nb a:=by
  show(if -a == 0 then 0 else (-a).natAbs.log2+1)=(if a == 0 then 0 else a.natAbs.log2+1);rw[Int.natAbs_neg];by_cases h:a=0
  . subst h;rfl
  . have h2 : -a≠0:=by omega
    rw[VQ (by simpa using h2),VQ (by simpa using h)]
theorem vE{a:Int}(h:a≠0):1<=nb a:=by
  show 1<=(if a == 0 then 0 else a.natAbs.log2+1);rw[VQ (by simpa using h)];omega
noncomputable def kD:ZR->RS PV
  | .next _ S'=>.ok .aU S'
  | .ret v S'=>.ok v S'
  | .exc c _ S'=>.exc c S'
  | _=>.stuck
theorem kE(n:Nat)(b:GS)(vs:List PV)(S:aI):cG n b vs S=kD (b (vs.map some++List.replicate (n - vs.length) none) S):=by
  show(match b _ S with | .next _ S'=>_ | .ret v S'=>_ | .exc c _ S'=>_ | _=>_)=kD (b _ S);rfl
theorem runZ_1(n:Nat)(b:GS)(S:aI)(a1:PV):cG (n+1) b [a1] S=kD (b (some a1::List.replicate n none) S):=by
  rw[kE,VT];simp
theorem runZ_2(n:Nat)(b:GS)(S:aI)(a1 a2:PV):cG (n+2) b [a1,a2] S=kD (b (some a1::some a2::List.replicate n none) S):=by
  rw[kE,VT];simp
theorem runZ_3(n:Nat)(b:GS)(S:aI)(a1 a2 a3:PV):cG (n+3) b [a1,a2,a3] S=kD (b (some a1::some a2::some a3::List.replicate n none) S):=by
  rw[kE,VT];simp
theorem runZ_4(n:Nat)(b:GS)(S:aI)(a1 a2 a3 a4:PV):cG (n+4) b [a1,a2,a3,a4] S=kD (b (some a1::some a2::some a3::some a4::List.replicate n none) S):=by
  rw[kE,VT];simp
theorem runZ_5(n:Nat)(b:GS)(S:aI)(a1 a2 a3 a4 a5:PV):cG (n+5) b [a1,a2,a3,a4,a5] S=kD (b (some a1::some a2::some a3::some a4::some a5::List.replicate n none) S):=by
  rw[kE,VT];simp
noncomputable def NO:RS PV->GE->ay->RS PV
  | .ok p S1,b,ρ=>(b ρ S1).bind (JR p)
  | .exc c S,_,_=>.exc c S
  | .stuck,_,_=>.stuck
noncomputable def NP(o:PV->PV->R PV):RS PV->GE->ay->RS PV
  | .ok p S1,b,ρ=>(b ρ S1).bind (tw o p)
  | .exc c S,_,_=>.exc c S
  | .stuck,_,_=>.stuck
noncomputable def NQ:RS PV->RS PV
  | .ok p S=>.ok (.bl (isNone p)) S
  | .exc c S=>.exc c S
  | .stuck=>.stuck
noncomputable def NR:RS Bool->RS Bool
  | .ok b S=>.ok (!b) S
  | .exc c S=>.exc c S
  | .stuck=>.stuck
noncomputable def BX(x:PV):RS (List PV)->RS (List PV)
  | .ok xs S=>.ok (x::xs) S
  | .exc c S=>.exc c S
  | .stuck=>.stuck
noncomputable def Kg:RS PV->GA->ay->RS (List PV)
  | .ok x S1,r,ρ=>BX x (r ρ S1)
  | .exc c S,_,_=>.exc c S
  | .stuck,_,_=>.stuck
noncomputable def Kh(G:List PV->aI->RS PV)(p:PV):RS (List PV)->RS PV
  | .ok ps S=>G (p::ps) S
  | .exc c S=>.exc c S
  | .stuck=>.stuck
noncomputable def xG(ρ:ay):RS PV->ZR
  | .ok v S=>.ret v S
  | .exc c S=>.exc c ρ S
  | .stuck=>.stuck
noncomputable def Ki(ρ:ay):RS PV->ZR
  | .ok _ S=>.next ρ S
  | .exc c S=>.exc c ρ S
  | .stuck=>.stuck
noncomputable def Kj(i:Nat)(ρ:ay):RS PV->ZR
  | .ok v S=>.next (ρ.set i (some v)) S
  | .exc c S=>.exc c ρ S
  | .stuck=>.stuck
noncomputable def Ff:RS Bool->GS->GS->ay->ZR
  | .ok true S,f,_,ρ=>f ρ S
  | .ok false S,_,g,ρ=>g ρ S
  | .exc c S,_,_,ρ=>.exc c ρ S
  | .stuck,_,_,_=>.stuck
noncomputable def Fg(c:Nat)(f:Str)(ρ:ay)(q:PV):RS PV->ZR
  | .ok p S=>iB c f ρ q p S
  | .exc c S=>.exc c ρ S
  | .stuck=>.stuck
noncomputable def NT(c:Nat)(f:Str):RS PV->GE->ay->ZR
  | .ok q S,o,ρ=>Fg c f ρ q (o ρ S)
  | .exc c S,_,ρ=>.exc c ρ S
  | .stuck,_,_=>.stuck
noncomputable def Fh(ρ:ay)(q p:PV):RS PV->ZR
  | .ok j S=>DF ρ q p j S
  | .exc c S=>.exc c ρ S
  | .stuck=>.stuck
noncomputable def Fi(q:PV):RS PV->GE->ay->ZR
  | .ok p S,k,ρ=>Fh ρ q p (k ρ S)
  | .exc c S,_,ρ=>.exc c ρ S
  | .stuck,_,_=>.stuck
noncomputable def NU:RS PV->GE->GE->ay->ZR
  | .ok q S,o,k,ρ=>Fi q (o ρ S) k ρ
  | .exc c S,_,_,ρ=>.exc c ρ S
  | .stuck,_,_,_=>.stuck
noncomputable def NV(is:List Nat)(ρ:ay):RS PV->ZR
  | .ok v S=>E2 is ρ v S
  | .exc c S=>.exc c ρ S
  | .stuck=>.stuck
noncomputable def BY:ZR->GS->ZR
  | .next ρ' S',g=>g ρ' S'
  | o,_=>o
noncomputable def Fj(ks:List Nat)(d n x:Nat):ZR->ZR
  | .exc c ρ' S'=>if ks.contains c&&under c d then .next (((ρ'.set n (some (.exc c))).set x (some (.exc c))).set n none) S' else .stuck
  | o=>o
noncomputable def NW(i:Nat)(body:GS)(ρ:ay)(S:aI):R (List PV)->ZR
  | .ok l=>dB i body l ρ S
  | .exc c=>.exc c ρ S
  | .stuck=>.stuck
noncomputable def NX(S:aI):R PV->RS PV
  | .ok (.lst l)=>.ok (aR S.length) (S ++[.ls l])
  | .exc c=>.exc c S
  | _=>.stuck
noncomputable def Kk(n:Nat):RS PV->RS PV
  | .ok .aU S'=>.ok (aR n) S'
  | .exc d S'=>.exc d S'
  | _=>.stuck
noncomputable def BZ(i:Nat)(g:GS)(r:List PV):ZR->ZR
  | .next ρ' S'=>dB i g r ρ' S'
  | .cont ρ' S'=>dB i g r ρ' S'
  | .brk ρ' S'=>.next ρ' S'
  | o=>o
theorem oM(i:Nat)(body:GS)(x:PV)(r:List PV)(ρ:ay)(S:aI):dB i body (x::r) ρ S=BZ i body r (body (ρ.set i (some x)) S):=by
  show(match body (ρ.set i (some x)) S with | .next ρ' S'=>_ | .cont ρ' S'=>_ | .brk ρ' S'=>_ | o=>o)=_;cases body (ρ.set i (some x)) S<;>rfl
theorem es_29:∀(a b:GE)(x0:Option PV)(ρ0:ay)(S:aI),E0 a b (x0::ρ0) S=NO (a (x0::ρ0) S) b (x0::ρ0):=by
  intro a b x0 ρ0 S;unfold E0;cases a (x0::ρ0) S<;>rfl
theorem es_31:∀(o:PV->PV->R PV)(a b:GE)(x0:Option PV)(ρ0:ay)(S:aI),fR o a b (x0::ρ0) S=NP o (a (x0::ρ0) S) b (x0::ρ0):=by
  intro o a b x0 ρ0 S;unfold fR;cases a (x0::ρ0) S<;>rfl
theorem es_33:∀(a:GE)(x0:Option PV)(ρ0:ay)(S:aI),JU a (x0::ρ0) S=NQ (a (x0::ρ0) S):=by
  intro a x0 ρ0 S;unfold JU;cases a (x0::ρ0) S<;>rfl
theorem es_40:∀(a:GT)(x0:Option PV)(ρ0:ay)(S:aI),kY a (x0::ρ0) S=NR (a (x0::ρ0) S):=by
  intro a x0 ρ0 S;unfold kY;cases a (x0::ρ0) S<;>rfl
theorem es_43:∀(a:GE)(r:GA)(x0:Option PV)(ρ0:ay)(S:aI),aN a r (x0::ρ0) S=Kg (a (x0::ρ0) S) r (x0::ρ0):=by
  intro a r x0 ρ0 S;unfold aN;cases a (x0::ρ0) S with | ok p S1=>(show(r (x0::ρ0) S1).bind (fun xs S2=>RS.ok (p::xs) S2)=BX p (r (x0::ρ0) S1);cases r (x0::ρ0) S1<;>rfl) | exc c S1=>rfl | stuck=>rfl
theorem es_51:∀(f:FE)(x0:Option PV)(ρ0:ay)(S:aI),DI f (x0::ρ0) S=NX S (f (hide (x0::ρ0))):=by
  intro f x0 ρ0 S;show DI f (x0::ρ0) S=_;unfold DI;cases f (hide (x0::ρ0))with | ok p=>cases p<;>rfl | exc c=>rfl | stuck=>rfl
theorem es_57:∀(c:Nat)(G:List PV->aI->RS PV)(ds ps:List PV)(S:aI),BL c G ds ps S=Kk S.length (G (aR S.length::(ps++ds)) (S ++[.obj c []])):=by
  intro c G ds ps S;unfold BL;cases G (aR S.length::(ps++ds)) (S ++[.obj c []])with | ok p S'=>cases p<;>rfl | exc c S'=>rfl | stuck=>rfl
theorem es_60:∀(f g:GS)(x0:Option PV)(ρ0:ay)(S:aI),bF f g (x0::ρ0) S=BY (f (x0::ρ0) S) g:=by
  intro f g x0 ρ0 S;unfold bF;cases f (x0::ρ0) S<;>rfl
theorem es_64:∀(a:GE)(x0:Option PV)(ρ0:ay)(S:aI),eC a (x0::ρ0) S=xG (x0::ρ0) (a (x0::ρ0) S):=by
  intro a x0 ρ0 S;unfold eC;cases a (x0::ρ0) S<;>rfl
theorem es_67:∀(a:GE)(x0:Option PV)(ρ0:ay)(S:aI),gC a (x0::ρ0) S=Ki (x0::ρ0) (a (x0::ρ0) S):=by
  intro a x0 ρ0 S;unfold gC;cases a (x0::ρ0) S<;>rfl
theorem es_70:∀(i:Nat)(a:GE)(x0:Option PV)(ρ0:ay)(S:aI),gL i a (x0::ρ0) S=Kj i (x0::ρ0) (a (x0::ρ0) S):=by
  intro i a x0 ρ0 S;unfold gL;cases a (x0::ρ0) S<;>rfl
theorem es_75:∀(t:GT)(f g:GS)(x0:Option PV)(ρ0:ay)(S:aI),fX t f g (x0::ρ0) S=Ff (t (x0::ρ0) S) f g (x0::ρ0):=by
  intro t f g x0 ρ0 S;unfold fX;cases t (x0::ρ0) S with | ok b S1=>cases b<;>rfl | exc c S1=>rfl | stuck=>rfl
theorem es_79:∀(c:Nat)(f:Str)(o v:GE)(x0:Option PV)(ρ0:ay)(S:aI),gT c f o v (x0::ρ0) S=NT c f (v (x0::ρ0) S) o (x0::ρ0):=by
  intro c f o v x0 ρ0 S;unfold gT;cases v (x0::ρ0) S with | ok q S1=>(show ig (o (x0::ρ0) S1) _ _=Fg c f _ q _;cases o (x0::ρ0) S1<;>rfl) | exc c S1=>rfl | stuck=>rfl
theorem es_82:∀(o k v:GE)(x0:Option PV)(ρ0:ay)(S:aI),E1 o k v (x0::ρ0) S=NU (v (x0::ρ0) S) o k (x0::ρ0):=by
  intro o k v x0 ρ0 S;unfold E1;cases v (x0::ρ0) S with | ok q S1=>(show ig (o (x0::ρ0) S1) _ _=Fi q _ k _;cases o (x0::ρ0) S1 with | ok p S2=>(show ig (k (x0::ρ0) S2) _ _=Fh _ q p _;cases k (x0::ρ0) S2<;>rfl) | exc c S2=>rfl | stuck=>rfl) | exc c S1=>rfl | stuck=>rfl
theorem es_86:∀(is:List Nat)(a:GE)(x0:Option PV)(ρ0:ay)(S:aI),j8 is a (x0::ρ0) S=NV is (x0::ρ0) (a (x0::ρ0) S):=by
  intro is a x0 ρ0 S;unfold j8;cases a (x0::ρ0) S<;>rfl
theorem es_88:∀(f:GS)(ks:List Nat)(d n x:Nat)(x0:Option PV)(ρ0:ay)(S:aI),eW f ks d n x (x0::ρ0) S=Fj ks d n x (f (x0::ρ0) S):=by
  intro f ks d n x x0 ρ0 S;unfold eW;cases f (x0::ρ0) S<;>rfl
theorem es_92:∀(i:Nat)(it:FA)(body:GS)(x0:Option PV)(ρ0:ay)(S:aI),jO i it body (x0::ρ0) S=NW i body (x0::ρ0) S (it (hide (x0::ρ0))):=by
  intro i it body x0 ρ0 S;unfold jO;cases it (hide (x0::ρ0))<;>rfl
theorem er_1:gP f (x0::ρ0) S=fz S (f (hide (x0::ρ0))):=rfl
theorem er_2:nX f (x0::ρ0) S=fz S (f (hide (x0::ρ0))):=rfl
theorem er_3:fz S (.ok a)=.ok a S:=rfl
theorem er_4:fz S (.exc c:R PV)=.exc c S:=rfl
theorem er_5:fz S (.ok a)=.ok a S:=rfl
theorem er_6:fz S (.exc c:R Bool)=.exc c S:=rfl
theorem er_7:fz S (.ok a)=.ok a S:=rfl
theorem er_8:fz S (.exc c:R (List PV))=.exc c S:=rfl
theorem er_9:hide (o::r)=eN o::hide r:=rfl
theorem er_10:hide []=[]:=rfl
theorem er_11:eN none=none:=rfl
theorem er_12:∀ i,eN (some (aR i))=none:=fun _=>rfl
theorem er_13:∀ i,eN (some (.int i))=some (.int i):=fun _=>rfl
theorem er_14:∀ i,eN (some (.str i))=some (.str i):=fun _=>rfl
theorem er_15:∀ i,eN (some (.bl i))=some (.bl i):=fun _=>rfl
theorem er_16:∀ i,eN (some (.tup i))=some (.tup i):=fun _=>rfl
theorem er_17:∀ i,eN (some (.lst i))=some (.lst i):=fun _=>rfl
theorem er_18:∀ i,eN (some (.exc i))=some (.exc i):=fun _=>rfl
theorem er_19:∀ i,eN (some (.ins i))=some (.ins i):=fun _=>rfl
theorem er_20:eN (some .aU)=some .aU:=rfl
theorem er_21:bA 0 (some p::r) S=.ok p S:=rfl
theorem er_22:bA (n+1) (o::r) S=bA n r S:=rfl
theorem er_23:(RS.ok a S).bind k=k a S:=rfl
theorem er_24:(RS.exc c S:RS (PV)).bind k=.exc c S:=rfl
theorem er_25:(RS.ok a S).bind k=k a S:=rfl
theorem er_26:(RS.exc c S:RS (List PV)).bind k=.exc c S:=rfl
theorem er_27:(RS.ok a S).bind k=k a S:=rfl
theorem er_28:(RS.exc c S:RS (PV)).bind k=.exc c S:=rfl
theorem er_29:de c f a (x0::ρ0) S=(a (x0::ρ0) S).bind (atK c f):=rfl
theorem er_31:NO (.ok p S) b ρ=(b ρ S).bind (JR p):=rfl
theorem er_33:NP o (.ok p S) b ρ=(b ρ S).bind (tw o p):=rfl
theorem er_35:NQ (.ok p S)=.ok (.bl (isNone p)) S:=rfl
theorem er_36:vw a b (x0::ρ0) S=(a (x0::ρ0) S).bind (BH b (x0::ρ0)):=rfl
theorem er_37:BH g ρ (.bl true) S=g ρ S:=rfl
theorem er_38:BH g ρ (.bl false) S=.ok (.bl false) S:=rfl
theorem er_39:f9 a (x0::ρ0) S=(a (x0::ρ0) S).bind tB:=rfl
theorem er_40:tB (.bl b) S=.ok b S:=rfl
theorem er_42:NR (.ok b S)=.ok (!b) S:=rfl
theorem er_43:bK (x0::ρ0) S=.ok [] S:=rfl
theorem er_45:Kg (.ok p S) r ρ=BX p (r ρ S):=rfl
theorem er_46:Kg (.exc c S) r ρ=.exc c S:=rfl
theorem er_47:BX x (.ok xs S)=.ok (x::xs) S:=rfl
theorem er_48:BX x (.exc c S)=.exc c S:=rfl
theorem er_49:P1 a (x0::ρ0) S=(a (x0::ρ0) S).bind Nw:=rfl
theorem er_50:jF F a (x0::ρ0) S=(a (x0::ρ0) S).bind (pK F):=rfl
theorem er_51:gj G a (x0::ρ0) S=(a (x0::ρ0) S).bind G:=rfl
theorem er_53:NX S (.ok (.lst l))=.ok (aR S.length) (S ++[.ls l]):=rfl
theorem er_54:cI c m G o a (x0::ρ0) S=(o (x0::ρ0) S).bind (vz c m G a (x0::ρ0)):=rfl
theorem er_55:Kh G p (.ok ps S)=G (p::ps) S:=rfl
theorem er_56:Kh G p (.exc c S)=.exc c S:=rfl
theorem er_57:mD c G ds a (x0::ρ0) S=(a (x0::ρ0) S).bind (BL c G ds):=rfl
theorem er_59:Kk n (.ok .aU S)=.ok (aR n) S:=rfl
theorem er_60:Kk n (.exc c S)=.exc c S:=rfl
theorem er_62:BY (.next ρ S) g=g ρ S:=rfl
theorem er_63:BY (.ret v S) g=.ret v S:=rfl
theorem er_64:BY (.exc c ρ S) g=.exc c ρ S:=rfl
theorem er_66:xG ρ (.ok v S)=.ret v S:=rfl
theorem er_67:xG ρ (.exc c S)=.exc c ρ S:=rfl
theorem er_69:Ki ρ (.ok v S)=.next ρ S:=rfl
theorem er_70:Ki ρ (.exc c S)=.exc c ρ S:=rfl
theorem er_72:Kj i ρ (.ok v S)=.next (ρ.set i (some v)) S:=rfl
theorem er_73:Kj i ρ (.exc c S)=.exc c ρ S:=rfl
theorem er_74:fJ (x0::ρ0) S=.next (x0::ρ0) S:=rfl
theorem er_75:L8 (x0::ρ0) S=.ret .aU S:=rfl
theorem er_77:Ff (.ok true S) f g ρ=f ρ S:=rfl
theorem er_78:Ff (.ok false S) f g ρ=g ρ S:=rfl
theorem er_79:Ff (.exc c S) f g ρ=.exc c ρ S:=rfl
theorem er_81:NT c f (.ok q S) o ρ=Fg c f ρ q (o ρ S):=rfl
theorem er_82:Fg c f ρ q (.ok p S)=iB c f ρ q p S:=rfl
theorem er_84:NU (.ok q S) o k ρ=Fi q (o ρ S) k ρ:=rfl
theorem er_85:Fi q (.ok p S) k ρ=Fh ρ q p (k ρ S):=rfl
theorem er_86:Fh ρ q p (.ok j S)=DF ρ q p j S:=rfl
theorem er_88:NV is ρ (.ok v S)=E2 is ρ v S:=rfl
theorem er_90:Fj ks d n x (.next ρ S)=.next ρ S:=rfl
theorem er_91:Fj ks d n x (.ret v S)=.ret v S:=rfl
theorem er_92:Fj ks d n x (.exc c ρ' S')=if ks.contains c&&under c d then .next (((ρ'.set n (some (.exc c))).set x (some (.exc c))).set n none) S' else .stuck:=rfl
theorem er_94:NW i body ρ S (.ok l)=dB i body l ρ S:=rfl
theorem er_95:kD (.next ρ S)=.ok .aU S:=rfl
theorem er_96:kD (.ret v S)=.ok v S:=rfl
theorem er_97:kD (.exc c ρ S)=.exc c S:=rfl
theorem er_103:tw o (.int a) (.int b) S=fz S (o (.int a) (.int b)):=rfl
theorem er_104:tw o (.str a) (.str b) S=fz S (o (.str a) (.str b)):=rfl
theorem rz{F:List PV->R PV}{ps:List PV}(h:ps.any d8=false):pK F ps S=fz S (F ps):=by unfold pK;rw[h];rfl
theorem cQ{G:List PV->aI->RS PV} (h:isObj c m p S=true):vz c m G a ρ p S=Kh G p (a ρ S):=by unfold vz;rw[h,VP rfl];cases a ρ S<;>rfl
theorem cD{c i:Nat}{fs:List (Str×PV)}{q:PV}{S:aI}(h:S[i]?=some (.obj c fs))(hl:fs.lookup f=some q):atK c f (aR i) S=.ok q S:=by
  unfold atK;rw[gR];simp only[h,hl,W2]
theorem lZ{c i:Nat}{fs:List (Str×PV)}{S:aI}(h:S[i]?=some (.obj c fs))(hl:fs.length<1000):iB c f ρ q (aR i) S=.next ρ (S.set i (.obj c (lF f q fs))):=by
  unfold iB;rw[gR];simp only[h,hl,Yf,W2]
theorem bO{c i:Nat}{fs:List (Str×PV)}{S:aI}(h:S[i]?=some (.obj c fs))(hl:fs.lookup m=none):isObj c m (aR i) S=true:=by
  unfold isObj;rw[gR];simp only[h,hl,WM,Option.isNone_none,Yy]
theorem c6{S:aI}{c:Cell}:(S ++[c])[S.length]?=some c:=by simp
theorem jj{S:aI}{c d:Cell}:(S ++[c]).set S.length d=S ++[d]:=by simp
theorem eF{S T:aI}{i:Nat}{c:Cell}(h:S[i]?=some c):(S++T)[i]?=some c:=by
  rw[Wb (VS.mp h).1];exact h
theorem so{S T:aI}{i:Nat}{c d:Cell}(h:S[i]?=some c):(S++T).set i d=S.set i d++T:=List.set_append_left _ _ (VS.mp h).1
theorem rA{S:aI}{i:Nat}{c d:Cell}(h:S[i]?=some c):(S.set i d)[i]?=some d:=Wg (VS.mp h).1
theorem dN{S:aI}{i j:Nat}{c d:Cell}(h:S[j]?=some c)(n:i≠j):(S.set i d)[j]?=some c:=by rw[V4 n];exact h
noncomputable def Kl(r:RS PV)(b:GE)(ρ:ay):RS PV:=r.bind fun p S1=>(b ρ S1).bind (q6 p)
noncomputable def Km(n:Bool)(r:RS PV)(b:GE)(ρ:ay):RS PV:=r.bind fun p S1=>(b ρ S1).bind (q8 n p)
noncomputable def Fl(ρ:ay)(q p:PV)(r:RS PV):ZR:=ig r ρ fun j S=>rg ρ q p j S
noncomputable def Fm(q:PV)(r:RS PV)(k:GE)(ρ:ay):ZR:=ig r ρ fun p S=>Fl ρ q p (k ρ S)
noncomputable def Kn(r:RS PV)(o k:GE)(ρ:ay):ZR:=ig r ρ fun q S=>Fm q (o ρ S) k ρ
noncomputable def Ko(p:PV)(r:RS PV):RS PV:=r.bind (tJ p)
noncomputable def Kp(r:RS Bool)(f g:GE)(ρ:ay):RS PV:=r.bind (ND f g ρ)
noncomputable def Kq(r:RS Bool)(g:GT)(ρ:ay):RS Bool:=r.bind (toK g ρ)
noncomputable def Kr(r:RS Bool)(g:GT)(ρ:ay):RS Bool:=r.bind (NF g ρ)
theorem et_2(a b:GE)(x0:Option PV)(ρ0:ay)(S:aI):iZ a b (x0::ρ0) S=Kl (a (x0::ρ0) S) b (x0::ρ0):=by unfold iZ Kl;cases a (x0::ρ0) S<;>rfl
theorem et_4(n:Bool)(a b:GE)(x0:Option PV)(ρ0:ay)(S:aI):lG n a b (x0::ρ0) S=Km n (a (x0::ρ0) S) b (x0::ρ0):=by unfold lG Km;cases a (x0::ρ0) S<;>rfl
theorem et_6(o k v:GE)(x0:Option PV)(ρ0:ay)(S:aI):n5 o k v (x0::ρ0) S=Kn (v (x0::ρ0) S) o k (x0::ρ0):=by unfold n5 Kn Fm Fl;rfl
theorem eu_1:zK (x0::ρ0) S=.ok (aR S.length) (S ++[.dc []]):=rfl
theorem eu_3:Kl (.ok p S) b ρ=(b ρ S).bind (q6 p):=rfl
theorem eu_5:Km n (.ok p S) b ρ=(b ρ S).bind (q8 n p):=rfl
theorem eu_7:Kn (.ok q S) o k ρ=Fm q (o ρ S) k ρ:=rfl
theorem eu_8:Fm q (.ok p S) k ρ=Fl ρ q p (k ρ S):=rfl
theorem eu_9:Fl ρ q p (.ok j S)=rg ρ q p j S:=rfl
theorem eu_10:um a b (x0::ρ0) S=(a (x0::ρ0) S).bind (BS b (x0::ρ0)):=rfl
theorem eu_11:Ko p (.ok q S)=tJ p q S:=rfl
theorem eu_12:zL a (x0::ρ0) S=(a (x0::ρ0) S).bind E9:=rfl
theorem eu_13:Fb t f g (x0::ρ0) S=Kp (t (x0::ρ0) S) f g (x0::ρ0):=rfl
theorem eu_14:Kp (.ok true S) f g ρ=f ρ S:=rfl
theorem eu_15:Kp (.ok false S) f g ρ=g ρ S:=rfl
theorem eu_16:qh f g (x0::ρ0) S=Kq (f (x0::ρ0) S) g (x0::ρ0):=rfl
theorem eu_17:Kq (.ok true S) g ρ=.ok true S:=rfl
theorem eu_18:Kq (.ok false S) g ρ=g ρ S:=rfl
theorem eu_19:Mb f g (x0::ρ0) S=Kr (f (x0::ρ0) S) g (x0::ρ0):=rfl
theorem eu_20:Kr (.ok false S) g ρ=.ok false S:=rfl
theorem eu_21:Kr (.ok true S) g ρ=g ρ S:=rfl
section
variable {S:aI}{i:Nat}{k:Str}{l:List (Str×PV)}
theorem Ks{z:PV}(h:S[i]?=some (.dc l))(hl:l.lookup k=some z):q6 (aR i) (.str k) S=.ok z S:=by unfold q6;rw[gR];simp only[h,hl]
theorem Kt(h:S[i]?=some (.dc l)):q8 n (.str k) (aR i) S=.ok (.bl (if n then !(l.lookup k).isSome else (l.lookup k).isSome)) S:=by unfold q8;rw[gR];simp only[h]
theorem Ku(h:S[i]?=some (.dc l))(hl:l.length<1000):rg ρ q (aR i) (.str k) S=.next ρ (S.set i (.dc (putD k q l))):=by unfold rg;rw[gR];simp only[h,VP hl]
theorem Kv{z:PV}(h:S[i]?=some (.dc l))(hl:l.lookup k=some z):tJ (aR i) (.str k) S=.ok z (S.set i (.dc (q5 k l))):=by unfold tJ;rw[gR];simp only[h,hl]
theorem Kw(h:S[i]?=some (.dc l)):BS b ρ (aR i) S=Ko (aR i) (b ρ S):=by
  have e:vC (aR i) S=true:=by unfold vC;rw[gR];simp only[h]
  unfold BS Ko;rw[VP e]
theorem Kx{ps:List PV}(h:ps.any d8=false)(h2:ps.length<=1000):E9 ps S=.ok (.tup ps) S:=VP ⟨h,qi _ h2⟩
end
end Mi
local macro_rules | `(tactic| dsimp! $c:optConfig [$l,*])=>do let a ← ("fVar_e getV_0 getV_s asVal_int asVal_bl asVal_str asVal_non asVal_tup asVal_lst asVal_exc asVal_dic0 fC_e fBin_e fUn_e oBool_e fAnd_e fOr_e fNot_e fChain_e fIf_e aNil_e aCons_e fTup_e fLst_e fCall_e fIsinst_e tVal_e truth_bl truth_int truth_non tAnd_e tOr_e tNot_e mkTup_1 mkTup_2 mkTup_3 mkTup_4 mkLst_0 mkLst_1 mkLst_2 mkLst_3 mkLst_4 mkLst_5 mkLst_6 mkLst_7 mkLst_8 asVal_none iRange_e rg_1 rg_2 rg_3 bind_ok bind_okl bind_okb bind_oko bindl_ok bindl_okl bindb_ok bindb_okb bindo_ok bind_exc bind_excl bind_excb bindl_exc bindl_excl bindb_exc bindb_excb fin_next fin_ret fin_exc run_1 run_2 run_3 run_4 run_5 run_6 oMul_i oDiv_i oMod_i oPow_i oShl_i oShr_i oAdd_i oSub_i oNeg_i oAnd_i oOr_i oXor_i cLt_i cLe_i cGt_i cGe_i cEq_i cNe_i cEq_b cNe_b cEq_s cNe_s cEq_tup cNe_tup cEq_lst cNe_lst cmpOkN_int cmpOkN_bl cmpOkN_str cmpOkN_non cmpOkN_tup cmpOkN_lst eqPVs_nil eqPVs_cons eqPVs_cn eqPVs_nc eqPV_i eqPV_b eqPV_s eqPV_t eqPV_l eqPV_n bLen_tup bLen_lst bAbs_i bMin_i bMax_i bInt_i bInt_b bBitLength_i bList_l bList_t bTuple_l bTuple_t isTy_int_i isTy_int_b isTy_int_s isTy_int_t isTy_bl_i isTy_bl_b isTy_bl_t isTy_bl_s isTy_tup_t isTy_tup_i isTy_tup_s isTy_lst_i isTy_lst_l isTy_lst_t isTy_lst_s isTy_str_i isTy_str_s isTy_str_t isTy_non isTy_dic_i isTy_dic_s oItem_t0 oItem_t1 oItem_t2 oItem_l0 oItem_l1 oItem_l2 sNext_e sSeq_e ofR_ok ofR_exc sRet_e sExpr_e sSet_e sIf_e sFor_e sBreak_e sCont_e sRetN_e sRaise_e iSeq_e forL_nil forL_cons oNone_e oSome_e fCut_e oCut_lst isSmallI_i sRaiseT_e sTryAs_e fIsExc_e fIsVal_e el_1 el_2 el_3 el_4 el_5 el_6 el_7 el_8 el_9 el_10 el_11 el_12 el_13 el_14 el_15 el_16 el_17 el_18 el_19 el_20 el_21 el_22 el_23 el_24 el_25 el_26 el_27 el_28 el_29 ow_1 ow_2 ow_3 ow_4 ow_5 ow_6 ow_7 er_1 er_2 er_3 er_4 er_5 er_6 er_7 er_8 er_9 er_10 er_11 er_12 er_13 er_14 er_15 er_16 er_17 er_18 er_19 er_20 er_21 er_22 er_23 er_24 er_25 er_26 er_27 er_28 er_29 es_29 er_31 es_31 er_33 es_33 er_35 er_36 er_37 er_38 er_39 er_40 es_40 er_42 er_43 es_43 er_45 er_46 er_47 er_48 er_49 er_50 er_51 es_51 er_53 er_54 er_55 er_56 er_57 es_57 er_59 er_60 es_60 er_62 er_63 er_64 es_64 er_66 er_67 es_67 er_69 er_70 es_70 er_72 er_73 er_74 er_75 es_75 er_77 er_78 er_79 es_79 er_81 er_82 es_82 er_84 er_85 er_86 es_86 er_88 es_88 er_90 er_91 er_92 es_92 er_94 er_95 er_96 er_97 runZ_1 runZ_2 runZ_3 runZ_4 runZ_5 er_103 er_104 eu_1 et_2 eu_3 et_4 eu_5 et_6 eu_7 eu_8 eu_9 eu_10 eu_11 eu_12 eu_13 eu_14 eu_15 eu_16 eu_17 eu_18 eu_19 eu_20 eu_21".splitOn " ").toArray.mapM fun s=>`(Lean.Parser.Tactic.simpLemma| $(Lean.mkIdent (.mkStr `Mi s)):term);`(tactic| simp $c:optConfig only [$[$a],*,Mi.powI,Int.reduceLT,Int.reduceLE,Int.reduceNeg,Int.reduceAdd,Int.reduceSub,Int.reduceMul,Int.reducePow,Int.reduceToNat,Nat.reduceAdd,Nat.reduceSub,ne_eq,not_false_eq_true,not_true_eq_false,Int.reduceEq,reduceCtorEq,$l,*])
local macro_rules|`($a∣$b)=>`(Mi.PV.tup [Mi.PV.int $a,Mi.PV.int $b])
local macro_rules|`(‹$n›)=>`(Mi.fC (Mi.PV.int $n))
local macro_rules | `(tactic| dsimp?! [$l,*])=>do let a ← ("fVar_e getV_0 getV_s asVal_int asVal_bl asVal_str asVal_non asVal_tup asVal_lst asVal_exc asVal_dic0 fC_e fBin_e fUn_e oBool_e fAnd_e fOr_e fNot_e fChain_e fIf_e aNil_e aCons_e fTup_e fLst_e fCall_e fIsinst_e tVal_e truth_bl truth_int truth_non tAnd_e tOr_e tNot_e mkTup_1 mkTup_2 mkTup_3 mkTup_4 mkLst_0 mkLst_1 mkLst_2 mkLst_3 mkLst_4 mkLst_5 mkLst_6 mkLst_7 mkLst_8 asVal_none iRange_e rg_1 rg_2 rg_3 bind_ok bind_okl bind_okb bind_oko bindl_ok bindl_okl bindb_ok bindb_okb bindo_ok bind_exc bind_excl bind_excb bindl_exc bindl_excl bindb_exc bindb_excb fin_next fin_ret fin_exc run_1 run_2 run_3 run_4 run_5 run_6 oMul_i oDiv_i oMod_i oPow_i oShl_i oShr_i oAdd_i oSub_i oNeg_i oAnd_i oOr_i oXor_i cLt_i cLe_i cGt_i cGe_i cEq_i cNe_i cEq_b cNe_b cEq_s cNe_s cEq_tup cNe_tup cEq_lst cNe_lst cmpOkN_int cmpOkN_bl cmpOkN_str cmpOkN_non cmpOkN_tup cmpOkN_lst eqPVs_nil eqPVs_cons eqPVs_cn eqPVs_nc eqPV_i eqPV_b eqPV_s eqPV_t eqPV_l eqPV_n bLen_tup bLen_lst bAbs_i bMin_i bMax_i bInt_i bInt_b bBitLength_i bList_l bList_t bTuple_l bTuple_t isTy_int_i isTy_int_b isTy_int_s isTy_int_t isTy_bl_i isTy_bl_b isTy_bl_t isTy_bl_s isTy_tup_t isTy_tup_i isTy_tup_s isTy_lst_i isTy_lst_l isTy_lst_t isTy_lst_s isTy_str_i isTy_str_s isTy_str_t isTy_non isTy_dic_i isTy_dic_s oItem_t0 oItem_t1 oItem_t2 oItem_l0 oItem_l1 oItem_l2 sNext_e sSeq_e ofR_ok ofR_exc sRet_e sExpr_e sSet_e sIf_e sFor_e sBreak_e sCont_e sRetN_e sRaise_e iSeq_e forL_nil forL_cons oNone_e oSome_e fCut_e oCut_lst isSmallI_i sRaiseT_e sTryAs_e fIsExc_e fIsVal_e el_1 el_2 el_3 el_4 el_5 el_6 el_7 el_8 el_9 el_10 el_11 el_12 el_13 el_14 el_15 el_16 el_17 el_18 el_19 el_20 el_21 el_22 el_23 el_24 el_25 el_26 el_27 el_28 el_29 ow_1 ow_2 ow_3 ow_4 ow_5 ow_6 ow_7 er_1 er_2 er_3 er_4 er_5 er_6 er_7 er_8 er_9 er_10 er_11 er_12 er_13 er_14 er_15 er_16 er_17 er_18 er_19 er_20 er_21 er_22 er_23 er_24 er_25 er_26 er_27 er_28 er_29 es_29 er_31 es_31 er_33 es_33 er_35 er_36 er_37 er_38 er_39 er_40 es_40 er_42 er_43 es_43 er_45 er_46 er_47 er_48 er_49 er_50 er_51 es_51 er_53 er_54 er_55 er_56 er_57 es_57 er_59 er_60 es_60 er_62 er_63 er_64 es_64 er_66 er_67 es_67 er_69 er_70 es_70 er_72 er_73 er_74 er_75 es_75 er_77 er_78 er_79 es_79 er_81 er_82 es_82 er_84 er_85 er_86 es_86 er_88 es_88 er_90 er_91 er_92 es_92 er_94 er_95 er_96 er_97 runZ_1 runZ_2 runZ_3 runZ_4 runZ_5 er_103 er_104 eu_1 et_2 eu_3 et_4 eu_5 et_6 eu_7 eu_8 eu_9 eu_10 eu_11 eu_12 eu_13 eu_14 eu_15 eu_16 eu_17 eu_18 eu_19 eu_20 eu_21".splitOn " ").toArray.mapM fun s=>`(Lean.Parser.Tactic.simpLemma| $(Lean.mkIdent (.mkStr `Mi s)):term);`(tactic| simp (disch:=(simp only [List.length_append,List.length_cons,List.length_nil,List.length_map];omega)) only [$[$a],*,Mi.powI,Int.reduceLT,Int.reduceLE,Int.reduceNeg,Int.reduceAdd,Int.reduceSub,Int.reduceMul,Int.reducePow,Int.reduceToNat,Nat.reduceAdd,Nat.reduceSub,ne_eq,not_false_eq_true,not_true_eq_false,Int.reduceEq,reduceCtorEq,$l,*])
local macro_rules | `(tactic| omega)=>`(tactic| first | lia | omega (splitDisjunctions:=true))
namespace Cm
open PySem Mi
noncomputable def NY:FS:=bg (me (iH .int (ae 0)) (pU (iH .bool (ae 0))))
noncomputable def Ky:List PV->R PV:=a9 1 NY
noncomputable def Kz:FS:=aH (cy (aP (ag pA (ae 1) (aF fE (af (ae 0) (ax))))) (bg (ag aB (ae 0) (ae 1))) (bM)) (bg ‹0›)
noncomputable def zr:List PV->R PV:=a9 2 Kz
noncomputable def NZ:FS:=bg (me (aF Ky (af (ae 0) (ax))) (gf wX wX (ae 1) (ae 0) (ae 2)))
noncomputable def fF:List PV->R PV:=a9 3 NZ
noncomputable def N0:FS:=aH (cy (jc (aP (aF fF (af (ae 0) (af ‹2› (af ‹11› (ax))))))) (cJ (fun ρ=>(fun _=>true) ρ&&(fun ρ=>(fun ρ=>eB (‹2› ρ)) ρ&&(fun ρ=>(fun _=>true) ρ&&(fun ρ=>(fun ρ=>eB (‹11› ρ)) ρ&&(fun _=>true) ρ) ρ) ρ) ρ) 1) (bM)) (aH (cy (jc (aP (aF fF (af (ae 1) (af ‹1› (af ‹60› (ax))))))) (cJ (fun ρ=>(fun _=>true) ρ&&(fun ρ=>(fun ρ=>eB (‹1› ρ)) ρ&&(fun ρ=>(fun _=>true) ρ&&(fun ρ=>(fun ρ=>eB (‹60› ρ)) ρ&&(fun _=>true) ρ) ρ) ρ) ρ) 1) (bM)) (bg (eT (af (ae 0) (af (ae 1) (ax))))))
noncomputable def B0:List PV->R PV:=a9 2 N0
noncomputable def N1:FS:=aH (cy (nA (jc (aP (iH .tuple (ae 0)))) (aP (ag hU (aF fE (af (ae 0) (ax))) ‹2›))) (cJ (fun _=>true) 1) (bM)) (d7 (aF B0 (af (ag aB (ae 0) ‹0›) (af (ag aB (ae 0) ‹1›) (ax)))))
noncomputable def zb:List PV->R PV:=a9 1 N1
noncomputable def N2:FS:=aH (d7 (aF zb (af (ae 0) (ax)))) (bg (ag jL ‹1› (ag ar (ag ar ‹1› (ag aB (ae 0) ‹0›)) (ag aB (ae 0) ‹1›))))
noncomputable def Fo:List PV->R PV:=a9 1 N2
noncomputable def N3:FS:=aH (d7 (aF zb (af (ae 0) (ax)))) (bg (ag fh (ag jL ‹1› (ag fh (ag aB (ae 0) ‹0›) ‹1›)) ‹1›))
noncomputable def B1:List PV->R PV:=a9 1 N3
noncomputable def N4:FS:=bg (ag fh (ag fh ‹1› (aF B1 (af (ae 0) (ax)))) (ag aB (ae 0) ‹1›))
noncomputable def B2:List PV->R PV:=a9 1 N4
noncomputable def N5:FS:=bg (ag fh (ag jL ‹1› (ae 0)) ‹1›)
noncomputable def zi:List PV->R PV:=a9 1 N5
noncomputable def N6:FS:=aH (bf 1 (ag oMod (ag ja (ae 0) ‹48271›) ‹999983›)) (bg (eT (af (ag ar ‹2› (ag oMod (ae 1) ‹10›)) (af (ag ar ‹1› (ag oMod (ag oDiv (ae 1) ‹10›) ‹60›)) (ax)))))
noncomputable def Fp:List PV->R PV:=a9 2 N6
noncomputable def N7:FS:=cy (jc (aP (aF fF (af (ae 0) (af ‹0› (af (aF zi (af (ae 1) (ax))) (ax))))))) (cJ (fun ρ=>(fun _=>true) ρ&&(fun ρ=>(fun ρ=>eB ((ae 1) ρ)) ρ&&(fun ρ=>(fun _=>true) ρ&&(fun _=>true) ρ) ρ) ρ) 2) (bM)
noncomputable def xH:List PV->R PV:=a9 2 N7
noncomputable def N8:FS:=aH (d7 (aF zb (af (ae 0) (ax)))) (aH (d7 (aF xH (af (ae 1) (af ‹1› (ax))))) (aH (d7 (aF xH (af (ae 2) (af (ag aB (ae 0) ‹0›) (ax))))) (aH (d7 (aF xH (af (ae 3) (af (ag aB (ae 0) ‹1›) (ax))))) (bg (ag ar (ag ar (ag jL (ae 1) (ag ar (ag aB (ae 0) ‹0›) (ag aB (ae 0) ‹1›))) (ag jL (ae 2) (ag aB (ae 0) ‹1›))) (ae 3))))))
noncomputable def B3:List PV->R PV:=a9 4 N8
noncomputable def N9:FS:=cy (jc (aP (aF fF (af (ae 1) (af ‹0› (af (ag fh (aF Fo (af (ae 0) (ax))) ‹1›) (ax))))))) (cJ (fun _=>true) 2) (bM)
noncomputable def B4:List PV->R PV:=a9 2 N9
noncomputable def Oa:FS:=aH (d7 (aF B4 (af (ae 0) (af (ae 1) (ax))))) (aH (bf 2 (ag pS (ae 1) (ag ar (ag aB (ae 0) ‹0›) (ag aB (ae 0) ‹1›)))) (aH (bf 3 (ag pT (ag pS (ae 1) (ag aB (ae 0) ‹1›)) (aF zi (af (ag aB (ae 0) ‹0›) (ax))))) (aH (bf 4 (ag pT (ae 1) (aF zi (af (ag aB (ae 0) ‹1›) (ax))))) (bg (eT (af (ae 2) (af (ae 3) (af (ae 4) (ax)))))))))
noncomputable def Fq:List PV->R PV:=a9 5 Oa
noncomputable def Sb:FS:=bg (ag jL ‹1› (ag fh (ag aB (ae 0) ‹1›) ‹1›))
noncomputable def Ob:List PV->R PV:=a9 1 Sb
noncomputable def Sd:FS:=aH (d7 (aF zb (af (ae 0) (ax)))) (bg (aF B3 (af (ae 0) (af ‹0› (af (aF zi (af (ag aB (ae 0) ‹0›) (ax))) (af (aF Ob (af (ae 0) (ax))) (ax)))))))
noncomputable def Oc:List PV->R PV:=a9 1 Sd
noncomputable def Od:FS:=bg (ag jL ‹1› (ag ar (ag aB (ae 0) ‹0›) (ag aB (ae 0) ‹1›)))
noncomputable def Fs:List PV->R PV:=a9 1 Od
noncomputable def Oe:FS:=aH (d7 (aF B4 (af (ae 0) (af (ae 1) (ax))))) (bg (ag C9 (ae 1) (aF Fs (af (ae 0) (ax)))))
noncomputable def B5:List PV->R PV:=a9 2 Oe
noncomputable def Of:FS:=bg (e8 j0 (fC (.str "")) (af (cL 2 (eD (af (ag fh (ae 1) ‹1›) (af (gA jb ‹1›) (af (gA jb ‹1›) (ax))))) (f7) (iQ (aP (ag pT (ag pS (ae 0) (ae 2)) ‹1›)) (fC (.str "1")) (fC (.str "0")))) (ax)))
noncomputable def xI:List PV->R PV:=a9 2 Of
noncomputable def Og:FS:=aH (bf 2 (aF Fq (af (ae 0) (af (ae 1) (ax))))) (bg (e8 j0 (fC (.str " ")) (af (cB (af (aF xI (af (ag aB (ae 2) ‹0›) (af ‹1› (ax)))) (af (aF xI (af (ag aB (ae 2) ‹1›) (af (ag aB (ae 0) ‹0›) (ax)))) (af (aF xI (af (ag aB (ae 2) ‹2›) (af (ag aB (ae 0) ‹1›) (ax)))) (ax))))) (ax))))
noncomputable def B6:List PV->R PV:=a9 3 Og
noncomputable def KA:FS:=bg (iQ (aP (ag EK (ae 1) ‹0›)) (eT (af (ag jL (ae 0) (ae 1)) (af (ae 2) (ax)))) (eT (af (ae 0) (af (ag jL (ae 2) (gA jb (ae 1))) (ax)))))
noncomputable def xJ:List PV->R PV:=a9 3 KA
noncomputable def KC:FS:=aH (cy (aP (ag bQ (ae 0) ‹0›)) (cJ (fun _=>true) 4) (bM)) (aH (bf 3 (aF uN (af (ae 0) (ax)))) (aH (bf 4 (ag fh (gA jX (ae 3)) (gA jX (ae 2)))) (aH (bf 5 (aF xJ (af (ae 3) (af (gA jb (ae 4)) (af (ae 2) (ax)))))) (aH (cy (aP (ag pA (ag aB (ae 5) ‹0›) (ag aB (ae 5) ‹1›))) (bf 4 (ag fh (ae 4) ‹1›)) (bM)) (bg (ag ar (ae 4) (ae 1)))))))
noncomputable def xK:List PV->R PV:=a9 6 KC
noncomputable def B7:FS:=aH (bf 4 (aF xJ (af (aF uN (af (ae 0) (ax))) (af (ag fh (ae 1) (ae 3)) (af (ae 2) (ax)))))) (aH (bf 5 (ag oDiv (ag aB (ae 4) ‹0›) (ag aB (ae 4) ‹1›))) (aH (bf 6 (ag ja ‹2› (ag fh (ag aB (ae 4) ‹0›) (ag ja (ae 5) (ag aB (ae 4) ‹1›))))) (aH (cy (aP (ag bQ (ae 6) ‹0›)) (bg (eT (af (ae 5) (af ‹0› (ax))))) (bM)) (aH (cy (aP (ag pA (ae 6) (ag aB (ae 4) ‹1›))) (bg (eT (af (ae 5) (af ‹1› (ax))))) (bM)) (bg (eT (af (ae 5) (af (iQ (aP (ag bQ (ae 6) (ag aB (ae 4) ‹1›))) ‹2› ‹3›) (ax)))))))))
noncomputable def zk:List PV->R PV:=a9 7 B7
noncomputable def Oh:FS:=aH (d7 (aF zb (af (ae 0) (ax)))) (bg (aF B3 (af (ae 0) (af ‹0› (af (aF zi (af (ag aB (ae 0) ‹0›) (ax))) (af ‹0› (ax)))))))
noncomputable def B8:List PV->R PV:=a9 1 Oh
noncomputable def KD:FS:=bg (iQ (aP (ae 2)) (aF B5 (af (ae 0) (af (ae 1) (ax)))) (ae 1))
noncomputable def zm:List PV->R PV:=a9 3 KD
noncomputable def Se:FS:=aH (bf 1 (cL 2 (eD (af (aF fE (af (fC (.tup [.str "wrong",.str "pole",.str "great",.str "small",.str "near"])) (ax))) (ax))) (aP (ag pT (ag pS (ae 0) (ae 2)) ‹1›)) (ag aB (fC (.tup [.str "wrong",.str "pole",.str "great",.str "small",.str "near"])) (ae 2)))) (bg (iQ (aP (ae 1)) (e8 j0 (fC (.str " ")) (af (ae 1) (ax))) (fC (.str "clean"))))
noncomputable def z3:List PV->R PV:=a9 2 Se
noncomputable def Sf:FS:=bg (EM (ag bQ (ae 2) ‹3›) (me (ag bQ (ae 2) ‹2›) (ae 1)))
noncomputable def Oi:List PV->R PV:=a9 4 Sf
noncomputable def Sg:FS:=bg (ag EK (ae 2) ‹2›)
noncomputable def Oj:List PV->R PV:=a9 4 Sg
noncomputable def Sh:FS:=bg (fC (.bl false))
noncomputable def Ol:List PV->R PV:=a9 4 Sh
noncomputable def Si:FS:=bg (pU (ae 3))
noncomputable def Om:List PV->R PV:=a9 4 Si
noncomputable def Sj:FS:=bg (ae 3)
noncomputable def Oo:List PV->R PV:=a9 4 Sj
noncomputable def B9:List (Nat×(List PV->R PV)):=[(21,Oi),(22,Oj),(23,Ol),(24,Om),(25,Oo)]
noncomputable def Oq:FS:=aH (cy (aP (ag bQ (ae 0) (fC (.str "even")))) (bg (my 21)) (bM)) (aH (cy (aP (ag bQ (ae 0) (fC (.str "away")))) (bg (my 22)) (bM)) (aH (cy (aP (ag bQ (ae 0) (fC (.str "in")))) (bg (my 23)) (bM)) (aH (cy (aP (ag bQ (ae 0) (fC (.str "up")))) (bg (my 24)) (bM)) (aH (cy (aP (ag bQ (ae 0) (fC (.str "down")))) (bg (my 25)) (bM)) (cJ (fun _=>true) 3)))))
noncomputable def bP:List PV->R PV:=a9 1 Oq
noncomputable def KG:FS:=aH (bf 3 (me (ag hU (ag aB (ae 1) ‹1›) ‹0›) (oF B9 (ae 0) (af (ag bQ (ag oMod (ag aB (ae 1) ‹0›) ‹2›) ‹1›) (af (ag aB (ae 1) ‹1›) (af (ae 2) (ax))))))) (bg (iQ (aP (ae 3)) (ag ar (ag aB (ae 1) ‹0›) ‹1›) (ag aB (ae 1) ‹0›)))
noncomputable def Ca:List PV->R PV:=a9 4 KG
noncomputable def Ft:FS:=aH (cy (aP (ag bQ (ae 2) ‹0›)) (bg ‹0›) (bM)) (bg (iQ (aP (ag pA (ae 1) (ag fh ‹1› (aF B1 (af (ae 0) (ax)))))) (ag ar ‹16› ‹8›) ‹16›))
noncomputable def xM:List PV->R PV:=a9 3 Ft
noncomputable def KH:FS:=bg (aF yG (af (ag fh (ae 1) (ag aB (ae 0) ‹1›)) (af (aF B2 (af (ae 0) (ax))) (ax))))
noncomputable def zt:List PV->R PV:=a9 2 KH
noncomputable def Fu:FS:=aH (bf 5 (aF B8 (af (ae 0) (ax)))) (aH (bf 6 (ag fh (aF zt (af (ae 0) (af (ae 3) (ax)))) (aF B2 (af (ae 0) (ax))))) (aH (bf 7 (ag ar (ag jL (ae 6) (ag aB (ae 0) ‹1›)) (aF Ca (af (ae 1) (af (ae 4) (af (ae 2) (ax))))))) (aH (cy (aP (ag pA (ae 7) (ae 5))) (bg (eT (af (aF zm (af (ae 0) (af (ae 7) (af (ae 2) (ax))))) (af (aF xM (af (ae 0) (af (ae 3) (af (ag aB (ae 4) ‹1›) (ax))))) (ax))))) (bM)) (aH (bf 7 (iQ (aP (oF B9 (ae 1) (af (fC (.bl true)) (af ‹3› (af (ae 2) (ax)))))) (ae 5) (ag fh (ae 5) ‹1›))) (bg (eT (af (aF zm (af (ae 0) (af (ae 7) (af (ae 2) (ax))))) (af (ag ar ‹4› ‹16›) (ax)))))))))
noncomputable def xN:List PV->R PV:=a9 8 Fu
noncomputable def Ot:FS:=aH (d7 (aF zb (af (ae 0) (ax)))) (aH (bf 5 (aF bP (af (ae 4) (ax)))) (aH (cy (aP (ag bQ (ae 1) ‹0›)) (bg (eT (af ‹0› (af ‹0› (ax))))) (bM)) (aH (bf 6 (aF xK (af (ae 1) (af (ae 2) (af (ae 3) (ax)))))) (aH (bf 7 (aF zk (af (ae 1) (af (ae 2) (af (ae 3) (af (aF zt (af (ae 0) (af (ae 6) (ax)))) (ax))))))) (bg (aF xN (af (ae 0) (af (ae 5) (af (ag pA (ae 1) ‹0›) (af (ae 6) (af (ae 7) (ax))))))))))))
noncomputable def iM:List PV->R PV:=a9 8 Ot
noncomputable def Fv:FS:=cy (nA (aP (ag bQ (ae 0) (fC (.str "")))) (jc (aP (aF lE (af (cL 1 (lC (ae 0)) (f7) (ag pC (ae 1) (fC (.str "0123456789")))) (ax)))))) (cJ (fun _=>true) 6) (bM)
noncomputable def zj:List PV->R PV:=a9 1 Fv
noncomputable def zo:FS:=aH (bf 1 (e8 ie (ae 0) (af (fC (.str "-")) (ax)))) (aH (bf 2 (iQ (aP (ae 1)) (mh (ae 0) (jr ‹1›) (mf)) (ae 0))) (aH (d7 (aF zj (af (ae 2) (ax)))) (aH (cy (aP (ag pB (aF fE (af (ae 2) (ax))) ‹3›)) (cJ (fun ρ=>(fun _=>true) ρ&&(fun ρ=>(fun ρ=>eB (‹3› ρ)) ρ&&(fun ρ=>(fun _=>true) ρ&&(fun _=>true) ρ) ρ) ρ) 6) (bM)) (bg (iQ (aP (ae 1)) (gA jb (aF kX (af (ae 2) (ax)))) (aF kX (af (ae 2) (ax))))))))
noncomputable def ze:List PV->R PV:=a9 3 zo
noncomputable def zc:FS:=aH (cy (nA (jc (aP (iH .str (ae 0)))) (aP (ag pB (aF fE (af (ae 0) (ax))) ‹1200›))) (cJ (fun ρ=>(fun _=>true) ρ&&(fun ρ=>(fun ρ=>eB (‹1200› ρ)) ρ&&(fun ρ=>(fun _=>true) ρ&&(fun _=>true) ρ) ρ) ρ) 6) (bM)) (aH (bf 1 (e8 ie (ae 0) (af (fC (.str "-")) (ax)))) (aH (bf 2 (e8 gQ (iQ (aP (ae 1)) (mh (ae 0) (jr ‹1›) (mf)) (ae 0)) (af (fC (.str "e")) (ax)))) (aH (bf 3 (e8 gQ (ag aB (ae 2) ‹0›) (af (fC (.str ".")) (ax)))) (aH (d7 (aF zj (af (ag aB (ae 3) ‹0›) (ax)))) (aH (cy (aP (ag bQ (ag aB (ae 3) ‹1›) (fC (.str ".")))) (d7 (aF zj (af (ag aB (ae 3) ‹2›) (ax)))) (bM)) (aH (bf 4 (iQ (aP (ag bQ (ag aB (ae 2) ‹1›) (fC (.str "e")))) (aF ze (af (ag aB (ae 2) ‹2›) (ax))) ‹0›)) (bg (eT (af (ae 1) (af (aF kX (af (ag ar (ag aB (ae 3) ‹0›) (ag aB (ae 3) ‹2›)) (ax))) (af (ag fh (ae 4) (aF fE (af (ag aB (ae 3) ‹2›) (ax)))) (ax))))))))))))
noncomputable def z4:List PV->R PV:=a9 5 zc
noncomputable def zx:FS:=aH (cy (aP (ag bQ (ag oMod (ae 0) ‹2›) ‹1›)) (bf 1 (ag ja (ae 1) (ae 2))) (bM)) (aH (bf 2 (ag ja (ae 2) (ae 2))) (bf 0 (ag oDiv (ae 0) ‹2›)))
noncomputable def Ou:FS:=aH (bf 1 ‹1›) (aH (bf 2 ‹10›) (aH (jz (aP (ag pB (ae 0) ‹0›)) (zx)) (bg (ae 1))))
noncomputable def Cb:List PV->R PV:=a9 3 Ou
noncomputable def Ov:FS:=aH (cy (aP (ag bQ (ae 1) (fC (.str "none")))) (bg (aF Oc (af (ae 0) (ax)))) (bM)) (aH (cy (nA (aP (ag bQ (ae 1) (fC (.str "endless")))) (aP (ag bQ (ae 1) (fC (.str "-endless"))))) (bg (aF zm (af (ae 0) (af (aF B8 (af (ae 0) (ax))) (af (ag bQ (ae 1) (fC (.str "-endless"))) (ax)))))) (bM)) (bg (fC .aU)))
noncomputable def Fw:List PV->R PV:=a9 2 Ov
noncomputable def Cc:FS:=aH (cy (aP (ag pA (ae 2) ‹0›)) (bg (aF iM (af (ae 0) (af (ae 1) (af ‹0› (af (aF Cb (af (gA jb (ae 2)) (ax))) (af (ae 3) (ax)))))))) (bM)) (bg (aF iM (af (ae 0) (af (ag ja (ae 1) (aF Cb (af (ae 2) (ax)))) (af ‹0› (af ‹1› (af (ae 3) (ax))))))))
noncomputable def xO:List PV->R PV:=a9 4 Cc
noncomputable def zp:FS:=aH (d7 (aF zb (af (ae 0) (ax)))) (aH (bf 3 (aF Fw (af (ae 0) (af (ae 1) (ax))))) (aH (cy (aP (gA yF (ae 3))) (aH (d7 (aF bP (af (ae 2) (ax)))) (bg (eT (af (ae 3) (af ‹0› (ax)))))) (bM)) (aH (bf 4 (aF z4 (af (ae 1) (ax)))) (aH (cy (aP (ag bQ (ag aB (ae 4) ‹1›) ‹0›)) (aH (d7 (aF bP (af (ae 2) (ax)))) (bg (eT (af (aF zm (af (ae 0) (af ‹0› (af (ag aB (ae 4) ‹0›) (ax))))) (af ‹0› (ax)))))) (bM)) (bg (aF xO (af (ae 0) (af (iQ (aP (ag aB (ae 4) ‹0›)) (gA jb (ag aB (ae 4) ‹1›)) (ag aB (ae 4) ‹1›)) (af (ag aB (ae 4) ‹2›) (af (ae 2) (ax)))))))))))
noncomputable def cA:List PV->R PV:=a9 5 zp
noncomputable def Ow:GS:=bF (gT 30 "raised" (bA 0) (fR Iv (de 30 "raised" (bA 0)) (gP (ag aB (ae 1) ‹1›)))) (eC (gP (ag aB (ae 1) ‹0›)))
noncomputable def Cd:List PV->aI->RS PV:=cG 2 Ow
noncomputable def Sk:GS:=gT 30 "raised" (bA 0) (gP ‹0›)
noncomputable def Ox:List PV->aI->RS PV:=cG 1 Sk
noncomputable def KI:GS:=bF (gC (gP (aF bP (af (ae 1) (ax))))) (gT 30 "way" (bA 0) (gP (ae 1)))
noncomputable def eA:List PV->aI->RS PV:=cG 2 KI
noncomputable def Oy:GS:=bF (gC (gP (aF zb (af (ae 1) (ax))))) (bF (gC (gP (aF bP (af (ae 2) (ax))))) (bF (gT 30 "width" (bA 0) (gP (ae 1))) (bF (gT 30 "way" (bA 0) (gP (ae 2))) (gT 30 "raised" (bA 0) (gP ‹0›)))))
noncomputable def dY:List PV->aI->RS PV:=cG 3 Oy
noncomputable def KJ:GS:=eC (cI 30 "noted" Cd (bA 0) (aN (jF cA (aN (de 30 "width" (bA 0)) (aN (gP (ae 1)) (aN (de 30 "way" (bA 0)) (bK))))) (bK)))
noncomputable def xP:List PV->aI->RS PV:=cG 2 KJ
def Ce:List (Str×Int):=[("keep",3),("plus",4),("minus",4),("times",4),("over",4),("left",4),("root",3),("whole",3),("turn",3),("fused",5),("total",3),("drop",2),("way",2),("wipe",1),("marks",1),("show",2),("exact",2),("bits",2),("kind",2),("order",3)]
noncomputable def zn:GS:=fX (f9 (lG true (gP (ae 2)) (de 31 "kept" (bA 0)))) (j7 (fun _=>true) 8) (fJ)
noncomputable def KL:GS:=bF (jO 2 (lB (ae 1)) (zn)) (eC (iu 3 (lB (ae 1)) (iZ (de 31 "kept" (bA 0)) (gP (ae 3)))))
noncomputable def za:List PV->aI->RS PV:=cG 3 KL
noncomputable def zq:FS:=aH (cy (jc (aP (iH .str (ae 0)))) (cJ (fun _=>true) 9) (bM)) (aH (bf 1 (e8 gK (ae 0) (af (fC (.str " ")) (ax)))) (aH (bf 2 (rm Ce (ag aB (ae 1) ‹0›))) (aH (cy (aP (gA yE (ae 2))) (cJ (fun _=>true) 9) (bM)) (aH (cy (nA (aP (ag pA (aF fE (af (ae 1) (ax))) (ae 2))) (yH (aP (ag pB (aF fE (af (ae 1) (ax))) (ae 2))) (aP (ag hU (ag aB (ae 1) ‹0›) (fC (.str "total")))))) (cJ (fun _=>true) 9) (bM)) (bg (ae 1))))))
noncomputable def z5:List PV->R PV:=a9 3 zq
noncomputable def Fx:FS:=cy (nA (jc (aP (gf wX wX ‹1› (aF fE (af (ae 0) (ax))) ‹8›))) (jc (aP (aF lE (af (cL 1 (lC (ae 0)) (f7) (gf lH lH (fC (.str "a")) (ae 1) (fC (.str "z")))) (ax)))))) (cJ (fun ρ=>(fun _=>true) ρ&&(fun ρ=>(fun ρ=>eB (‹8› ρ)) ρ&&(fun ρ=>(fun _=>true) ρ&&(fun _=>true) ρ) ρ) ρ) 8) (bM)
noncomputable def xQ:List PV->R PV:=a9 1 Fx
noncomputable def zu:FS:=bf 7 (ag ar (ae 7) (ag aB (ae 1) (ag oMod (ag ar (ag aB (ae 3) (ae 8)) (ag ja (ae 6) (aF uO (af (ag bQ (ae 8) (ae 4)) (ax))))) ‹26›)))
noncomputable def Cf:FS:=aH (bf 7 (fC (.str ""))) (aH (lA 8 (eD (af (aF fE (af (ae 3) (ax))) (ax))) (zu)) (lM 5 (af (ae 7) (ax))))
noncomputable def Oz:FS:=aH (bf 1 (fC (.str "abcdefghijklmnopqrstuvwxyz"))) (aH (bf 2 (ag oMod (ag ja (ae 0) ‹618033988749894848204587›) (ag ar (ag yD ‹10› ‹24›) ‹7›))) (aH (bf 3 (cL 9 (eD (af (ag ar ‹1› (ag oMod (ae 2) ‹8›)) (ax))) (f7) (ag oMod (ag oDiv (ae 2) (ag ar (ag ja (ae 9) (ae 9)) ‹1›)) ‹26›))) (aH (bf 4 (ag oMod (ag oDiv (ae 2) ‹1000›) (aF fE (af (ae 3) (ax))))) (aH (uP 5 (cB (ax))) (aH (lA 6 (eD (af ‹4› (ax))) (Cf)) (oC 5 (bg (ae 5))))))))
noncomputable def Cg:List PV->R PV:=a9 9 Oz
noncomputable def OA:FS:=aH (bf 2 (cB (af (fC (.str "")) (af (fC (.str " ")) (af (fC (.str "keep")) (af (ag ar (fC (.str "keep ")) (ae 0)) (af (ag ar (ag ar (fC (.str "keep ")) (ae 0)) (fC (.str " 1 2"))) (af (ag ar (ag ar (fC (.str "keep ")) (ae 0)) (fC (.str " 1 "))) (af (ag ar (ag ar (fC (.str " keep ")) (ae 0)) (fC (.str " 1"))) (ax)))))))))) (aH (bf 2 (ag ar (ae 2) (cB (af (ag ar (ag ar (ag ar (fC (.str "plus ")) (ae 0)) (fC (.str " "))) (ae 0)) (af (ag ar (ag ar (ag ar (ag ar (ag ar (ag ar (ag ar (fC (.str "plus ")) (ae 0)) (fC (.str " "))) (ae 0)) (fC (.str " "))) (ae 1)) (fC (.str " "))) (ae 0)) (af (ag ar (fC (.str "plus  ")) (ae 0)) (ax))))))) (aH (bf 2 (ag ar (ae 2) (cB (af (ag ar (fC (.str "minus ")) (ae 0)) (af (fC (.str "times")) (af (ag ar (ag ar (ag ar (ag ar (ag ar (ag ar (fC (.str "over ")) (ae 0)) (fC (.str " "))) (ae 0)) (fC (.str " "))) (ae 0)) (fC (.str " "))) (af (ag ar (ag ar (ag ar (fC (.str "left ")) (ae 0)) (fC (.str " "))) (ae 0)) (ax)))))))) (aH (bf 2 (ag ar (ae 2) (cB (af (ag ar (fC (.str "root ")) (ae 0)) (af (ag ar (ag ar (ag ar (ag ar (ag ar (fC (.str "root ")) (ae 0)) (fC (.str " "))) (ae 0)) (fC (.str " "))) (ae 0)) (af (ag ar (fC (.str "whole ")) (ae 0)) (af (ag ar (fC (.str "turn ")) (ae 0)) (af (fC (.str "turn")) (ax))))))))) (aH (bf 2 (ag ar (ae 2) (cB (af (ag ar (ag ar (ag ar (ag ar (ag ar (fC (.str "fused ")) (ae 0)) (fC (.str " "))) (ae 0)) (fC (.str " "))) (ae 0)) (af (fC (.str "total")) (af (ag ar (fC (.str "total ")) (ae 0)) (af (fC (.str "drop")) (ax)))))))) (aH (bf 2 (ag ar (ae 2) (cB (af (ag ar (ag ar (ag ar (fC (.str "drop ")) (ae 0)) (fC (.str " "))) (ae 1)) (af (fC (.str "way")) (af (fC (.str "way up down")) (af (fC (.str "wipe all")) (af (fC (.str "wipe ")) (af (ag ar (fC (.str "marks ")) (ae 0)) (af (fC (.str "marks ")) (ax))))))))))) (aH (bf 2 (ag ar (ae 2) (cB (af (fC (.str "show")) (af (ag ar (ag ar (fC (.str "show ")) (ae 0)) (fC (.str " "))) (af (fC (.str "exact")) (af (ag ar (ag ar (ag ar (fC (.str "bits ")) (ae 0)) (fC (.str " "))) (ae 0)) (af (fC (.str "kind")) (af (ag ar (fC (.str "order ")) (ae 0)) (ax)))))))))) (aH (bf 2 (ag ar (ae 2) (cB (af (ag ar (ag ar (ag ar (ag ar (ag ar (fC (.str "order ")) (ae 0)) (fC (.str " "))) (ae 0)) (fC (.str " "))) (ae 0)) (af (ag ar (fC (.str "Show ")) (ae 0)) (af (ag ar (fC (.str "shows ")) (ae 0)) (af (ag ar (fC (.str "sho ")) (ae 0)) (ax)))))))) (bg (ag ar (ae 2) (cB (af (ag ar (fC (.str "show\n")) (ae 0)) (af (ag ar (ag ar (ag ar (ag ar (ag ar (fC (.str "sum ")) (ae 0)) (fC (.str " "))) (ae 0)) (fC (.str " "))) (ae 0)) (af (ag ar (ag ar (e8 ku (ae 0) ax) (fC (.str " "))) (ae 1)) (ax))))))))))))))
noncomputable def Fy:List PV->R PV:=a9 3 OA
noncomputable def OB:FS:=aH (bf 2 (cB (af (ag ar (ag ar (ag ar (fC (.str "plus A ")) (ae 0)) (fC (.str " "))) (ae 1)) (af (ag ar (ag ar (ag ar (ag ar (ag ar (fC (.str "minus ")) (ae 0)) (fC (.str "1 "))) (ae 1)) (fC (.str " "))) (ae 0)) (af (ag ar (fC (.str "whole A ")) (ae 1)) (ax)))))) (aH (bf 2 (ag ar (ae 2) (cB (af (ag ar (ag ar (ag ar (ag ar (ag ar (fC (.str "times ")) (e8 ku (ae 0) ax)) (fC (.str " "))) (ae 1)) (fC (.str " "))) (ae 1)) (af (ag ar (ag ar (ag ar (fC (.str "over a-b ")) (ae 0)) (fC (.str " "))) (ae 1)) (ax)))))) (aH (bf 2 (ag ar (ae 2) (cB (af (ag ar (fC (.str "turn A ")) (ae 0)) (af (ag ar (ag ar (ag ar (fC (.str "turn ")) (ae 0)) (fC (.str "1 "))) (ae 1)) (af (ag ar (ag ar (ag ar (ag ar (ag ar (fC (.str "total ")) (ae 0)) (fC (.str "1 "))) (ae 0)) (fC (.str " "))) (ae 1)) (ax))))))) (aH (bf 2 (ag ar (ae 2) (cB (af (ag ar (fC (.str "total A ")) (ae 1)) (af (ag ar (fC (.str "root a_b ")) (ae 1)) (af (ag ar (ag ar (ag ar (fC (.str "left A ")) (ae 1)) (fC (.str " "))) (ae 0)) (af (ag ar (fC (.str "total  ")) (ae 0)) (ax)))))))) (bg (ag ar (ae 2) (cB (af (ag ar (ag ar (ag ar (ag ar (ag ar (fC (.str "fused abcdefghi ")) (ae 0)) (fC (.str " "))) (ae 0)) (fC (.str " "))) (ae 1)) (af (ag ar (fC (.str "turn  ")) (ae 1)) (af (ag ar (ag ar (ag ar (fC (.str "whole ")) (ae 0)) (fC (.str ". "))) (ae 0)) (ax))))))))))
noncomputable def Fz:List PV->R PV:=a9 3 OB
noncomputable def OC:FS:=aH (bf 3 (cB (af (ag ar (fC (.str "show ")) (ae 1)) (af (ag ar (fC (.str "exact ")) (ae 1)) (af (ag ar (fC (.str "bits ")) (ae 1)) (af (ag ar (fC (.str "kind ")) (ae 1)) (af (ag ar (fC (.str "drop ")) (ae 1)) (ax)))))))) (aH (bf 3 (ag ar (ae 3) (cB (af (ag ar (ag ar (ag ar (fC (.str "order ")) (ae 0)) (fC (.str " "))) (ae 1)) (af (ag ar (ag ar (ag ar (fC (.str "order ")) (ae 1)) (fC (.str " "))) (ae 0)) (af (ag ar (ag ar (ag ar (ag ar (ag ar (fC (.str "plus ")) (ae 0)) (fC (.str " "))) (ae 1)) (fC (.str " "))) (ae 0)) (ax))))))) (aH (bf 3 (ag ar (ae 3) (cB (af (ag ar (ag ar (fC (.str "show ")) (ae 0)) (fC (.str "1"))) (af (fC (.str "show ")) (af (ag ar (ag ar (ag ar (ag ar (ag ar (fC (.str "minus ")) (ae 0)) (fC (.str " "))) (ae 0)) (fC (.str " "))) (ae 1)) (af (fC (.str "keep A 1")) (af (fC (.str "keep  1")) (ax))))))))) (aH (bf 3 (ag ar (ae 3) (cB (af (ag ar (ag ar (ag ar (ag ar (ag ar (fC (.str "times ")) (ae 1)) (fC (.str " "))) (ae 2)) (fC (.str " "))) (ae 0)) (af (ag ar (ag ar (ag ar (ag ar (ag ar (fC (.str "over ")) (ae 1)) (fC (.str " "))) (ae 0)) (fC (.str " "))) (ae 2)) (ax)))))) (aH (bf 3 (ag ar (ae 3) (cB (af (ag ar (ag ar (ag ar (ag ar (ag ar (fC (.str "left ")) (ae 0)) (fC (.str "- "))) (ae 0)) (fC (.str " "))) (ae 0)) (af (ag ar (ag ar (ag ar (fC (.str "root ")) (ae 1)) (fC (.str " "))) (ae 2)) (ax)))))) (aH (bf 3 (ag ar (ae 3) (cB (af (ag ar (ag ar (ag ar (fC (.str "whole ")) (ae 2)) (fC (.str " "))) (ae 1)) (af (ag ar (ag ar (ag ar (fC (.str "turn ")) (ae 0)) (fC (.str " "))) (ae 2)) (af (fC (.str "keep abcdefghi 1")) (ax))))))) (aH (bf 3 (ag ar (ae 3) (cB (af (ag ar (ag ar (ag ar (ag ar (ag ar (ag ar (ag ar (fC (.str "fused ")) (ae 0)) (fC (.str " "))) (ae 0)) (fC (.str " "))) (ae 0)) (fC (.str " "))) (ae 1)) (af (ag ar (ag ar (ag ar (ag ar (ag ar (fC (.str "total ")) (ae 1)) (fC (.str " "))) (ae 0)) (fC (.str " "))) (ae 2)) (ax)))))) (aH (bf 3 (ag ar (ae 3) (cB (af (ag ar (ag ar (ag ar (fC (.str "total ")) (ae 0)) (fC (.str " "))) (ae 1)) (af (ag ar (ag ar (fC (.str "keep ")) (e8 ku (ae 0) ax)) (fC (.str " 1"))) (af (ag ar (fC (.str "root a_b ")) (ae 0)) (ax))))))) (aH (bf 3 (ag ar (ae 3) (cB (af (fC (.str "keep abcdefghi 1.")) (af (ag ar (ag ar (fC (.str "keep ")) (ae 0)) (fC (.str "2 x"))) (af (ag ar (ag ar (fC (.str "show ")) (ae 0)) (fC (.str "\n"))) (ax))))))) (bg (ag ar (ae 3) (cB (af (ag ar (ag ar (ag ar (ag ar (ag ar (fC (.str "fused  ")) (ae 0)) (fC (.str " "))) (ae 0)) (fC (.str " "))) (ae 0)) (ax)))))))))))))
noncomputable def FC:List PV->R PV:=a9 4 OC
noncomputable def Ci:FS:=aH (bf 2 (ag oDiv (ae 1) ‹4›)) (aH (cy (aP (ag bQ (ag oMod (ae 1) ‹4›) ‹0›)) (aH (bf 4 (aF Fy (af (ag aB (ae 0) ‹0›) (af (ag aB (ae 0) ‹1›) (ax))))) (bg (eT (af (ag aB (ae 4) (ag oMod (ae 2) (aF fE (af (ae 4) (ax))))) (af (fC (.str "row")) (ax)))))) (bM)) (aH (cy (aP (ag bQ (ag oMod (ae 1) ‹4›) ‹1›)) (aH (bf 4 (ag ar (aF FC (af (ag aB (ae 0) ‹0›) (af (ag aB (ae 0) ‹2›) (af (ag aB (ae 0) ‹3›) (ax))))) (aF Fz (af (ag aB (ae 0) ‹0›) (af (ag aB (ae 0) ‹1›) (ax)))))) (bg (eT (af (ag aB (ae 4) (ag oMod (ae 2) (aF fE (af (ae 4) (ax))))) (af (fC (.str "name")) (ax)))))) (bM)) (aH (cy (aP (ag bQ (ag oMod (ae 1) ‹4›) ‹2›)) (aH (bf 3 (cB (af (fC (.str "1.")) (af (fC (.str "")) (af (fC (.str "e5")) (af (fC (.str "+1")) (af (fC (.str "1e1000")) (af (fC (.str ".5")) (af (fC (.str "--1")) (af (fC (.str "None")) (af (fC (.str "endles")) (af (fC (.str "1,5")) (af (fC (.str "0x1")) (af (fC (.str "1e")) (af (fC (.str "inf")) (af (fC (.str "-none")) (ax))))))))))))))))) (bg (eT (af (ag ar (ag ar (ag ar (fC (.str "keep ")) (ag aB (ae 0) (ag oMod (ag oDiv (ae 2) ‹14›) ‹3›))) (fC (.str " "))) (ag aB (ae 3) (ag oMod (ae 2) ‹14›))) (af (fC (.str "text")) (ax)))))) (bM)) (aH (bf 3 (cB (af (fC (.str "Even")) (af (fC (.str "")) (af (fC (.str "near")) (af (fC (.str "u")) (af (fC (.str "upp")) (af (fC (.str "in\n")) (af (fC (.str "away0")) (af (fC (.str "nearest")) (ax))))))))))) (bg (eT (af (ag ar (fC (.str "way ")) (ag aB (ae 3) (ag oMod (ae 2) ‹8›))) (af (fC (.str "way")) (ax)))))))))
noncomputable def z9:List PV->R PV:=a9 5 Ci
noncomputable def Cj:GS:=fX (nX (aP (ag bQ (ag aB (ae 1) ‹0›) (fC (.str "wipe"))))) (gC (cI 30 "wipe" Ox (de 31 "slate" (bA 0)) (bK))) (fX (nX (aP (ag bQ (ag aB (ae 1) ‹0›) (fC (.str "way"))))) (gC (cI 30 "turn_to" eA (de 31 "slate" (bA 0)) (aN (gP (ag aB (ae 1) ‹1›)) (bK)))) (bF (gC (cI 31 "words_kept" za (bA 0) (aN (gP (cB (af (ag aB (ae 1) ‹1›) (ax)))) (bK)))) (gC (um (de 31 "kept" (bA 0)) (gP (ag aB (ae 1) ‹1›))))))
noncomputable def cf:List PV->aI->RS PV:=cG 2 Cj
noncomputable def OD:GS:=bF (gT 31 "width" (bA 0) (gP (ae 1))) (bF (gT 31 "slate" (bA 0) (mD 30 dY [.str "even"] (aN (gP (ae 1)) (bK)))) (gT 31 "kept" (bA 0) (zK)))
noncomputable def Ck:List PV->aI->RS PV:=cG 2 OD
noncomputable def OE:FS:=bg (e8 j0 (fC (.str "")) (af (e8 gK (aF B6 (af (ae 0) (af (ae 1) (ax)))) (af (fC (.str " ")) (ax))) (ax)))
noncomputable def zy:List PV->R PV:=a9 2 OE
noncomputable def OF:FS:=aH (cy (aP (ag bQ (ae 1) (fC (.str "show")))) (bg (qG)) (bM)) (aH (cy (aP (ag bQ (ae 1) (fC (.str "exact")))) (bg (qG)) (bM)) (aH (cy (aP (ag bQ (ae 1) (fC (.str "bits")))) (bg (ur " " "" (aF B6 (af (ae 0) (af (ae 2) (ax)))))) (bM)) (bg (qG))))
noncomputable def eO:List PV->R PV:=a9 3 OF
noncomputable def Sl:GS:=BK
noncomputable def OG:List PV->aI->RS PV:=cG 3 Sl
noncomputable def Cn:GS:=bF (gC (gP (aF xQ (af (ae 2) (ax))))) (bF (gL 4 (mD 30 dY [] (aN (de 31 "width" (bA 0)) (aN (de 30 "way" (de 31 "slate" (bA 0))) (bK))))) (bF (gL 5 (Fb (nX (aP (ag bQ (ae 1) (fC (.str "keep"))))) (cI 30 "read" xP (bA 4) (aN (gP (ag aB (ae 3) ‹0›)) (bK))) (gj OG (aN (bA 4) (aN (gP (ae 1)) (aN (cI 31 "words_kept" za (bA 0) (aN (gP (ae 3)) (bK))) (bK))))))) (bF (n5 (de 31 "kept" (bA 0)) (gP (ae 2)) (cI 30 "noted" Cd (de 31 "slate" (bA 0)) (aN (zL (aN (gP (ae 5)) (aN (de 30 "raised" (bA 4)) (bK)))) (bK)))) (eC (jF z3 (aN (de 30 "raised" (bA 4)) (bK)))))))
noncomputable def cR:List PV->aI->RS PV:=cG 6 Cn
noncomputable def zf:GS:=bF (gL 2 (gP (aF z5 (af (ae 1) (ax))))) (bF (gL 3 (gP (ag aB (ae 2) ‹0›))) (bF (fX (nX (aP (ag pC (ae 3) (fC (.tup [.str "keep",.str "plus",.str "minus",.str "times",.str "over",.str "left",.str "root",.str "whole",.str "turn",.str "fused",.str "total"]))))) (eC (cI 31 "make" cR (bA 0) (aN (gP (ae 3)) (aN (gP (ag aB (ae 2) ‹1›)) (aN (gP (mh (ae 2) (jr ‹2›) (mf))) (bK)))))) (fJ)) (bF (fX (nX (aP (ag bQ (ae 3) (fC (.str "marks"))))) (eC (jF z3 (aN (de 30 "raised" (de 31 "slate" (bA 0))) (bK)))) (fJ)) (bF (fX (nX (aP (ag pC (ae 3) (eT (af (fC (.str "drop")) (af (fC (.str "way")) (af (fC (.str "wipe")) (ax)))))))) (bF (gC (cI 31 "change" cf (bA 0) (aN (gP (ae 2)) (bK)))) (eC (gP (fC (.str "ok"))))) (fJ)) (bF (gL 4 (cI 31 "words_kept" za (bA 0) (aN (gP (mh (ae 2) (jr ‹1›) (mf))) (bK)))) (bF (fX (nX (aP (ag bQ (ae 3) (fC (.str "order"))))) (eC (BN)) (fJ)) (eC (jF eO (aN (de 31 "width" (bA 0)) (aN (gP (ae 3)) (aN (gP (ag aB (ae 4) ‹0›)) (bK))))))))))))
noncomputable def aS:List PV->aI->RS PV:=cG 5 zf
noncomputable def OH:GS:=bF (gL 3 (gP (fC .aU))) (bF (eW (gC (cI 31 "say" aS (bA 0) (aN (gP (ae 1)) (bK)))) [0,1,2,3,4,5,6,7,8,9] 0 4 3) (bF (gL 5 (gP (cB (af (gh [0,1,2,3,4,5,6,7,8,9] 9 (ae 3)) (af (gh [0,1,2,3,4,5,6,7,8,9] 8 (ae 3)) (af (gh [0,1,2,3,4,5,6,7,8,9] 6 (ae 3)) (af (gh [0,1,2,3,4,5,6,7,8,9] 3 (ae 3)) (ax)))))))) (bF (fX (nX (aP (ag hU (ae 5) (cB (af (ag bQ (ae 2) (fC (.str "row"))) (af (ag bQ (ae 2) (fC (.str "name"))) (af (ag bQ (ae 2) (fC (.str "text"))) (af (ag bQ (ae 2) (fC (.str "way"))) (ax))))))))) (eC (gP (fC (.bl false)))) (fJ)) (bF (fX (nX (nA (aP (gh [0,1,2,3,4,5,6,7,8,9] 5 (ae 3))) (nA (aP (gh [0,1,2,3,4,5,6,7,8,9] 4 (ae 3))) (aP (gh [0,1,2,3,4,5,6,7,8,9] 7 (ae 3)))))) (eC (gP (fC (.bl false)))) (fJ)) (eC (gP (me (qF [0,1,2,3,4,5,6,7,8,9] (ae 3)) (me (pU (gh [0,1,2,3,4,5,6,7,8,9] 1 (ae 3))) (pU (gh [0,1,2,3,4,5,6,7,8,9] 2 (ae 3)))))))))))
noncomputable def zh:List PV->aI->RS PV:=cG 6 OH
noncomputable def OI:GS:=bF (fX (qh (f9 (fR hU (iu 4 (eD (af ‹2› (ax))) (cI 31 "say" (jQ aS) (bA 0) (aN (gP (ag ar (fC (.str "bits ")) (ag aB (ae 1) (ae 4)))) (bK)))) (gP (ae 2)))) (f9 (fR hU (cI 31 "say" aS (bA 0) (aN (gP (fC (.str "marks"))) (bK))) (gP (aF z3 (af (ae 3) (ax))))))) (eC (gP (fC (.bl false)))) (fJ)) (eC (vw (gj zh (aN (bA 0) (aN (gP (ag ar (fC (.str "bits ")) (ag aB (ae 1) ‹2›))) (aN (gP (fC (.str "name"))) (bK))))) (gj zh (aN (bA 0) (aN (gP (ag ar (fC (.str "drop ")) (ag aB (ae 1) ‹3›))) (aN (gP (fC (.str "name"))) (bK)))))))
noncomputable def Co:List PV->aI->RS PV:=cG 4 OI
noncomputable def zv:GS:=bF (j8 [8,11] (gP (aF z9 (af (ae 3) (af (ag oMod (ag ja (ae 7) ‹414213562373095048801689›) (ag ar (ag yD ‹10› ‹24›) ‹7›)) (ax)))))) (fX (qh (kY (f9 (gj zh (aN (bA 5) (aN (gP (ae 8)) (aN (gP (ae 11)) (bK))))))) (kY (f9 (gj Co (aN (bA 5) (aN (gP (ae 3)) (aN (gP (ae 6)) (aN (gP (ae 10)) (bK))))))))) (eC (gP (fC (.bl false)))) (fJ))
noncomputable def zw:GS:=fX (qh (kY (f9 (gj zh (aN (bA 5) (aN (gP (ae 8)) (aN (gP (fC (.str "row"))) (bK))))))) (kY (f9 (gj Co (aN (bA 5) (aN (gP (ae 3)) (aN (gP (ae 6)) (aN (gP (ae 10)) (bK))))))))) (eC (gP (fC (.bl false)))) (fJ)
noncomputable def OJ:GS:=bF (gL 1 (gP (aF Fp (af (aF zr (af (ae 0) (af ‹0› (ax)))) (ax))))) (bF (gL 2 (gP (aF B0 (af (ag aB (ae 1) ‹0›) (af (ag aB (ae 1) ‹1›) (ax)))))) (bF (gL 3 (gP (aF Cg (af (aF zr (af (ae 0) (af ‹1› (ax)))) (ax))))) (bF (gL 4 (gP (ag aB (cB (af (fC (.str "even")) (af (fC (.str "away")) (af (fC (.str "in")) (af (fC (.str "up")) (af (fC (.str "down")) (ax))))))) (ag oMod (aF zr (af (ae 0) (af ‹1› (ax)))) ‹5›)))) (bF (gL 5 (mD 31 Ck [] (aN (gP (ae 2)) (bK)))) (bF (j8 [9,10] (gP (aF cA (af (ae 2) (af (fC (.str "0.1")) (af (ae 4) (ax))))))) (bF (fX (qh (f9 (fR hU (cI 31 "say" aS (bA 5) (aN (gP (ag ar (fC (.str "way ")) (ae 4))) (bK))) (gP (fC (.str "ok"))))) (f9 (fR hU (cI 31 "say" aS (bA 5) (aN (gP (ag ar (ag ar (fC (.str "keep ")) (ag aB (ae 3) ‹0›)) (fC (.str " 0.1")))) (bK))) (gP (aF z3 (af (ae 10) (ax))))))) (eC (gP (fC (.bl false)))) (fJ)) (bF (fX (f9 (fR hU (cI 31 "say" aS (bA 5) (aN (gP (ag ar (ag ar (fC (.str "keep ")) (ag aB (ae 3) ‹1›)) (fC (.str " -1")))) (bK))) (gP (fC (.str "clean"))))) (eC (gP (fC (.bl false)))) (fJ)) (bF (gL 6 (gP (cB (af (aF zy (af (ae 2) (af (ae 9) (ax)))) (af (aF zy (af (ae 2) (af (ag aB (aF (dflt cA [.str "even"]) (af (ae 2) (af (fC (.str "-1")) (ax)))) ‹0›) (ax)))) (ax)))))) (bF (jO 7 (lB (mh (ae 0) (jr ‹2›) (jr ‹14›))) (zv)) (bF (jO 8 (lB (cB (af (fC .aU) (af ‹5› (af (fC (.bl true)) (af (cB (af (fC (.str "wipe")) (ax))) (af (eT (af (fC (.str "marks")) (ax))) (ax)))))))) (zw)) (bF (fX (f9 (fR hU (cI 31 "say" aS (bA 5) (aN (gP (ag ar (ag ar (fC (.str "keep ")) (ag aB (ae 3) ‹2›)) (fC (.str " -0.1")))) (bK))) (gP (aF z3 (af (ag aB (aF cA (af (ae 2) (af (fC (.str "-0.1")) (af (ae 4) (ax))))) ‹1›) (ax)))))) (eC (gP (fC (.bl false)))) (fJ)) (bF (fX (f9 (fR hU (cI 31 "say" aS (bA 5) (aN (gP (ag ar (fC (.str "bits ")) (ag aB (ae 3) ‹2›))) (bK))) (gP (aF zy (af (ae 2) (af (ag aB (aF cA (af (ae 2) (af (fC (.str "-0.1")) (af (ae 4) (ax))))) ‹0›) (ax))))))) (eC (gP (fC (.bl false)))) (fJ)) (eC (vw (fR bQ (cI 31 "say" aS (bA 5) (aN (gP (ag ar (fC (.str "drop ")) (ag aB (ae 3) ‹2›))) (bK))) (gP (fC (.str "ok")))) (gj zh (aN (bA 5) (aN (gP (ag ar (fC (.str "show ")) (ag aB (ae 3) ‹2›))) (aN (gP (fC (.str "name"))) (bK)))))))))))))))))))
noncomputable def q_law_v93:List PV->aI->RS PV:=cG 12 OJ
open PySem.Builtin.Str PySem.NumText
noncomputable def tx(l:List Nat):PySem.Str:=⟨l.toArray⟩
theorem g8(l:List Nat):(tx l).cps.toList=l:=by simp[tx]
theorem Md(z:PySem.Str):z=tx z.cps.toList:=by cases z;simp[tx]
theorem rB(h:tx a=tx b):a=b:=by rw[<- g8 a,h,g8]
theorem og(a b:List Nat):tx a++tx b=tx (a++b):=by
  show(⟨a.toArray++b.toArray⟩:PySem.Str)=_;simp[tx]
theorem dS(a:List Nat):(tx a).length=a.length:=by show(tx a).cps.size=_;simp[tx]
theorem eX(a b:List Nat):(tx a == tx b)=decide (a=b):=by
  by_cases h:a=b
  . subst h;simp
  . rw[V3 h];exact Wr.mpr fun q=>h (rB q)
theorem gq{n:Nat}(h:n<=16000000):n<=sizeLine:=Wh h (by decide)
theorem iD{a b:List Nat}(h:a.length+b.length<=16000000):ar (.str (tx a)) (.str (tx b))=.ok (.str (tx (a++b))):=by
  show(if _ then _ else _)=_;rw[dS,dS,VP (gq h),og]
theorem sq{a:List Nat}(h:a.length<=16000000):fE [.str (tx a)]=.ok (.int a.length):=by
  show(if _ then _ else _)=_;rw[dS,VP (gq h)]
theorem FD(a b:List Nat):bQ (.str (tx a)) (.str (tx b))=.ok (.bl (decide (a=b))):=by rw[<- eX];rfl
theorem Sm(a b:List Nat):hU (.str (tx a)) (.str (tx b))=.ok (.bl (!decide (a=b))):=by rw[<- eX];rfl
theorem Qg{z:List Nat}{lo hi:Option Int}(h:z.length<=16000000):lz (.str (tx z)) lo hi=.ok (.str (tx ((z.drop (fH z.length 0 lo)).take (fH z.length z.length hi - fH z.length 0 lo)))):=by
  show(if _ then _ else _)=_;rw[dS,VP (gq h)];unfold nB;rw[g8];rfl
theorem FF{k:Int} (h:0<=k):fH n d (some k)=min k.toNat n:=VQ (by omega)
theorem FH{z:List Nat}{k:Int}(h:z.length<=16000000)(h0:0<=k):lz (.str (tx z)) (some k) none=.ok (.str (tx (z.drop k.toNat))):=by
  rw[Qg h,FF h0];show R.ok (PV.str (tx ((z.drop _).take (z.length - _))))=_
  congr 3;by_cases c:k.toNat<=z.length
  . rw[Nat.min_eq_left c];exact ZT (by rw[Yz];omega)
  . rw[Nat.min_eq_right (by omega),ZU (VU _),ZU (by omega)];simp
theorem Sn(c:Nat)(l:List Nat):pC (.str (tx [c])) (.str (tx l))=.ok (.bl (decide (c∈l))):=by
  have e:=StrLaws.found_one (tx l) c;rw[g8]at e;show R.ok (PV.bl (!(occurrences (tx l) ⟨#[c]⟩ 0 (tx l).length 1).isEmpty))=_
  rw[e]
theorem xR(c:Nat)(l:List Nat):ie [.str (tx l),.str (tx [c])]=.ok (.bl (decide (l.head?=some c))):=by
  show R.ok (PV.bl (Txt.startswith (tx l) (tx [c])))=_;congr 2;unfold Txt.startswith;simp only[subAt,dS];cases l with
  | nil=>rfl
  | cons x r =>
    have e:(tx (x::r)).cps.extract 0 (0+[c].length)=#[x]:=by apply Zw.mp;simp[tx]
    rw[e];show(decide _&&(#[x] == #[c]))=_
    simp;rfl
noncomputable def pt(c:Nat):List Nat->List Nat×List Nat×List Nat
  | []=>([],[],[])
  | x::r=>if x=c then ([],[c],r) else (x::(pt c r).1,(pt c r).2.1,(pt c r).2.2)
theorem zO{c:Nat}:∀{a:List Nat},c ∉ a->pt c a=(a,[],[])
  | [],_=>rfl
  | x::r,h=>by
    have h1:¬ x=c:=fun q=>h (q ▸ Wf);have ih:=zO (c:=c) (a:=r) fun q=>h (V6 _ q)
    show(if x=c then _ else _)=_;rw[VQ h1,ih]
theorem rC{c:Nat}{b:List Nat}:∀{a:List Nat},c ∉ a->pt c (a++c::b)=(a,[c],b)
  | [],_=>VP rfl
  | x::r,h=>by
    have h1:¬ x=c:=fun q=>h (q ▸ Wf);have ih:=rC (c:=c) (b:=b) (a:=r) fun q=>h (V6 _ q)
    show(if x=c then _ else (x::(pt c (r++c::b)).1,(pt c (r++c::b)).2.1,(pt c (r++c::b)).2.2))=_;rw[VQ h1,ih]
theorem FI(c:Nat)(l:List Nat):(c ∉ l/\pt c l=(l,[],[]))\/∃ a b,c ∉ a/\l=a++c::b/\pt c l=(a,[c],b):=by
  induction l with
  | nil=>exact .inl ⟨by simp,rfl⟩
  | cons x r ih =>
    by_cases e:x=c
    . subst e;exact .inr ⟨[],r,by simp,rfl,VP rfl⟩
    . rcases ih with⟨h,p⟩ | ⟨a,b,h,q,p⟩
      . exact .inl ⟨by simp[h,Xb e],zO (by simp[h,Xb e])⟩
      . subst q;exact .inr ⟨x::a,b,by simp[h,Xb e],rfl,rC (a:=x::a) (by simp[h,Xb e])⟩
theorem Cp(c:Nat)(l:List Nat):(pt c l).1.length+(pt c l).2.1.length+(pt c l).2.2.length=l.length:=by
  rcases FI c l with⟨_,p⟩ | ⟨a,b,_,q,p⟩
  . rw[p];simp
  . rw[p,q];simp;omega
theorem Qh(x:PySem.Str)(c i:Nat):StrLaws.At x ⟨#[c]⟩ x.length i↔x.cps.toList[i]?=some c:=StrLaws.subAt_one x c i
theorem xS(l:List Nat)(i j:Nat):strSub (tx l) i j=tx ((l.take j).drop i):=by
  unfold strSub tx;congr 1;apply Zw.mp;simp[List.extract];rw[List.drop_take]
theorem FJ{l:List Nat}{c:Nat}(h:l.length<=16000000):gQ [.str (tx l),.str (tx [c])]=.ok (.tup [.str (tx (pt c l).1),.str (tx (pt c l).2.1),.str (tx (pt c l).2.2)]):=by
  have g:Txt.partition (tx l) (tx [c])=(tx (pt c l).1,tx (pt c l).2.1,tx (pt c l).2.2):=by
    have el:tx [c]=⟨#[c]⟩:=rfl;rw[el];have oc:∀ i,StrLaws.At (tx l) ⟨#[c]⟩ (tx l).length i↔l[i]?=some c:=fun i=>by rw[Qh,g8]
    rcases PyProof.Rows.partition_whole (tx l) ⟨#[c]⟩with⟨e,n⟩ | ⟨i,e,p,n⟩
    . rw[e];have:c ∉ l:=fun q=>by
        obtain⟨i,hi⟩:=aaf.mp q;exact n i ((oc i).mpr hi)
      rw[zO this];rfl
    . rw[e];have p':=(oc i).mp p
      obtain⟨hi,hv⟩:=VS.mp p';have So:l=l.take i++c::l.drop (i+1):=by rw[<- hv,List.getElem_cons_drop,List.take_append_drop]
      have nm:c ∉ l.take i:=fun q=>by
        obtain⟨k,hk⟩:=aaf.mp q;have KN:k<i:=by
          have:=(VS.mp hk).1;rw[Zj]at this;omega
        rw[Zk KN]at hk;exact n k KN ((oc k).mpr hk)
      have q:=rC (b:=l.drop (i+1)) nm;rw[<- So]at q;rw[q];refine Prod.ext ?_ (Prod.ext rfl ?_)
      . show strSub (tx l) 0 i=_;rw[xS,Z1]
      . show strSub (tx l) (i+1) (tx l).length=_;rw[xS,dS,List.take_length]
  show(if _ then _ else _)=_;rw[dS,dS,VP ⟨gq h,rfl⟩,g]
noncomputable def dg(n:Nat):List Nat:=(Nat.toDigits 10 n).map Char.toNat
noncomputable def KO(a:Int):List Nat:=if a<0 then 45::dg a.natAbs else dg a.natAbs
theorem G9{a:Int}(h:0<=a):KO a=dg a.natAbs:=VQ (by omega)
theorem Ha{a:Int}(h:a<0):KO a=45::dg a.natAbs:=VP h
theorem str_int(a:Int):PySem.Str.ofString (toString a)=tx (KO a):=by
  have nat:∀ n:Nat,(toString n).toList=Nat.toDigits 10 n:=fun n=>by
    show(Nat.repr n).toList=_;unfold Nat.repr;simp
  rw[Str.ofString_eq_toList];unfold tx;congr 2;cases a with
  | ofNat n =>
    rw[G9 (a:=Int.ofNat n) (Int.natCast_nonneg n)];show List.map Char.toNat (toString n).toList=_
    rw[nat];rfl
  | negSucc n =>
    rw[Ha (Int.negSucc_lt_zero n)];show List.map Char.toNat ("-" ++ toString (n+1)).toList=_
    rw[String.toList_append,nat];rfl
theorem DU{l:List Nat}(h:AllDigits l)(h1:l≠[])(h2:l.length<=4300):kX [.str (tx l)]=.ok (.int (digitsVal l:Nat)):=by
  have e:=intText_digits (x:=tx l) (by rw[g8];exact h) (by rw[g8];exact h1) (by rw[dS];exact h2);rw[g8]at e;show(if _ then _ else _)=_
  rw[dS,VP (gq (by omega)),e]
noncomputable def qj(l:List Nat):Bool:=l.all fun c=>decide (48<=c/\c<=57)
theorem DV(l:List Nat):qj l=true↔AllDigits l:=by
  unfold qj;rw[Ww];exact⟨fun h c hc=>Wv (h c hc),fun h c hc=>VX (h c hc)⟩
noncomputable def zP:List Nat:=[48,49,50,51,52,53,54,55,56,57]
theorem DW:PySem.Str.ofString "0123456789"=tx zP:=by decide +kernel
theorem DX(c:Nat):c∈zP↔48<=c/\c<=57:=by
  unfold zP;simp;omega
theorem Hb(c:Nat):pC (.str (tx [c])) (.str (Str.ofString "0123456789"))=.ok (.bl (decide (48<=c/\c<=57))):=by
  rw[DW,Sn];congr 2;exact YB.mpr (DX c)
theorem ll:Str.ofString "e"=tx [101]:=by decide +kernel
theorem gE:Str.ofString "-"=tx [45]:=by decide +kernel
theorem lq:Str.ofString "."=tx [46]:=by decide +kernel
theorem mE:Str.ofString ""=tx []:=by decide +kernel
theorem Me:Str.ofString "0"=tx [48]:=by decide +kernel
theorem KP(h:AllDigits a)(g:AllDigits b):AllDigits (a++b):=fun c hc=>(XF.mp hc).elim (h c) (g c)
theorem KQ:AllDigits []:=fun c hc=>absurd hc (by simp)
end Cm
namespace Cm
open PySem Mi
theorem zQ{ns:List Int}{i:Int}(h0:0<=i)(h:i<ns.length):aB (.lst (ns.map PV.int)) (.int i)=.ok (.int (ns.getD i.toNat 0)):=by
  refine kA h0 ?_;have hl:i.toNat<ns.length:=by omega
  rw[Wt,XI,V9 hl];rfl
theorem OK(ns:List Int)(k:Int)(hk:0<=k):zr [.lst (ns.map PV.int),.int k]=.ok (.int (ns.getD k.toNat 0)):=by
  by_cases h:k<(ns.length:Int)
  . dsimp![zr,Kz,V5,h,zQ hk h]
  . have e:ns.getD k.toNat 0=0:=by
      rw[XI,WQ (by omega)];rfl
    dsimp![zr,Kz,V5,h,e]
theorem mem_range{x:PV}{lo hi st:Int}(hs:0<st)(h:x∈cV lo hi st):∃ i,x=.int i/\lo<=i/\i<hi:=by
  unfold cV at h;rw[WU]at h;obtain⟨k,hk,rfl⟩:=h;rw[XU]at hk;unfold gI at hk;rw[VP hs]at hk;refine⟨_,rfl,?_,?_⟩
  . have:=WK (Int.natCast_nonneg k) (Wn hs);omega
  . by_cases hl:lo<hi
    . rw[VP hl]at hk;have h1:(k:Int)<=(hi - lo - 1)/st:=by
        have:0<=(hi - lo - 1)/st:=WH (by omega) (by omega);omega
      have h2:=V7 h1 (Wn hs);have h3:(hi - lo - 1)/st*st<=hi - lo - 1:=Int.ediv_mul_le _ (by omega)
      omega
    . rw[VQ hl]at hk;omega
theorem oN(n:Nat)(it:FA)(t:FT)(f:FE)(x0:Option PV)(ρ0:ay):cL n it t f (x0::ρ0)=(it (x0::ρ0)).bind (kT n t f (x0::ρ0)):=rfl
theorem mF{t:FT}{l vs:List PV} (h:l.length<=1000000) (e:fw n t f ρ l=.ok vs):kT n t f ρ l=.ok (.lst vs):=by
  unfold kT;rw[VP h,e]
open PySem.NumText
theorem dh(b:List PV->R PV)(a:FE)(r:FA)(x0:Option PV)(ρ0:ay):e8 b a r (x0::ρ0)=(a (x0::ρ0)).bind (zB b (r (x0::ρ0))):=rfl
theorem cg(b:List PV->R PV)(z:Str)(l:List PV):zB b (.ok l) (.str z)=b (.str z::l):=rfl
theorem Cq{α:Type}(g:α->Bool)(l:List α):jD (l.map fun c=>PV.bl (g c))=some (l.map g):=by
  induction l with
  | nil=>rfl
  | cons c r ih=>show(jD _).map _=_;rw[ih];rfl
theorem vF{α:Type}(g:α->Bool)(l:List α):lE [.lst (l.map fun c=>PV.bl (g c))]=.ok (.bl (l.all g)):=by
  unfold lE;simp only[Cq];congr 2;rw[List.all_map];rfl
noncomputable def gu(l:List Nat):Bool:=!decide (l=[])&&qj l
theorem iE(l:List Nat):gu l=true↔l≠[]/\AllDigits l:=by
  unfold gu;rw[VR,DV];simp
theorem oh{f:FE} (g:Nat->PV):∀{l:List Nat},(∀ c∈l,f (cT n ρ ++[some (.str (tx [c]))])=.ok (g c))->fw n f7 f ρ (l.map fun c=>PV.str (tx [c]))=.ok (l.map g)
  | [],_=>rfl
  | c::r,h=>by
    have ih:=oh g (l:=r) fun q hq=>h q (V6 _ hq);have e:=h c Wf
    show(match f (cT n ρ ++[some (.str (tx [c]))])with
      | .ok v=>(match fw n f7 f ρ (r.map fun c=>PV.str (tx [c]))with
        | .ok vs=>R.ok (v::vs)
        | _=>.stuck)
      | _=>.stuck)=_
    rw[e,ih];rfl
theorem FK{l:List Nat}(hl:l.length<=100000):zj [.str (tx l)]=if gu l=true then .ok .aU else .exc 6:=by
  have cm:cL 1 (lC (ae 0)) f7 (ag pC (ae 1) (fC (.str "0123456789"))) [some (.str (tx l))]=.ok (.lst (l.map fun c=>PV.bl (decide (48<=c/\c<=57)))):=by
    have e:lC (ae 0) [some (.str (tx l))]=.ok (l.map fun c=>PV.str (tx [c])):=by
      show R.ok ((tx l).cps.toList.map fun c=>PV.str (tx [c]))=_;rw[g8]
    rw[oN,e];refine mF (by rw[V5];omega) (oh _ fun c _=>?_);exact Hb c
  have al:=vF (fun c:Nat=>decide (48<=c/\c<=57)) l;have FL:aF lE (af (cL 1 (lC (ae 0)) f7 (ag pC (ae 1) (fC (.str "0123456789")))) ax) [some (.str (tx l))]=.ok (.bl (qj l)):=by
    dsimp![cm,al];rfl
  have q:gu l=(!decide (l=[])&&qj l):=rfl;rw[q];by_cases h:l=[]
  . dsimp![zj,Fv,List.replicate,mE,eX,h]
  . by_cases g:qj l=true
    . dsimp![zj,Fv,List.replicate,mE,eX,h,FL,g]
    . have g':qj l=false:=by simpa using g
      dsimp![zj,Fv,List.replicate,mE,eX,h,FL,g']
noncomputable def qk(l:List Nat):Option Int :=
  let b:=decide (l.head?=some 45)
  let f:=if b then l.drop 1 else l
  if gu f=true/\f.length<=3 then some (if b then -(digitsVal f:Int) else (digitsVal f:Int)) else none
noncomputable def jR:Option Int->R PV
  | some i=>.ok (.int i)
  | none=>.exc 6
theorem Sq{l:List Nat}(hl:l.length<=100000):ze [.str (tx l)]=jR (qk l):=by
  have st:=xR 45 l;have dr:=FH (z:=l) (k:=1) (by omega) (by decide)
  rw[show(1:Int).toNat=1 from rfl]at dr;unfold qk;cases b:decide (l.head?=some 45)
  . rw[b]at st;have ch:=FK hl
    have ln:=sq (a:=l) (by omega);simp only[WB,Xr];by_cases g:gu l=true
    . by_cases h3:l.length<=3
      . have it:=DU ((iE l).mp g).2 ((iE l).mp g).1 (by omega);have n3:decide ((3:Int)<(l.length:Int))=false:=V3 (by omega)
        dsimp![ze,zo,List.replicate,dh,cg,gE,st,ch,g,ln,n3,it,h3,Yf];rfl
      . have n3:decide ((3:Int)<(l.length:Int))=true:=VX (by omega);dsimp![ze,zo,List.replicate,dh,cg,gE,st,ch,g,ln,n3,h3,and_false];rfl
    . have g':gu l=false:=by simpa using g
      dsimp![ze,zo,List.replicate,dh,cg,gE,st,ch,g',WB,ZF];rfl
  . rw[b]at st;have hf:(l.drop 1).length<=100000:=by rw[Yz];omega
    generalize l.drop 1=f at *;have ch:=FK hf
    have ln:=sq (a:=f) (by omega);simp only[W2];by_cases g:gu f=true
    . by_cases h3:f.length<=3
      . have it:=DU ((iE f).mp g).2 ((iE f).mp g).1 (by omega);have n3:decide ((3:Int)<(f.length:Int))=false:=V3 (by omega)
        dsimp![ze,zo,List.replicate,dh,cg,gE,st,dr,ch,g,ln,n3,it,h3,Yf];rfl
      . have n3:decide ((3:Int)<(f.length:Int))=true:=VX (by omega);dsimp![ze,zo,List.replicate,dh,cg,gE,st,dr,ch,g,ln,n3,h3,and_false];rfl
    . have g':gu f=false:=by simpa using g
      dsimp![ze,zo,List.replicate,dh,cg,gE,st,dr,ch,g',WB,ZF];rfl
noncomputable def hG(l:List Nat):Option (Bool×Nat×Int) :=
  let b:=decide (l.head?=some 45)
  let h:=pt 101 (if b then l.drop 1 else l)
  let r:=pt 46 h.1
  if 1200<l.length then none else
  if gu r.1=true/\(r.2.1=[46]->gu r.2.2=true) then
    (if h.2.1=[101] then qk h.2.2 else some 0).bind fun p=>some (b,digitsVal (r.1++r.2.2),p - r.2.2.length)
  else none
noncomputable def zR:Option (Bool×Nat×Int)->R PV
  | some (b,w,t)=>.ok (.tup [.bl b,.int w,.int t])
  | none=>.exc 6
theorem xT(h:(pt c l).2.1≠[c]):(pt c l).2.2=[]/\(pt c l).2.1=[]:=by
  rcases FI c l with⟨_,p⟩ | ⟨a,b,_,_,p⟩
  . rw[p];exact⟨rfl,rfl⟩
  . rw[p]at h;exact absurd rfl h
theorem Sr{l:List Nat}(hl:1200<l.length)(h2:l.length<=16000000):z4 [.str (tx l)]=.exc 6:=by
  have ln:=sq h2;have n3:decide ((1200:Int)<(l.length:Int))=true:=VX (by omega)
  dsimp![z4,zc,List.replicate,ln,n3]<;>rfl
theorem Ss{l f:List Nat}{b:Bool}(hl:l.length<=1200)(hb:decide (l.head?=some 45)=b)(hf:(if b then l.drop 1 else l)=f) :
    z4 [.str (tx l)]=(if gu (pt 46 (pt 101 f).1).1=true/\((pt 46 (pt 101 f).1).2.1=[46]->gu (pt 46 (pt 101 f).1).2.2=true) then
      (jR (if (pt 101 f).2.1=[101] then qk (pt 101 f).2.2 else some 0)).bind fun p=>(fh p (.int ((pt 46 (pt 101 f).1).2.2.length:Nat))).bind fun q=>.ok (.tup [.bl b,.int (digitsVal ((pt 46 (pt 101 f).1).1 ++(pt 46 (pt 101 f).1).2.2):Nat),q])
      else .exc 6):=by
  have st:=xR 45 l;rw[hb]at st;have dr:=FH (z:=l) (k:=1) (by omega) (by decide)
  rw[show(1:Int).toNat=1 from rfl]at dr;have ln:=sq (a:=l) (by omega)
  have n3:decide ((1200:Int)<(l.length:Int))=false:=V3 (by omega);have fl:f.length<=1200:=by
    rw[<- hf];split
    . rw[Yz];omega
    . exact hl
  have p1:=FJ (l:=f) (c:=101) (by omega);have pl:=Cp 101 f
  have tl:=xT (c:=101) (l:=f);generalize pt 101 f=H at *;obtain⟨h0,h1,h2⟩:=H;simp only at pl;have p2:=FJ (l:=h0) (c:=46) (by omega)
  have ql:=Cp 46 h0;have Su:=xT (c:=46) (l:=h0)
  generalize pt 46 h0=G at *;obtain⟨r0,r1,r2⟩:=G;simp only at *;have c0:=FK (l:=r0) (by omega)
  have c2:=FK (l:=r2) (by omega);have pw:=Sq (l:=h2) (by omega)
  have l2:=sq (a:=r2) (by omega);have ad:=iD (a:=r0) (b:=r2) (by omega)
  have fst:iQ (aP (ae 1)) (mh (ae 0) (jr ‹1›) mf) (ae 0) [some (.str (tx l)),some (.bl b),none,none,none]=.ok (.str (tx f)):=by
    cases b
    . simp only[WB,Xr]at hf;dsimp![WB,Xr];rw[hf]
    . simp only[W2]at hf;dsimp![W2];rw[dr,hf]
  by_cases g0:gu r0=true
  . have rest:(r1=[46]->gu r2=true)->kX [.str (tx (r0++r2))]=.ok (.int (digitsVal (r0++r2):Nat)):=fun g2=>by
      refine DU ?_ ?_ (by rw[VV];omega)
      . refine KP ((iE r0).mp g0).2 ?_;by_cases e:r1=[46]
        . exact((iE r2).mp (g2 e)).2
        . rw[(Su e).1];exact KQ
      . intro q;exact((iE r0).mp g0).1 (List.append_eq_nil_iff.mp q).1
    by_cases e1:r1=[46]
    . by_cases g2:gu r2=true
      . have it:=rest fun _=>g2;by_cases e2:h1=[101]
        . cases hp:qk h2 with
          | none =>
            rw[hp]at pw;simp only[jR]at pw;dsimp![z4,zc,List.replicate,ln,n3,dh,cg,gE,ll,lq,st,fst,p1,p2,c0,g0,eX,e1,c2,g2,e2,pw,hp,jR,Yf,Yo,R.bind]
          | some i =>
            rw[hp]at pw;simp only[jR]at pw;dsimp![z4,zc,List.replicate,ln,n3,dh,cg,gE,ll,lq,st,fst,p1,p2,c0,g0,eX,e1,c2,g2,e2,pw,hp,jR,Yf,Yo,R.bind,ad,it,l2]
        . dsimp![z4,zc,List.replicate,ln,n3,dh,cg,gE,ll,lq,st,fst,p1,p2,c0,g0,eX,e1,c2,g2,e2,jR,Yf,Yo,R.bind,ad,it,l2]
      . have Sv:gu r2=false:=by simpa using g2
        dsimp![z4,zc,List.replicate,ln,n3,dh,cg,gE,ll,lq,st,fst,p1,p2,c0,g0,eX,e1,c2,Sv,WB,true_and,imp_false,Ze]
    . have it:=rest fun q=>absurd q e1;by_cases e2:h1=[101]
      . cases hp:qk h2 with
        | none =>
          rw[hp]at pw;simp only[jR]at pw;dsimp![z4,zc,List.replicate,ln,n3,dh,cg,gE,ll,lq,st,fst,p1,p2,c0,g0,eX,e1,e2,pw,hp,jR,aaz,Yf,Yo,R.bind]
        | some i =>
          rw[hp]at pw;simp only[jR]at pw;dsimp![z4,zc,List.replicate,ln,n3,dh,cg,gE,ll,lq,st,fst,p1,p2,c0,g0,eX,e1,e2,pw,hp,jR,aaz,Yf,Yo,R.bind,ad,it,l2]
      . dsimp![z4,zc,List.replicate,ln,n3,dh,cg,gE,ll,lq,st,fst,p1,p2,c0,g0,eX,e1,e2,jR,aaz,Yf,Yo,R.bind,ad,it,l2]
  . have Sw:gu r0=false:=by simpa using g0
    dsimp![z4,zc,List.replicate,ln,n3,dh,cg,gE,ll,lq,st,fst,p1,p2,c0,Sw,WB,ZF]
theorem KR{l:List Nat}(h:l.length<=16000000):z4 [.str (tx l)]=zR (hG l):=by
  by_cases hl:1200<l.length
  . rw[Sr hl h];unfold hG;simp only[VP hl];rfl
  . rw[Ss (by omega) rfl rfl];unfold hG;simp only[VQ hl];generalize pt 101 (if decide (l.head?=some 45)=true then l.drop 1 else l)=H;split
    . cases (if H.2.1=[101] then qk H.2.2 else some 0)<;>rfl
    . rfl
end Cm
namespace Cm
open PySem Mi
def Wd(e f:Int):Prop:=2<=e/\e<=11/\1<=f/\f<=60
theorem oO{b:Int}(h0:0<=b)(h:b<=1000):lh 1 b:=ji (n:=1) h0 (by decide) (by omega)
theorem FN{x lo hi:Int}(h0:lo<=x)(h1:x<=hi):fF [.int x,.int lo,.int hi]=.ok (.bl true):=by
  dsimp![fF,NZ,Ky,NY,h0,h1]
theorem OL(h:Wd e f):B0 [.int e,.int f]=.ok (e∣f):=by
  obtain⟨h1,h2,h3,h4⟩:=h;dsimp![B0,N0,FN h1 h2,FN h3 h4]
theorem cast2:((2:Nat):Int)=2:=rfl
theorem rD(h:Wd e f):zb [e∣f]=.ok .aU:=by
  dsimp![zb,N1,cast2,OL h,X5,W0,WB,Xr]
theorem Sx(h:Wd e f):Fo [e∣f]=.ok (.int (p2 (1+e+f))):=by
  have:=rD h;obtain⟨h1,h2,h3,h4⟩:=h;dsimp![Fo,N2,this,oO (b:=1+e+f) (by omega) (by omega),W4]
theorem OM(h:Wd e f):B1 [e∣f]=.ok (.int (p2 (e - 1) - 1)):=by
  have:=rD h;obtain⟨h1,h2,h3,h4⟩:=h;dsimp![B1,N3,this,oO (b:=e - 1) (by omega) (by omega),W4]
theorem ON(h:Wd e f):B2 [e∣f]=.ok (.int (1 - (p2 (e - 1) - 1) - f)):=by
  dsimp![B2,N4,OM h]
theorem FP{c:Int}(h0:0<=c)(h:c<=1000):zi [.int c]=.ok (.int (p2 c - 1)):=by
  dsimp![zi,N5,oO h0 h,W4]
theorem OO{e f w:Int}(h:Wd e f)(h0:0<=w)(h1:w<p2 (1+e+f)):B4 [e∣f,.int w]=.ok .aU:=by
  dsimp![B4,N9,Sx h,FN h0 (show w<=p2 (1+e+f) - 1 by omega)]
theorem KU{x c:Int}(hc:0<=c)(EE:c<=1000)(h0:0<=x)(h1:x<p2 c):xH [.int x,.int c]=.ok .aU:=by
  dsimp![xH,N7,FP hc EE,FN h0 (show x<=p2 c - 1 by omega)]
theorem Sy{e f s x y:Int}(h:Wd e f)(s0:0<=s)(s1:s<2)(x0:0<=x)(x1:x<p2 e)(y0:0<=y)(y1:y<p2 f) :
    B3 [e∣f,.int s,.int x,.int y]=.ok (.int (s*p2 (e+f)+x*p2 f+y)):=by
  have a:=rD h;obtain⟨h1,h2,h3,h4⟩:=h;have b:=KU (x:=s) (c:=1) (by decide) (by decide) s0 (by rw[zM];exact s1)
  have c:=KU (by omega) (by omega) x0 x1;have d:=KU (by omega) (by omega) y0 y1
  have bx:nb x<=11:=dP (by
    have:=lj (a:=e) (b:=11) (by omega) (by omega);have Sz:p2 11=2048:=by decide
    omega)
  have o1:lh s (e+f):=ji (n:=10) (by omega) (dP (by omega)) (by omega);have o2:lh x f:=ji (n:=11) (by omega) bx (by omega)
  dsimp![B3,N8,a,b,c,d,o1,o2]
theorem and_ones{x c:Int}(h0:0<=x)(hc:0<=c):Builtin.bitAnd x (p2 c - 1)=x%p2 c:=by
  have hp:=aY c;unfold Builtin.bitAnd;rw[VX h0,VX (show 0<=p2 c - 1 by omega)];show(((x.toNat &&& (p2 c - 1).toNat:Nat)):Int)=_
  have e:(p2 c - 1).toNat=2 ^ c.toNat - 1:=by
    have e1:p2 c=((2 ^ c.toNat:Nat):Int):=by show(2:Int) ^ c.toNat=_;push_cast;rfl
    rw[e1];omega
  rw[e,Nat.and_two_pow_sub_one_eq_mod];have e1:p2 c=((2 ^ c.toNat:Nat):Int):=by show(2:Int) ^ c.toNat=_;push_cast;rfl
  rw[e1]
  push_cast
  rw[YZ h0]
theorem SD{e f w:Int}(h:Wd e f)(h0:0<=w)(h1:w<p2 (1+e+f)) :
    Fq [e∣f,.int w]=.ok (.tup [.int (w/p2 (e+f)),.int (w/p2 f%p2 e),.int (w%p2 f)]):=by
  have a:=OO h h0 h1;obtain⟨g1,g2,g3,g4⟩:=h;have o1:oJ (e+f):=by show 0<=e+f;omega
  have o2:oJ f:=by show 0<=f;omega
  have hp:=aY f;have z:0<=w/p2 f:=WH h0 (by omega)
  dsimp![Fq,Oa,a,o1,o2,FP (show 0<=e by omega) (by omega),FP (show 0<=f by omega) (by omega),and_ones z (show 0<=e by omega),and_ones h0 (show 0<=f by omega)]
theorem parts{e f w:Int}(h:Wd e f)(h0:0<=w)(h1:w<p2 (1+e+f)):∃ s x y,0<=s/\s<2/\0<=x/\x<p2 e/\0<=y/\y<p2 f/\w=(s*p2 e+x)*p2 f+y/\w/p2 (e+f)=s/\w/p2 f=s*p2 e+x/\w/p2 f%p2 e=x/\w%p2 f=y:=by
  obtain⟨g1,g2,g3,g4⟩:=h;have pf:=aY f
  have pe:=aY e;have e1:p2 (e+f)=p2 f*p2 e:=by rw[Int.add_comm,gM (by omega) (by omega)]
  have e2:p2 (1+e+f)=2*(p2 f*p2 e):=by rw[<- e1,<- fq (by omega)];congr 1;omega
  have d1:=Xo w (p2 f);have d2:=Xo (w/p2 f) (p2 e)
  have d3:w/p2 (e+f)=w/p2 f/p2 e:=by rw[e1,Int.ediv_ediv_of_nonneg (by omega)]
  have z:0<=w/p2 f:=WH h0 (by omega);refine⟨w/p2 f/p2 e,w/p2 f%p2 e,w%p2 f,WH z (by omega),?_,Wy _ (by omega),WE _ pe,Wy _ (by omega),WE _ pf,?_,d3,?_,rfl,rfl⟩
  . rw[<- d3,e1];refine YC (Xz pf pe) (by rw[<- e2];exact h1)
  . rw[Wk (_/p2 e),d2,Wk (w/p2 f)];omega
  . rw[Wk (_/p2 e),d2]
theorem SF(c:Int):∃ e f,Fp [.int c]=.ok (e∣f)/\Wd e f:=by
  refine⟨2+c*48271%999983%10,1+c*48271%999983/10%60,?_,by unfold Wd;omega⟩;dsimp![Fp,N6]
theorem rE(h:Wd e f):4<=p2 e/\2<=p2 f/\p2 f=2*p2 (f - 1)/\p2 (e+f)=p2 e*p2 f/\p2 (1+e+f)=2*p2 (e+f)/\nb (p2 e)<=12/\nb (p2 f)<=61/\nb (p2 (e+f))<=72/\nb (p2 (1+e+f))<=73/\1<=p2 (f - 1)/\p2 e<=2048:=by
  obtain⟨g1,g2,g3,g4⟩:=h;have e4:p2 2=4:=by decide
  have a:=lj (a:=2) (b:=e) (by decide) g1;have b:=lj (a:=1) (b:=f) (by decide) g3
  have Sz:p2 11=2048:=by decide
  have c:=lj (a:=e) (b:=11) (by omega) g2;rw[zM]at b;refine⟨by omega,b,?_,gM (by omega) (by omega),?_,?_,?_,?_,?_,aY _,by omega⟩
  . rw[<- fq (by omega)];congr 1;omega
  . rw[<- fq (by omega)];congr 1;omega
  all_goals rw[zN (by omega)];omega
theorem DY(h:Wd e f):p2 (e+f)=(p2 e - 1)*p2 f+p2 f/\3*p2 f<=(p2 e - 1)*p2 f:=by
  obtain⟨p1,p3,p4,p5,p6,b1,b2,b3,b4,p7,p8⟩:=rE h;rw[p5];exact⟨by rw[ZV];omega,V7 (by omega) (by omega)⟩
open PySem.Builtin.Str PySem.NumText
theorem jH:Str.ofString " "=tx [32]:=by decide +kernel
theorem KW:Str.ofString "1"=tx [49]:=by decide +kernel
noncomputable def jn:List (List Nat)->List Nat
  | []=>[]
  | [a]=>a
  | a::b::r=>a++32::jn (b::r)
theorem sr:∀ ps:List (List Nat),Str.join (tx [32]) (ps.map tx)=tx (jn ps)
  | []=>rfl
  | [a]=>rfl
  | a::b::r=>by
    have ih:=sr (b::r);show tx a++tx [32]++Str.join (tx [32]) ((b::r).map tx)=tx (a++32::jn (b::r))
    rw[ih,og,og];simp
theorem Cr:∀{ps qs:List (List Nat)},ps≠[]->qs≠[]->(∀ p∈ps,32 ∉ p)->(∀ p∈qs,32 ∉ p)->jn ps=jn qs->ps=qs
  | [],_,h,_,_,_,_=>absurd rfl h
  | _,[],_,h,_,_,_=>absurd rfl h
  | [a],[b],_,_,_,_,e=>by rw[show a=b from e]
  | [a],b::c::r,_,_,h1,h2,e=>by
    have e:a=b++32::jn (c::r):=e;exact absurd (by rw[e];simp) (h1 a Wf)
  | a::c::r,[b],_,_,h1,h2,e=>by
    have e:a++32::jn (c::r)=b:=e;exact absurd (by rw[<- e];simp) (h2 b Wf)
  | a::c::r,b::d::t,_,_,h1,h2,e=>by
    have e:a++32::jn (c::r)=b++32::jn (d::t):=e;have p1:=rC (b:=jn (c::r)) (h1 a Wf)
    rw[e,rC (h2 b Wf)]at p1;injection p1 with p1 p2
    injection p2 with p2 p3
    rw[<- p1,Cr (by simp) (by simp) (fun p hp=>h1 p (V6 _ hp)) (fun p hp=>h2 p (V6 _ hp)) p3.symm]
theorem vG{l:List Nat}(hl:l.length<=100000):∃ ps:List (List Nat),gK [.str (tx l),.str (tx [32])]=.ok (.lst (ps.map fun p=>PV.str (tx p)))/\jn ps=l/\(∀ p∈ps,32 ∉ p)/\ps≠[]/\ps.length<=l.length+2:=by
  have e1:=StrLaws.join_split (tx l) (tx [32]);have e2:=StrLaws.split_free (tx l) 32
  have e2:∀ p∈Txt.split (tx l) (tx [32]),32 ∉ p.cps.toList:=e2;have e3:=PyProof.Rows.split_pos (tx l) (tx [32])
  have e4:=PyProof.Rows.split_le (tx l) (tx [32]);have e5:=PyProof.Rows.len_partsBetween (tx l) (occurrences (tx l) (tx [32]) 0 (tx l).length ((tx l).length+1)) (tx [32]).length
  have e6:=StrLaws.occ_length_le (tx l) (tx [32]) 0 (tx l).length ((tx l).length+1);have eb:gK [.str (tx l),.str (tx [32])]=.ok (.lst ((Txt.split (tx l) (tx [32])).map PV.str)):=by
    show(if _ then _ else _)=_;rw[VP ⟨by rw[dS];exact gq (by omega),rfl,by rw[e5];rw[dS]at e6 ⊢;exact gq (by omega),by rw[dS]at e4;exact gq (by omega)⟩]
  generalize Txt.split (tx l) (tx [32])=ts at *;have et:(ts.map fun z=>z.cps.toList).map tx=ts:=by
    rw[W6]
    conv=>rhs;rw[<- List.map_id ts]
    exact W9 fun z _=>(Md z).symm
  refine⟨ts.map fun z=>z.cps.toList,?_,?_,?_,?_,?_⟩
  . rw[eb];congr 2
    conv=>lhs;rw[<- et]
    rw[W6];rfl
  . have:=sr (ts.map fun z=>z.cps.toList);rw[et,e1]at this;exact(rB this).symm
  . intro p hp;obtain⟨z,hz,rfl⟩:=WU.mp hp;exact e2 z hz
  . intro q;rw[List.map_eq_nil_iff]at q;rw[q]at e3;exact absurd e3 (by decide)
  . rw[V5,dS]at *;exact e4
noncomputable def bb(c:Nat):Int:=if c=49 then 1 else 0
noncomputable def ds(d:Int)(l:List Nat):Int:=l.foldl (fun d c=>if c=32 then d else d+d+bb c) d
theorem qm{α:Type}{f:FE}(h:α->PV)(g:α->PV):∀{l:List α},(∀ c∈l,f (cT n ρ ++[some (h c)])=.ok (g c))->fw n f7 f ρ (l.map h)=.ok (l.map g)
  | [],_=>rfl
  | c::r,q=>by
    have ih:=qm h g (l:=r) fun z hz=>q z (V6 _ hz);have e:=q c Wf
    show(match f (cT n ρ ++[some (h c)])with
      | .ok v=>(match fw n f7 f ρ (r.map h)with
        | .ok vs=>R.ok (v::vs)
        | _=>.stuck)
      | _=>.stuck)=_
    rw[e,ih];rfl
theorem strs_map{α:Type}(g:α->PySem.Str)(l:List α):kW (l.map fun c=>PV.str (g c))=some (l.map g):=by
  induction l with
  | nil=>rfl
  | cons c r ih=>show(kW _).map _=_;rw[ih];rfl
theorem xU(n:Nat):∀(ts:List PySem.Str)(k:Nat),ts.foldl (fun a t=>a+t.length+n) k=k+(ts.map (·.length)).sum+n*ts.length
  | [],k=>by simp
  | t::r,k=>by
    rw[YI,xU n r,VZ,Zb,VT,Nat.mul_succ];omega
theorem DZ{sep:PySem.Str}{ts:List PySem.Str}(h:(ts.map (·.length)).sum+sep.length*ts.length<=16000000):JoinOk sep ts=true:=by
  unfold JoinOk;rw[WZ,<- Array.foldl_toList];refine vo (gq ?_);show List.foldl (fun a t=>a+t.length+sep.length) 0 ts<=_
  rw[xU];omega
theorem zS{sep:List Nat}{ps:List (List Nat)}(h:(ps.map (·.length)).sum+sep.length*ps.length<=16000000) :
    j0 [.str (tx sep),.lst (ps.map fun p=>PV.str (tx p))]=.ok (.str (Str.join (tx sep) (ps.map tx))):=by
  have e:=strs_map tx ps;have k:JoinOk (tx sep) (ps.map tx)=true:=DZ (by
    rw[V5,dS,W6];have:ps.map ((fun x:PySem.Str=>x.length) ∘ tx)=ps.map (·.length):=W9 fun p _=>dS p
    rw[this];exact h)
  unfold j0;simp only[e,k,W2];rw[show Txt.join (tx sep) (ps.map tx)=Str.join (tx sep) (ps.map tx) from StrLaws.glued_eq_join _ _]
theorem join_nil:∀ L:List Nat,Str.join (tx []) (L.map fun c=>tx [c])=tx L
  | []=>rfl
  | [c]=>rfl
  | c::d::r=>by
    have ih:=join_nil (d::r);show tx [c]++tx []++Str.join (tx []) ((d::r).map fun c=>tx [c])=tx (c::d::r)
    rw[ih,og,og];rfl
noncomputable def vH(p:Int):Nat:=if p%2=1 then 49 else 48
noncomputable def bt:Nat->Int->List Nat
  | 0,_=>[]
  | n+1,p=>vH (p/p2 (n:Int))::bt n p
theorem oi(n:Nat)(p:Int):(bt n p).length=n:=by
  induction n with
  | zero=>rfl
  | succ n ih=>show(bt n p).length+1=_;rw[ih]
theorem zT(n:Nat):cV ((n:Int) - 1) (-1) (-1)=(List.range n).map fun k:Nat=>PV.int ((n:Int) - 1 - k):=by
  unfold cV;have e:gI ((n:Int) - 1) (-1) (-1)=n:=by
    unfold gI;rw[VQ (by decide)];by_cases h:n=0
    . subst h;rfl
    . rw[VP (by omega),show -(-1:Int)=1 from rfl,aa3];omega
  rw[e];refine W9 fun k _=>?_;congr 1;omega
theorem D9(n:Nat)(p:Int):bt n p=(List.range n).map fun k:Nat=>vH (p/p2 ((n:Int) - 1 - k)):=by
  induction n with
  | zero=>rfl
  | succ n ih =>
    show vH (p/p2 (n:Int))::bt n p=_;rw[ZK,VZ,W6,ih];congr 1
    . congr 3;omega
    . refine W9 fun k _=>?_;show _=vH (p/p2 (((n+1:Nat):Int) - 1 - ((k+1:Nat):Int)))
      congr 3;omega
theorem KY{n:Nat}{p:Int}(hn:n<=1000)(hp:0<=p):xI [.int p,.int n]=.ok (.str (tx (bt n p))):=by
  have o1:lg ((n:Int) - 1):=by show _/\_;omega
  have o2:lg (-1):=by show _/\_;omega
  have e0:eD (af (ag fh (ae 1) ‹1›) (af (gA jb ‹1›) (af (gA jb ‹1›) ax))) [some (.int p),some (.int n)]=.ok ((List.range n).map fun k:Nat=>PV.int ((n:Int) - 1 - k)):=by
    dsimp![o1,o2,zT,rg_3 _ _ _ o1 o2 o2 (by decide)]
  have cm:cL 2 (eD (af (ag fh (ae 1) ‹1›) (af (gA jb ‹1›) (af (gA jb ‹1›) ax)))) f7 (iQ (aP (ag pT (ag pS (ae 0) (ae 2)) ‹1›)) (fC (.str "1")) (fC (.str "0"))) [some (.int p),some (.int n)]=.ok (.lst (((bt n p).map fun c=>[c]).map fun c=>PV.str (tx c))):=by
    rw[oN,e0];have e2:((bt n p).map fun c=>[c]).map (fun c=>PV.str (tx c))=(List.range n).map fun k:Nat=>PV.str (tx [vH (p/p2 ((n:Int) - 1 - k))]):=by
      rw[D9,W6,W6];rfl
    rw[e2];refine mF (by rw[V5,WI];omega) (qm _ _ fun k hk=>?_);have hk:=XU.mp hk
    show iQ _ _ _ [some (.int p),some (.int n),some (.int ((n:Int) - 1 - k))]=_;generalize hj:(n:Int) - 1 - k=j;have SG:0<=j:=by omega
    have o3:oJ j:=SG;have hd:0<=p/p2 j:=WH hp (by have:=aY j;omega)
    have an:=and_ones (x:=p/p2 j) (c:=1) hd (by decide);rw[show p2 1 - 1=1 from rfl,show p2 1=2 from rfl]at an
    dsimp![o3,an,Me,KW];by_cases c:p/p2 j%2=1
    . have:vH (p/p2 j)=49:=VP c;rw[c,this];rfl
    . have c0:p/p2 j%2=0:=by omega
      have:vH (p/p2 j)=48:=VQ c;rw[c0,this];rfl
  have jo:=zS (sep:=[]) (ps:=(bt n p).map fun c=>[c]) (by
    have s:∀ L:List Nat,((L.map fun c=>[c]).map (·.length)).sum=L.length:=fun L=>by
      induction L with
      | nil=>rfl
      | cons c r ih=>rw[VZ,VZ,Zb,ih];simp;omega
    rw[s,oi];simp;omega)
  have SH:=join_nil (bt n p);rw[show((bt n p).map fun c=>[c]).map tx=(bt n p).map fun c=>tx [c] from by rw[W6];rfl,SH]at jo
  dsimp![xI,Of,List.replicate,dh,cg,mE,cm,jo]
noncomputable def KZ(e f w:Int):List Nat:=jn [bt 1 (w/p2 (e+f)),bt e.toNat (w/p2 f%p2 e),bt f.toNat (w%p2 f)]
theorem SI{e f w:Int}(h:Wd e f)(h0:0<=w)(h1:w<p2 (1+e+f)):B6 [e∣f,.int w]=.ok (.str (tx (KZ e f w))):=by
  have c:=SD h h0 h1;obtain⟨g1,g2,g3,g4⟩:=h;have pe:=aY e
  have pf:=aY f;have t1:=KY (n:=1) (p:=w/p2 (e+f)) (by omega) (WH h0 (by have:=aY (e+f);omega))
  have t2:=KY (n:=e.toNat) (p:=w/p2 f%p2 e) (by omega) (Wy _ (by omega));have t3:=KY (n:=f.toNat) (p:=w%p2 f) (by omega) (Wy _ (by omega))
  rw[YZ (by omega)]at t2 t3;rw[show((1:Nat):Int)=1 from rfl]at t1
  have jo:=zS (sep:=[32]) (ps:=[bt 1 (w/p2 (e+f)),bt e.toNat (w/p2 f%p2 e),bt f.toNat (w%p2 f)]) (by simp[oi];omega);rw[sr]at jo;simp only[VZ,Xc]at jo;dsimp![B6,Og,List.replicate,dh,cg,jH,c,t1,t2,t3,jo];rfl
theorem Hc{e f w:Int}(h:Wd e f):(KZ e f w).length=3+e.toNat+f.toNat:=by
  show(bt 1 _++32::(bt e.toNat _++32::bt f.toNat _)).length=_;rw[VV,VT,VV,VT,oi,oi,oi];omega
end Cm
namespace Cm
open PySem Mi
noncomputable def lr(W:PV)(z:Str)(r:Int):List (Str×PV):=[("width",W),("way",.str z),("raised",.int r)]
noncomputable abbrev dU(W:PV)(z:Str)(r:Int):Cell:=.obj 30 (lr W z r)
section
variable {W:PV}{z y:Str}{r s:Int}
theorem K0:(lr W z r).lookup ("width" : Str)=some W:=rfl
theorem vI:(lr W z r).lookup ("way" : Str)=some (.str z):=rfl
theorem zU:(lr W z r).lookup ("raised" : Str)=some (.int r):=rfl
theorem Mf:lF "raised" (.int s) (lr W z r)=lr W z s:=rfl
theorem Mg:lF "way" (.str y) (lr W z r)=lr W y r:=rfl
theorem Cs:(lr W z r).length<1000:=by show 3<1000;decide
theorem xV:(lr W z r).lookup ("read" : Str)=none:=rfl
theorem qo:(lr W z r).lookup ("noted" : Str)=none:=rfl
theorem rF:(lr W z r).lookup ("turn_to" : Str)=none:=rfl
end
section
variable {W:PV}{S:aI}{i:Nat}{z:Str}{r e f:Int}
theorem xW(h:S[i]?=some (dU W z r))(x:PV)(m:Int):Cd [aR i,.tup [x,.int m]] S=.ok x (S.set i (dU W z (Builtin.bitOr r m))):=by
  have a1:=cD h zU;have a2:∀(ρ:ay)(q:PV),iB 30 "raised" ρ q (aR i) S=.next ρ (S.set i (.obj 30 (lF "raised" q (lr W z r)))):=fun ρ q=>lZ h Cs
  dsimp![Cd,Ow,a1,a2,Mf,List.replicate,List.set]
theorem K1(h:S[i]?=some (dU W z r)){y:Str}{v:PV}(hy:bP [.str y]=.ok v):eA [aR i,.str y] S=.ok .aU (S.set i (dU W y r)):=by
  have a2:∀(ρ:ay)(q:PV),iB 30 "way" ρ q (aR i) S=.next ρ (S.set i (.obj 30 (lF "way" q (lr W z r)))):=fun ρ q=>lZ h Cs
  dsimp![eA,KI,a2,Mg,hy,List.replicate,List.set]
theorem He{v:PV}(av:bY (some v)=.ok v)(ho:eN (some v)=some v)(hy:bP [v]=.exc 3):eA [aR i,v] S=.exc 3 S:=by
  dsimp![eA,KI,ho,av,hy,List.replicate,List.set]
theorem Ct(h:S[i]?=some (dU (e∣f) z r))(t:Str){x:PV}{m:Int}(q:cA [e∣f,.str t,.str z]=.ok (.tup [x,.int m])):xP [aR i,.str t] S=.ok x (S.set i (dU (e∣f) z (Builtin.bitOr r m))):=by
  have a1:=cD h K0;have a2:=cD h vI
  have o1:=bO h qo;have n1:=xW h x m
  have p1:∀ F,pK F [e∣f,.str t,.str z] S=fz S (F [e∣f,.str t,.str z]):=fun F=>rz rfl;dsimp![xP,KJ,cQ o1,a1,a2,p1,q,n1,List.replicate,List.set]
theorem Ea(h:S[i]?=some (dU (e∣f) z r))(t:Str){d:Nat}(q:cA [e∣f,.str t,.str z]=.exc d):xP [aR i,.str t] S=.exc d S:=by
  have a1:=cD h K0;have a2:=cD h vI
  have o1:=bO h qo;have p1:∀ F,pK F [e∣f,.str t,.str z] S=fz S (F [e∣f,.str t,.str z]):=fun F=>rz rfl
  dsimp![xP,KJ,cQ o1,a1,a2,p1,q,List.replicate,List.set]
end
end Cm
namespace Dk
open PySem Mi Cm
theorem rG{l:List PV}{n:Nat}{p:PV}{i:Int}(h:l[n]?=some p)(hi:i=n):aB (.lst l) (.int i)=.ok p:=by
  subst hi;show il l n=_
  have hl:=(VS.mp h).1;unfold il nz;rw[VP (by omega),VP (by omega)];simp only[Xu,h]
theorem SJ:yE .aU=.ok (.bl true):=rfl
theorem FQ(k:Int):yE (.int k)=.ok (.bl false):=rfl
noncomputable abbrev ts(ws:List (List Nat)):PV:=.lst (ws.map fun w=>PV.str (tx w))
theorem SK{ws:List (List Nat)}(hn:ws≠[])(hf:∀ w∈ws,32 ∉ w)(hl:(jn ws).length<=100000):gK [.str (tx (jn ws)),.str (tx [32])]=.ok (ts ws):=by
  obtain⟨ps,e1,e2,e3,e4,_⟩:=vG hl;rw[e1,Cr e4 hn e3 hf e2]
noncomputable def K2(l:List (Str×Int)):R PV->R PV
  | .ok (.str k)=>.ok (((l.lookup k).map PV.int).getD .aU)
  | .exc c=>.exc c
  | _=>.stuck
theorem l0(l:List (Str×Int))(f:FE)(x0:Option PV)(ρ0:ay):rm l f (x0::ρ0)=K2 l (f (x0::ρ0)):=by
  unfold rm K2;cases f (x0::ρ0)with
  | ok p=>cases p<;>rfl
  | exc c=>rfl
  | stuck=>rfl
theorem oj(l:List (Str×Int))(k:Str):K2 l (.ok (.str k))=.ok (((l.lookup k).map PV.int).getD .aU):=rfl
noncomputable def zV:List Nat:=[116,111,116,97,108]
theorem xX:Str.ofString "total"=tx zV:=by decide +kernel
noncomputable def fG(h:List Nat)(n:Nat):Bool:=match Ce.lookup (tx h)with
  | none=>true
  | some k=>decide ((n:Int)<k)||(decide (k<(n:Int)) && !decide (h=zV))
theorem xY{h:List Nat}{t:List (List Nat)}(hf:∀ w∈h::t,32 ∉ w)(hl:(jn (h::t)).length<=100000):z5 [.str (tx (jn (h::t)))]=if fG h (t.length+1)=true then .exc 9 else .ok (ts (h::t)):=by
  have s:=SK (by simp) hf hl;have i0:aB (ts (h::t)) (.int 0)=.ok (.str (tx h)):=rG (n:=0) rfl rfl
  have ln:fE [ts (h::t)]=.ok (.int ((t.length+1:Nat):Int)):=by
    show R.ok (PV.int _)=_;rw[V5,VT]
  have ne:=Sm h zV;generalize jn (h::t)=row at *;have a0:bY (some (ts (h::t)))=.ok (ts (h::t)):=rfl
  generalize ts (h::t)=W at *;unfold fG;cases e:Ce.lookup (tx h)with
  | none =>
    dsimp![z5,zq,List.replicate,List.set,dh,cg,jH,s,a0,i0,l0,oj,e,Option.map_none,Zm,SJ]
  | some k =>
    by_cases c1:((t.length+1:Nat):Int)<k
    . dsimp![z5,zq,List.replicate,List.set,dh,cg,jH,s,a0,i0,l0,oj,e,YL,Xy,FQ,ln,c1,X5,Zn]
    . by_cases c2:k<((t.length+1:Nat):Int)
      . by_cases c3:h=zV
        . dsimp![z5,zq,List.replicate,List.set,dh,cg,jH,xX,s,a0,i0,l0,oj,e,YL,Xy,FQ,ln,ne,c1,c2,VX c3,X5,Yp,W0,Y1,Yx]
        . dsimp![z5,zq,List.replicate,List.set,dh,cg,jH,xX,s,a0,i0,l0,oj,e,YL,Xy,FQ,ln,ne,c1,c2,c3,X5,Yp,X9,Bool.and_true,Zq]
      . dsimp![z5,zq,List.replicate,List.set,dh,cg,jH,s,a0,i0,l0,oj,e,YL,Xy,FQ,ln,c1,c2,Yp,ZX,Yx]
noncomputable def cn(w:List Nat):Bool:=w.all fun c=>decide (97<=c/\c<=122)
noncomputable def iF(w:List Nat):Bool:=!decide (1<=w.length/\w.length<=8) || !cn w
theorem FR:Str.ofString "a"=tx [97]:=by decide +kernel
theorem FU:Str.ofString "z"=tx [122]:=by decide +kernel
theorem OP(a b:Nat):lH (.str (tx [a])) (.str (tx [b]))=.ok (.bl (decide (a<=b))):=by
  show R.ok (PV.bl (!decide ((tx [b]).cps.toList<(tx [a]).cps.toList)))=_;rw[g8,g8];congr 2;have q:([b]<[a])↔b<a:=by rw[List.cons_lt_cons_iff];simp
  rw[YB.mpr q];by_cases h:a<=b
  . rw[VX h,V3 (by omega)];rfl
  . rw[V3 h,VX (by omega)];rfl
theorem FV{w:List Nat}(hl:w.length<=100000):xQ [.str (tx w)]=if iF w=true then .exc 8 else .ok .aU:=by
  have cm:cL 1 (lC (ae 0)) f7 (gf lH lH (fC (.str "a")) (ae 1) (fC (.str "z"))) [some (.str (tx w))]=.ok (.lst (w.map fun c=>PV.bl (decide (97<=c/\c<=122)))):=by
    have e:lC (ae 0) [some (.str (tx w))]=.ok (w.map fun c=>PV.str (tx [c])):=by
      show R.ok ((tx w).cps.toList.map fun c=>PV.str (tx [c]))=_;rw[g8]
    rw[oN,e];refine mF (by rw[V5];omega) (oh _ fun c _=>?_);show gf lH lH (fC (.str "a")) (ae 1) (fC (.str "z")) [some (.str (tx w)),some (.str (tx [c]))]=_
    have l1:=OP 97 c;have l2:=OP c 122
    by_cases h:97<=c
    . dsimp![FR,FU,l1,l2,h,X5,true_and]
    . dsimp![FR,FU,l1,l2,h,Yp,ZF]
  have al:=vF (fun c:Nat=>decide (97<=c/\c<=122)) w;have FL:aF lE (af (cL 1 (lC (ae 0)) f7 (gf lH lH (fC (.str "a")) (ae 1) (fC (.str "z")))) ax) [some (.str (tx w))]=.ok (.bl (cn w)):=by
    dsimp![cm,al];rfl
  have ln:=sq (a:=w) (by omega);have sm:eB (R.ok (PV.int 8))=true:=by decide +kernel
  unfold iF;by_cases c1:1<=w.length
  . by_cases c2:w.length<=8
    . have d1:(1:Int)<=(w.length:Int):=by omega
      have d2:(w.length:Int)<=8:=by omega
      cases c3:cn w<;>dsimp![xQ,Fx,List.replicate,ln,d1,d2,c1,c2,FL,c3,sm,X5,Yf,W0,X9,Yx,Zq,Yy]
    . have d1:(1:Int)<=(w.length:Int):=by omega
      have d2:¬(w.length:Int)<=8:=by omega
      dsimp![xQ,Fx,List.replicate,ln,d1,d2,c1,c2,sm,X5,Yp,and_false,W0,X9,Zn,Yy]
  . have d1:¬(1:Int)<=(w.length:Int):=by omega
    dsimp![xQ,Fx,List.replicate,ln,d1,c1,sm,X5,Yp,ZF,W0,X9,Zn,Yy]
noncomputable def oV(l:List Nat):List Nat:=l.filter fun c=>!decide (c=32)
noncomputable def l6(W:PV)(i d:Nat):List (Str×PV):=[("width",W),("slate",aR i),("kept",aR d)]
noncomputable def jU(L:List (List Nat×Int)):List (Str×PV):=L.map fun p=>(tx p.1,.int p.2)
structure bX(e f:Int)(k i d:Nat)(z:Str)(r:Int)(L:List (List Nat×Int))(S:aI):Prop where
  o:S[k]?=some (.obj 31 (l6 (e∣f) i d))
  s:S[i]?=some (dU (e∣f) z r)
  t:S[d]?=some (.dc (jU L))
theorem oP(w:List Nat):∀ L:List (List Nat×Int),(jU L).lookup (tx w)=(L.lookup w).map PV.int
  | []=>rfl
  | (a,x)::L=>by
    show List.lookup (tx w) ((tx a,PV.int x)::jU L)=_;rw[Wa,Wa,oP w L,eX];by_cases h:w=a
    . rw[VX h,Wo.mpr h];rfl
    . rw[V3 h,Wr.mpr h]
theorem xZ(w:List Nat)(L:List (List Nat×Int)):((jU L).lookup (tx w)).isSome=(L.lookup w).isSome:=by rw[oP];cases L.lookup w<;>rfl
section
variable {W:PV}{i d:Nat}
theorem zW:(l6 W i d).lookup ("width" : Str)=some W:=rfl
theorem qp:(l6 W i d).lookup ("slate" : Str)=some (aR i):=rfl
theorem zX:(l6 W i d).lookup ("kept" : Str)=some (aR d):=rfl
theorem ij:(l6 W i d).lookup ("say" : Str)=none:=rfl
theorem rH:(l6 W i d).lookup ("words_kept" : Str)=none:=rfl
theorem Mh:(l6 W i d).lookup ("make" : Str)=none:=rfl
theorem Mj:(l6 W i d).lookup ("change" : Str)=none:=rfl
end
theorem Cu(k:ay->Bool)(c:Nat)(x0:Option PV)(ρ0:ay)(S:aI):j7 k c (x0::ρ0) S=if k (hide (x0::ρ0)) then .exc c (x0::ρ0) S else .stuck:=rfl
section
variable {S T:aI}{k i d:Nat}{z:Str}{r e f:Int}{L:List (List Nat×Int)}
theorem bX.app(h:bX e f k i d z r L S):bX e f k i d z r L (S++T):=⟨eF h.o,eF h.s,eF h.t⟩
theorem ya(h:bX e f k i d z r L S)(w:List Nat)(x1:Option PV):zn [some (aR k),x1,some (.str (tx w))] S=if (L.lookup w).isSome then .next [some (aR k),x1,some (.str (tx w))] S else .exc 8 [some (aR k),x1,some (.str (tx w))] S:=by
  have a1:=cD h.o zX;have d1:q8 true (.str (tx w)) (aR d) S=_:=Kt h.t
  rw[xZ,VP rfl]at d1;cases q:(L.lookup w).isSome<;>rw[q]at d1<;>dsimp![zn,a1,d1,W0,X9,Cu]<;>rfl
theorem yb(h:bX e f k i d z r L S)(x1:Option PV):∀(ns:List (List Nat))(x2:Option PV),(∀ w∈ns,(L.lookup w).isSome=true)->∃ x,dB 2 zn (ns.map fun w=>PV.str (tx w)) [some (aR k),x1,x2] S=.next [some (aR k),x1,x] S
  | [],x2,_=>⟨x2,rfl⟩
  | w::ns,x2,hw=>by
    obtain⟨x,ih⟩:=yb h x1 ns (some (.str (tx w))) fun y hy=>hw y (V6 _ hy);refine⟨x,?_⟩;rw[VZ,oM];show BZ 2 _ _ (zn [some (aR k),x1,some (.str (tx w))] S)=_
    rw[ya h,VP (hw w Wf)];exact ih
theorem vJ(h:bX e f k i d z r L S)(x1:Option PV):∀(ns:List (List Nat))(x2:Option PV),(∃ w∈ns,(L.lookup w).isSome=false)->∃ ρ,dB 2 zn (ns.map fun w=>PV.str (tx w)) [some (aR k),x1,x2] S=.exc 8 ρ S
  | [],x2,hw=>by obtain⟨w,q,_⟩:=hw;simp at q
  | w::ns,x2,hw=>by
    rw[VZ,oM];show ∃ ρ,BZ 2 _ _ (zn [some (aR k),x1,some (.str (tx w))] S)=_
    rw[ya h];cases q:(L.lookup w).isSome with
    | false=>exact⟨_,rfl⟩
    | true =>
      refine vJ h x1 ns (some (.str (tx w))) ?_;obtain⟨y,h1,h2⟩:=hw;rcases WD.mp h1 with rfl | h1
      . rw[q]at h2;cases h2
      . exact⟨y,h1,h2⟩
theorem yc(h:bX e f k i d z r L S)(x1 x2:Option PV)(v:List Nat->Int):∀(ns:List (List Nat))(acc:List Int),(∀ w∈ns,L.lookup w=some (v w))->acc.length+ns.length<=500 ->
    jP 3 (iZ (de 31 "kept" (bA 0)) (gP (ae 3))) [some (aR k),x1,x2] S.length (ns.map fun w=>PV.str (tx w)) (S ++[.ls (acc.map PV.int)])=.ok (.lst ((acc++ns.map v).map PV.int)) (S ++[.gone])
  | [],acc,_,_=>by
    show xC _ _=_;unfold xC;rw[c6];have:(acc.map PV.int).any d8=false:=by rw[List.any_eq_false];intro x hx;obtain⟨y,_,rfl⟩:=WU.mp hx;simp[d8]
    simp only[this,W2,jj,Xc,Wj]
  | w::ns,acc,hw,hl=>by
    have ih:=yc h x1 x2 v ns (acc ++[v w]) (fun y hy=>hw y (V6 _ hy)) (by simp at hl ⊢;omega);have h':=h.app (T:=[.ls (acc.map PV.int)])
    have a1:=cD h'.o zX;have d1:q6 (aR d) (.str (tx w)) _=_:=Ks h'.t (by rw[oP,hw w Wf];rfl)
    have g:iZ (de 31 "kept" (bA 0)) (gP (ae 3)) [some (aR k),x1,x2,some (.str (tx w))] (S ++[.ls (acc.map PV.int)])=.ok (.int (v w)) (S ++[.ls (acc.map PV.int)]):=by
      dsimp![a1,d1]
    rw[VZ];show(match iZ (de 31 "kept" (bA 0)) (gP (ae 3)) [some (aR k),x1,x2,some (.str (tx w))] (S ++[.ls (acc.map PV.int)])with
      | .ok v S'=>lY _ v S' _
      | _=>RS.stuck)=_
    rw[g];show lY _ _ _ _=_
    unfold lY;rw[c6];have Bf:(acc.map PV.int).length<1000:=by rw[V5];simp at hl;omega
    simp only[Bf,W2,jj];rw[X4,Xt]at ih;exact ih
theorem OQ(h:bX e f k i d z r L S){ns:List (List Nat)}(v:List Nat->Int)(hw:∀ w∈ns,L.lookup w=some (v w))(hl:ns.length<=500):za [aR k,ts ns] S=.ok (.lst ((ns.map v).map PV.int)) (S ++[.gone]):=by
  obtain⟨x,lp⟩:=yb h (some (ts ns)) ns none fun w hm=>by rw[hw w hm];rfl
  have cm:=yc h (some (ts ns)) x v ns [] hw (by simpa using hl);have it:lB (ae 1) (hide [some (aR k),some (ts ns),none])=.ok (ns.map fun w=>PV.str (tx w)):=rfl
  have gc:iu 3 (lB (ae 1)) (iZ (de 31 "kept" (bA 0)) (gP (ae 3))) [some (aR k),some (ts ns),x] S=.ok (.lst ((ns.map v).map PV.int)) (S ++[.gone]):=cm;dsimp![za,KL,List.replicate,it,lp,gc]
theorem K3(h:bX e f k i d z r L S){ns:List (List Nat)}(hw:∃ w∈ns,(L.lookup w).isSome=false):za [aR k,ts ns] S=.exc 8 S:=by
  obtain⟨ρ,lp⟩:=vJ h (some (ts ns)) ns none hw;have it:lB (ae 1) (hide [some (aR k),some (ts ns),none])=.ok (ns.map fun w=>PV.str (tx w)):=rfl
  dsimp![za,KL,List.replicate,it,lp]
theorem zY{fs:List (Str×PV)} (hl:fs.length<1000):iB c g ρ q (aR S.length) (S ++[.obj c fs])=.next ρ (S ++[.obj c (lF g q fs)]):=by
  rw[lZ c6 hl,jj]
theorem oQ{v:PV}(h:Wd e f)(hy:bP [.str z]=.ok v):dY [aR S.length,e∣f,.str z] (S ++[.obj 30 []])=.ok .aU (S ++[dU (e∣f) z 0]):=by
  have cw:=rD h;have b1:∀(ρ:ay)(q:PV),iB 30 "width" ρ q (aR S.length) (S ++[.obj 30 []])=.next ρ (S ++[.obj 30 [("width",q)]]):=fun ρ q=>zY (by decide)
  have b2:∀(ρ:ay)(q q1:PV),iB 30 "way" ρ q (aR S.length) (S ++[.obj 30 [("width",q1)]])=.next ρ (S ++[.obj 30 [("width",q1),("way",q)]]):=fun ρ q q1=>zY (by show 1<1000;decide)
  have b3:∀(ρ:ay)(q q1 q2:PV),iB 30 "raised" ρ q (aR S.length) (S ++[.obj 30 [("width",q1),("way",q2)]])=.next ρ (S ++[.obj 30 [("width",q1),("way",q2),("raised",q)]]):=fun ρ q q1 q2=>zY (by show 2<1000;decide)
  show _=RS.ok PV.aU (S ++[.obj 30 [("width",e∣f),("way",.str z),("raised",.int 0)]]);dsimp![dY,Oy,cw,hy,b1,b2,b3,List.replicate,List.set]
theorem Hh{v:PV}(h:Wd e f) (hy:bP [.str "even"]=.ok v):∃ T,Ck [aR S.length,e∣f] (S ++[.obj 31 []])=.ok .aU T/\bX e f S.length (S.length+1) (S.length+2) "even" 0 [] T/\∀(j:Nat)(c:Cell),S[j]?=some c->T[j]?=some c:=by
  have b1:∀(ρ:ay)(q:PV),iB 31 "width" ρ q (aR S.length) (S ++[.obj 31 []])=.next ρ (S ++[.obj 31 [("width",q)]]):=fun ρ q=>zY (by decide)
  have m1:=oQ (S:=S ++[.obj 31 [("width",e∣f)]]) h hy;have l1:(S ++[Cell.obj 31 [("width",e∣f)]]).length=S.length+1:=by simp
  rw[l1]at m1;have e1:∀ c:Cell,S ++[c] ++[dU (e∣f) "even" 0]=S ++([c] ++[dU (e∣f) "even" 0]):=fun c=>Xt _ _ _
  have b2:∀(ρ:ay)(q:PV),iB 31 "slate" ρ q (aR S.length) (S ++[.obj 31 [("width",e∣f)]] ++[dU (e∣f) "even" 0])=.next ρ (S ++[.obj 31 [("width",e∣f),("slate",q)]] ++[dU (e∣f) "even" 0]):=fun ρ q=>by
    rw[lZ (eF c6) (by show 1<1000;decide),so c6,jj];rfl
  have l2:(S ++[Cell.obj 31 [("width",e∣f),("slate",aR (S.length+1))]] ++[dU (e∣f) "even" 0]).length=S.length+2:=by simp
  have b3:∀(ρ:ay)(q:PV),iB 31 "kept" ρ q (aR S.length) (S ++[.obj 31 [("width",e∣f),("slate",aR (S.length+1))]] ++[dU (e∣f) "even" 0] ++[.dc []])=.next ρ (S ++[.obj 31 [("width",e∣f),("slate",aR (S.length+1)),("kept",q)]] ++[dU (e∣f) "even" 0] ++[.dc []]):=fun ρ q=>by
    rw[lZ (eF (eF c6)) (by show 2<1000;decide),so (eF c6),so c6,jj];rfl
  refine⟨S ++[.obj 31 (l6 (e∣f) (S.length+1) (S.length+2))] ++[dU (e∣f) "even" 0] ++[.dc []],?_,⟨eF (eF c6),?_,?_⟩,fun j c hj=>eF (eF (eF hj))⟩
  . show _=RS.ok PV.aU (S ++[.obj 31 [("width",e∣f),("slate",aR (S.length+1)),("kept",aR (S.length+2))]] ++[dU (e∣f) "even" 0] ++[.dc []]);dsimp![Ck,OD,List.replicate,b1,l1,m1,b2,l2,b3,Wj,Xn,Xa]
  . have:=c6 (S:=S ++[.obj 31 (l6 (e∣f) (S.length+1) (S.length+2))]) (c:=dU (e∣f) "even" 0);rw[show(S ++[Cell.obj 31 (l6 (e∣f) (S.length+1) (S.length+2))]).length=S.length+1 by simp]at this
    exact eF this
  . have:=c6 (S:=S ++[.obj 31 (l6 (e∣f) (S.length+1) (S.length+2))] ++[dU (e∣f) "even" 0]) (c:=.dc []);rw[show(S ++[Cell.obj 31 (l6 (e∣f) (S.length+1) (S.length+2))] ++[dU (e∣f) "even" 0]).length=S.length+2 by simp]at this
    exact this
noncomputable def putL(w:List Nat)(x:Int)(L:List (List Nat×Int)):List (List Nat×Int):=if (L.lookup w).isSome then L.map (fun p=>if p.1=w then (p.1,x) else p) else L ++[(w,x)]
noncomputable def mG(w:List Nat)(L:List (List Nat×Int)):List (List Nat×Int):=L.filter fun p=>decide (p.1≠w)
theorem K4(w:List Nat)(x:Int)(L:List (List Nat×Int)):putD (tx w) (.int x) (jU L)=jU (putL w x L):=by
  unfold putD putL;rw[xZ];cases (L.lookup w).isSome with
  | true =>
    rw[VP rfl,VP rfl];unfold jU;rw[W6,W6];refine W9 fun p _=>?_;show(if tx p.1=tx w then (tx p.1,PV.int x) else (tx p.1,PV.int p.2))=(fun p=>(tx p.1,PV.int p.2)) (if p.1=w then (p.1,x) else p)
    by_cases h:p.1=w
    . rw[VP h,VP (by rw[h])]
    . rw[VQ h,VQ (fun q=>h (rB q))]
  | false=>rw[VQ (by simp),VQ (by simp)];unfold jU;rw[X4];rfl
theorem Hi(w:List Nat)(L:List (List Nat×Int)):q5 (tx w) (jU L)=jU (mG w L):=by
  unfold q5 mG jU;rw[List.filter_map];congr 1;refine List.filter_congr fun p _=>?_;show decide (¬ tx p.1=tx w)=decide (¬ p.1=w)
  exact YB.mpr ⟨fun a b=>a (by rw[b]),fun a b=>a (rB b)⟩
theorem bX.ne(h:bX e f k i d z r L S):k≠i/\k≠d/\i≠d:=by
  refine⟨fun q=>?_,fun q=>?_,fun q=>?_⟩
  . have:=h.o;rw[q,h.s]at this;cases this
  . have:=h.o;rw[q,h.t]at this;cases this
  . have:=h.s;rw[q,h.t]at this;cases this
theorem bX.sl(h:bX e f k i d z r L S)(y:Str)(r':Int):bX e f k i d y r' L (S.set i (dU (e∣f) y r')) :=
  ⟨dN h.o (Xb h.ne.1),rA h.s,dN h.t h.ne.2.2⟩
theorem bX.kv(h:bX e f k i d z r L S)(L':List (List Nat×Int)):bX e f k i d z r L' (S.set d (.dc (jU L'))) :=
  ⟨dN h.o (Xb h.ne.2.1),dN h.s (Xb h.ne.2.2),rA h.t⟩
def Fr(i d:Nat)(S T:aI):Prop:=∀(j:Nat)(c:Cell),j≠i->j≠d->S[j]?=some c->T[j]?=some c
theorem Fr.app:Fr i d S (S++T):=fun _ _ _ _ h=>eF h
theorem Fr.Qi:Fr i d S (S.set i c):=fun _ _ h1 _ h=>dN h (Xb h1)
theorem Fr.K5:Fr i d S (S.set d c):=fun _ _ _ h1 h=>dN h (Xb h1)
theorem Fr.refl:Fr i d S S:=fun _ _ _ _ h=>h
theorem Fr.trans(a:Fr i d S T)(b:Fr i d T U):Fr i d S U:=fun j c h1 h2 h=>b j c h1 h2 (a j c h1 h2 h)
theorem Ml(ρ:ay)(q:RS PV)(g:GS):BY (xG ρ q) g=xG ρ q:=by cases q<;>rfl
theorem K6(ρ:ay)(q:RS PV):kD (xG ρ q)=q:=by cases q<;>rfl
noncomputable def SM:List Str:=["keep","plus","minus","times","over","left","root","whole","turn","fused","total"]
noncomputable def tN(h:List Nat):Bool:=SM.any fun s=>s == tx h
theorem rI(h:List Nat):pC (.str (tx h)) (.tup [.str "keep",.str "plus",.str "minus",.str "times",.str "over",.str "left",.str "root",.str "whole",.str "turn",.str "fused",.str "total"])=.ok (.bl (tN h)):=rfl
noncomputable def yd(h:List Nat):Bool:=(["drop","way","wipe"]:List Str).any fun s=>s == tx h
theorem zZ(h:List Nat):pC (.str (tx h)) (.tup [.str "drop",.str "way",.str "wipe"])=.ok (.bl (yd h)):=rfl
theorem FW(n:Nat)(a l:List PV)(h:a.length=n):lz (.lst (a++l)) (some (n:Int)) none=.ok (.lst l):=by
  subst h;show R.ok (PV.lst (((a++l).drop (fH (a++l).length 0 (some (a.length:Int)))).take ((a++l).length - fH (a++l).length 0 (some (a.length:Int)))))=_
  rw[FF (by omega)];congr 2;have:min ((a.length:Nat):Int).toNat (a++l).length=a.length:=by rw[Xu,VV];omega
  rw[this,List.drop_left,VV];exact ZT (by omega)
theorem FX{x l:List PV}{lo:Option Int}(h:lz (.lst x) lo none=.ok (.lst l)):jM x lo none=l:=by
  have:R.ok (PV.lst (jM x lo none))=R.ok (PV.lst l):=h;cases this;rfl
theorem FY(a:PV)(l:List PV):jM (a::l) (some 1) none=l:=FX (FW 1 [a] l rfl)
theorem Mm(a b:PV)(l:List PV):jM (a::b::l) (some 2) none=l:=FX (FW 2 [a,b] l rfl)
theorem kF(a:PV)(l:List PV):aB (.lst (a::l)) (.int 0)=.ok a:=rG (n:=0) rfl rfl
theorem qq(a b:PV)(l:List PV):aB (.lst (a::b::l)) (.int 1)=.ok b:=rG (n:=1) rfl rfl
structure Row(ws:List (List Nat)):Prop where
  free:∀ w∈ws,32 ∉ w
  len:(jn ws).length<=100000
theorem Hj{h:List Nat}{t:List (List Nat)}(R:Row (h::t))(b:fG h (t.length+1)=true):aS [aR k,.str (tx (jn (h::t)))] S=.exc 9 S:=by
  have w:=xY R.free R.len;rw[VP b]at w;generalize jn (h::t)=row at *;dsimp![aS,zf,List.replicate,w]
theorem K7{v:PV}(av:bY (some v)=.ok v)(ho:eN (some v)=some v)(ht:dG v .str=some false):aS [aR k,v] S=.exc 9 S:=by
  have w:z5 [v]=.exc 9:=by dsimp![z5,zq,List.replicate,av,ht]
  dsimp![aS,zf,List.replicate,ho,av,w]
theorem qr(D:bX e f k i d z r L S){h n:List Nat}{t:List (List Nat)}(R:Row (h::n::t))(b:fG h ((n::t).length+1)=false)(m:tN h=true):aS [aR k,.str (tx (jn (h::n::t)))] S=cR [aR k,.str (tx h),.str (tx n),ts t] S:=by
  have w:=xY R.free R.len;rw[VQ (by rw[b];simp)]at w;have mi:=rI h
  rw[m]at mi;have o1:=bO D.o Mh
  generalize jn (h::n::t)=row at *;have w:z5 [.str (tx row)]=.ok (.lst (.str (tx h)::.str (tx n)::t.map fun w=>PV.str (tx w))):=w
  generalize hq:cR [aR k,.str (tx h),.str (tx n),ts t] S=Q;dsimp![aS,zf,List.replicate,List.set,w,kF,qq,Mm,mi,cQ o1,hq,Ml,K6]
end
noncomputable def cM:List Nat:=[107,101,101,112]
noncomputable def fT:List Nat:=[109,97,114,107,115]
noncomputable def rJ:List Nat:=[119,105,112,101]
noncomputable def dZ:List Nat:=[119,97,121]
noncomputable def eI:List Nat:=[100,114,111,112]
noncomputable def Cv:List Nat:=[111,114,100,101,114]
noncomputable def dj:List Nat:=[98,105,116,115]
noncomputable def jv:List Nat:=[115,104,111,119]
noncomputable def Cw:List Nat:=[101,120,97,99,116]
theorem lits:Str.ofString "keep"=tx cM/\Str.ofString "marks"=tx fT/\Str.ofString "wipe"=tx rJ/\Str.ofString "way"=tx dZ/\Str.ofString "order"=tx Cv/\Str.ofString "bits"=tx dj/\Str.ofString "show"=tx jv/\Str.ofString "exact"=tx Cw:=by decide +kernel
section
variable {S T:aI}{k i d:Nat}{z:Str}{r e f:Int}{L:List (List Nat×Int)}{v:PV}
theorem K8{h n:List Nat}{t:List (List Nat)}(b:iF n=true)(hn:n.length<=100000):cR [aR k,.str (tx h),.str (tx n),ts t] S=.exc 8 S:=by
  have c:=FV hn;rw[VP b]at c;dsimp![cR,Cn,List.replicate,c]
theorem Hk(D:bX e f k i d z r L S)(wd:Wd e f)(hy:bP [.str z]=.ok v){h n:List Nat}{t:List (List Nat)}(b:iF n=false)(hn:n.length<=100000)(nk:¬ h=cM)(hw:∃ w∈t,(L.lookup w).isSome=false) :
    cR [aR k,.str (tx h),.str (tx n),ts t] S=.exc 8 (S ++[dU (e∣f) z 0]):=by
  have c:=FV hn;rw[VQ (by rw[b];simp)]at c;have a1:=cD D.o zW
  have a2:=cD D.o qp;have a3:=cD D.s vI
  have m1:=oQ (S:=S) wd hy;have D':=D.app (T:=[dU (e∣f) z 0])
  have w:=K3 D' hw;have o1:=bO D'.o rH
  have te:bQ (.str (tx h)) (.str (tx cM))=.ok (.bl false):=by rw[FD,V3 nk]
  dsimp![cR,Cn,List.replicate,List.set,c,a1,a2,a3,m1,lits.1,te,cQ o1,w,Wj,Xn,Xa]
theorem Eb(D:bX e f k i d z r L S)(wd:Wd e f)(hy:bP [.str z]=.ok v){n t:List Nat}(b:iF n=false)(hn:n.length<=100000){x:Nat}(hr:cA [e∣f,.str (tx t),.str z]=.exc x) :
    cR [aR k,.str (tx cM),.str (tx n),ts [t]] S=.exc x (S ++[dU (e∣f) z 0]):=by
  have c:=FV hn;rw[VQ (by rw[b];simp)]at c;have a1:=cD D.o zW
  have a2:=cD D.o qp;have a3:=cD D.s vI
  have m1:=oQ (S:=S) wd hy;have q:=Ea (c6 (S:=S) (c:=dU (e∣f) z 0)) (tx t) hr
  have o1:isObj 30 "read" (aR S.length) (S ++[dU (e∣f) z 0])=true:=bO c6 xV;have te:bQ (.str (tx cM)) (.str (tx cM))=.ok (.bl true):=by rw[FD,VX rfl]
  have i0:aB (ts [t]) (.int 0)=.ok (.str (tx t)):=rfl;have av:bY (some (ts [t]))=.ok (ts [t]):=rfl
  have ho:eN (some (ts [t]))=some (ts [t]):=rfl;generalize ts [t]=W at *;dsimp![cR,Cn,List.replicate,List.set,c,a1,a2,a3,m1,lits.1,te,cQ o1,q,i0,av,ho,Wj,Xn,Xa]
theorem Hl(D:bX e f k i d z r L S)(wd:Wd e f)(hy:bP [.str z]=.ok v){n t:List Nat}(b:iF n=false)(hn:n.length<=100000)(hL:L.length<900){x m:Int}(hr:cA [e∣f,.str (tx t),.str z]=.ok (x∣m))
    {y:Str} (hm:z3 [.int (Builtin.bitOr 0 m)]=.ok (.str y)) :
    ∃ T,cR [aR k,.str (tx cM),.str (tx n),ts [t]] S=.ok (.str y) T/\bX e f k i d z (Builtin.bitOr r (Builtin.bitOr 0 m)) (putL n x L) T/\Fr i d S T:=by
  have c:=FV hn;rw[VQ (by rw[b];simp)]at c;have a1:=cD D.o zW
  have a2:=cD D.o qp;have a3:=cD D.s vI
  have m1:=oQ (S:=S) wd hy;have q:=Ct (c6 (S:=S) (c:=dU (e∣f) z 0)) (tx t) hr
  rw[jj]at q;generalize Builtin.bitOr 0 m=m' at *;have o1:isObj 30 "read" (aR S.length) (S ++[dU (e∣f) z 0])=true:=bO c6 xV
  have te:bQ (.str (tx cM)) (.str (tx cM))=.ok (.bl true):=by rw[FD,VX rfl]
  have i0:aB (ts [t]) (.int 0)=.ok (.str (tx t)):=rfl;have av:bY (some (ts [t]))=.ok (ts [t]):=rfl
  have ho:eN (some (ts [t]))=some (ts [t]):=rfl;have D1:bX e f k i d z r L (S ++[dU (e∣f) z m']):=D.app
  have b2:=cD D1.o qp;have b3:=cD (c6 (S:=S) (c:=dU (e∣f) z m')) zU
  have o2:=bO D1.s qo;have tp:=Kx (S:=S ++[dU (e∣f) z m']) (ps:=[.int x,.int m']) rfl (by show 2<=1000;decide)
  have nt:=xW D1.s (.int x) m';have D2:=D1.sl z (Builtin.bitOr r m')
  have c2:=cD D2.o zX;have du:∀ ρ:ay,rg ρ (.int x) (aR d) (.str (tx n)) _=_:=fun ρ=>Ku D2.t (by unfold jU;rw[V5];omega)
  rw[K4]at du;have D3:=D2.kv (putL n x L)
  have n1:i≠S.length:=fun q=>by have:=D.s;rw[q,WQ (VU _)]at this;cases this
  have n2:d≠S.length:=fun q=>by have:=D.t;rw[q,WQ (VU _)]at this;cases this
  have e3:=cD (dN (i:=d) (d:=.dc (jU (putL n x L))) (dN (i:=i) (d:=dU (e∣f) z (Builtin.bitOr r m')) (c6 (S:=S) (c:=dU (e∣f) z m')) n1) n2) zU;have p1:∀(F:List PV->R PV)(S:aI),pK F [.int m'] S=fz S (F [.int m']):=fun F S=>rz rfl
  refine⟨_,?_,D3,(Fr.app.trans Fr.Qi).trans Fr.K5⟩;generalize ts [t]=W at *;generalize hX:(S ++[dU (e∣f) z m']).set i (dU (e∣f) z (Builtin.bitOr r m'))=X at *;generalize hY:X.set d (.dc (jU (putL n x L)))=Y at *;dsimp![cR,Cn,List.replicate,List.set,c,a1,a2,a3,m1,lits.1,te,cQ o1,q,i0,av,ho,Wj,Xn,Xa,b2,b3,cQ o2,tp,nt,c2,du,e3,p1,hm]
theorem eG{a b:List Nat}{c:Bool}(h:decide (a=b)=c):bQ (.str (tx a)) (.str (tx b))=.ok (.bl c):=by rw[FD,h]
theorem K9(D:bX e f k i d z r L S)(hy:bP [.str (tx w)]=.ok v):cf [aR k,ts [dZ,w]] S=.ok .aU (S.set i (dU (e∣f) (tx w) r)):=by
  have a2:=cD D.o qp;have o1:=bO D.s rF
  have m:=K1 D.s hy;have t1:bQ (.str (tx dZ)) (.str (tx rJ))=.ok (.bl false):=eG (by decide)
  have t2:bQ (.str (tx dZ)) (.str (tx dZ))=.ok (.bl true):=eG (by decide);dsimp![cf,Cj,VZ,Xc,kF,qq,lits.2.2.1,lits.2.2.2.1,t1,t2,a2,cQ o1,m]
theorem Hm(D:bX e f k i d z r L S)(hy:bP [.str (tx w)]=.exc 3):cf [aR k,ts [dZ,w]] S=.exc 3 S:=by
  have a2:=cD D.o qp;have o1:=bO D.s rF
  have m:=He (S:=S) (i:=i) (v:=.str (tx w)) rfl rfl hy;have t1:bQ (.str (tx dZ)) (.str (tx rJ))=.ok (.bl false):=eG (by decide)
  have t2:bQ (.str (tx dZ)) (.str (tx dZ))=.ok (.bl true):=eG (by decide);dsimp![cf,Cj,VZ,Xc,kF,qq,lits.2.2.1,lits.2.2.2.1,t1,t2,a2,cQ o1,m]
theorem Hn(D:bX e f k i d z r L S){x:Int}(hw:L.lookup w=some x):cf [aR k,ts [eI,w]] S=.ok .aU ((S ++[Cell.gone]).set d (.dc (jU (mG w L)))):=by
  have D':=D.app (T:=[.gone]);have a2:=cD D'.o zX
  have o1:=bO D.o rH;have m:za [aR k,.lst [.str (tx w)]] S=_:=OQ D (ns:=[w]) (fun _=>x) (fun y hy=>by rw[Wx.mp hy];exact hw) (by show 1<=500;decide)
  have p:=Kv D'.t (k:=tx w) (z:=.int x) (by rw[oP,hw];rfl);rw[Hi]at p;have t1:bQ (.str (tx eI)) (.str (tx rJ))=.ok (.bl false):=eG (by decide)
  have t2:bQ (.str (tx eI)) (.str (tx dZ))=.ok (.bl false):=eG (by decide);dsimp![cf,Cj,VZ,Xc,kF,qq,lits.2.2.1,lits.2.2.2.1,t1,t2,cQ o1,m,a2,Kw D'.t,p]
theorem vK(D:bX e f k i d z r L S)(hw:(L.lookup w).isSome=false):cf [aR k,ts [eI,w]] S=.exc 8 S:=by
  have o1:=bO D.o rH;have m:za [aR k,.lst [.str (tx w)]] S=_:=K3 D (ns:=[w]) ⟨w,Wx.mpr rfl,hw⟩
  have t1:bQ (.str (tx eI)) (.str (tx rJ))=.ok (.bl false):=eG (by decide);have t2:bQ (.str (tx eI)) (.str (tx dZ))=.ok (.bl false):=eG (by decide)
  dsimp![cf,Cj,VZ,Xc,kF,qq,lits.2.2.1,lits.2.2.2.1,t1,t2,cQ o1,m]
noncomputable def OR:RS PV->RS PV
  | .ok _ S=>.ok (.str "ok") S
  | q=>q
theorem oo(D:bX e f k i d z r L S){h:List Nat}{t:List (List Nat)}(R:Row (h::t))(b:fG h (t.length+1)=false)(m:tN h=false)(nm:¬ h=fT)(c:yd h=true):aS [aR k,.str (tx (jn (h::t)))] S=OR (cf [aR k,ts (h::t)] S):=by
  have w:=xY R.free R.len;rw[VQ (by rw[b];simp)]at w;have mi:=rI h
  rw[m]at mi;have ci:=zZ h
  rw[c]at ci;have te:=eG (V3 nm)
  have o1:=bO D.o Mj;generalize jn (h::t)=row at *;have i0:aB (ts (h::t)) (.int 0)=.ok (.str (tx h)):=kF _ _
  have av:bY (some (ts (h::t)))=.ok (ts (h::t)):=rfl;have ho:eN (some (ts (h::t)))=some (ts (h::t)):=rfl
  generalize ts (h::t)=W at *;generalize hq:cf [aR k,W] S=Q;cases Q<;>dsimp![aS,zf,List.replicate,List.set,w,i0,av,ho,mi,ci,lits.2.1,te,cQ o1,hq]<;>rfl
theorem Cy(D:bX e f k i d z r L S){y:Str}(hm:z3 [.int r]=.ok (.str y)):aS [aR k,.str (tx fT)] S=.ok (.str y) S:=by
  have w:=xY (h:=fT) (t:=[]) (fun w hw=>by rw[Wx.mp hw];decide) (by decide);rw[VQ (by decide +kernel)]at w;have mi:=rI fT
  rw[show tN fT=false by decide +kernel]at mi;have te:bQ (.str (tx fT)) (.str (tx fT))=.ok (.bl true):=eG (by decide)
  have a1:=cD D.o qp;have a2:=cD D.s zU
  have p1:∀(F:List PV->R PV)(S:aI),pK F [.int r] S=fz S (F [.int r]):=fun F S=>rz rfl;have w:z5 [.str (tx fT)]=.ok (.lst [.str (tx fT)]):=w
  dsimp![aS,zf,List.replicate,List.set,w,kF,mi,lits.2.1,te,a1,a2,p1,hm]
theorem oq(D:bX e f k i d z r L S){h:List Nat}{t:List (List Nat)}(R:Row (h::t))(b:fG h (t.length+1)=false)(m:tN h=false)(nm:¬ h=fT)(c:yd h=false)(hw:∃ w∈t,(L.lookup w).isSome=false):aS [aR k,.str (tx (jn (h::t)))] S=.exc 8 S:=by
  have w:=xY R.free R.len;rw[VQ (by rw[b];simp)]at w;have mi:=rI h
  rw[m]at mi;have ci:=zZ h
  rw[c]at ci;have te:=eG (V3 nm)
  have o1:=bO D.o rH;have q:=K3 D hw
  generalize jn (h::t)=row at *;have w:z5 [.str (tx row)]=.ok (.lst (.str (tx h)::t.map fun w=>PV.str (tx w))):=w
  dsimp![aS,zf,List.replicate,List.set,w,kF,FY,mi,ci,lits.2.1,te,cQ o1,q]
theorem Cz(D:bX e f k i d z r L S){h w:List Nat}(R:Row [h,w])(b:fG h 2=false)(m:tN h=false)(nm:¬ h=fT)(c:yd h=false)(no:¬ h=Cv){x:Int}(hw:L.lookup w=some x){y:PV}(hy:eO [e∣f,.str (tx h),.int x]=.ok y) :
    aS [aR k,.str (tx (jn [h,w]))] S=.ok y (S ++[.gone]):=by
  have wr:=xY R.free R.len;rw[VQ (by show ¬ fG h 2=true;rw[b];simp)]at wr;have mi:=rI h
  rw[m]at mi;have ci:=zZ h
  rw[c]at ci;have te:=eG (V3 nm)
  have to:=eG (V3 no);have o1:=bO D.o rH
  have D':=D.app (T:=[.gone]);have a1:=cD D'.o zW
  have q:za [aR k,.lst [.str (tx w)]] S=_:=OQ D (ns:=[w]) (fun _=>x) (fun y hy=>by rw[Wx.mp hy];exact hw) (by show 1<=500;decide);generalize jn [h,w]=row at *;have wr:z5 [.str (tx row)]=.ok (.lst [.str (tx h),.str (tx w)]):=wr
  have p1:∀(F:List PV->Mi.R PV)(S:aI),pK F [e∣f,.str (tx h),.int x] S=fz S (F [e∣f,.str (tx h),.int x]):=fun F S=>rz rfl;dsimp![aS,zf,List.replicate,List.set,wr,kF,FY,mi,ci,lits.2.1,lits.2.2.2.2.1,te,to,cQ o1,q,VZ,Xc,a1,p1,hy]
end
theorem Ec{l:List Nat}(hl:l.length<=100000):∃ ps:List (List Nat),gK [.str (tx l),.str (tx [32])]=.ok (.lst (ps.map fun p=>PV.str (tx p)))/\Txt.split (tx l) (tx [32])=ps.map tx/\((ps.map (·.length)).sum<=l.length/\ps.length<=l.length+2):=by
  obtain⟨ps,e1,e2,e3,e4,e5⟩:=vG hl;refine⟨ps,e1,?_,?_,e5⟩
  . have hs:gK [.str (tx l),.str (tx [32])]≠.stuck:=by rw[e1];intro q;cases q
    obtain⟨_,e6⟩:=cX hs;have e6:gK [.str (tx l),.str (tx [32])]=.ok (.lst ((Txt.split (tx l) (tx [32])).map PV.str)):=e6
    rw[e1]at e6;injection e6 with e6
    injection e6 with e6
    generalize Txt.split (tx l) (tx [32])=qs at e6;have key:∀(ps:List (List Nat))(qs:List Str),(ps.map fun p=>PV.str (tx p))=qs.map PV.str->qs=ps.map tx:=by
      intro ps
      induction ps with
      | nil=>intro qs h;cases qs with | nil=>rfl | cons a b=>simp at h
      | cons p ps ih =>
        intro qs h;cases qs with
        | nil=>simp at h
        | cons a b =>
          rw[VZ,VZ]at h;injection h with h1 h2
          injection h1 with h1
          rw[VZ,<- h1,ih b h2]
    exact key ps qs e6
  . rw[<- e2];clear e1 e3 e5 e2 hl;have key:∀ ps:List (List Nat),(ps.map (·.length)).sum<=(jn ps).length:=by
      intro ps
      induction ps with
      | nil=>exact VU _
      | cons a r ih =>
        cases r with
        | nil=>simp[jn]
        | cons b r =>
          show((a.length)+((b::r).map (·.length)).sum)<=(a++32::jn (b::r)).length;rw[VV,VT];omega
    exact key ps
theorem ot{e f x:Int}(wd:Wd e f)(h0:0<=x)(h1:x<p2 (1+e+f)):∃ t:Str,eO [e∣f,.str (tx dj),.int x]=.ok (.str t)/\zy [e∣f,.int x]=.ok (.str t):=by
  have bo:=SI wd h0 h1;have ln:=Hc (w:=x) wd
  obtain⟨g1,g2,g3,g4⟩:=wd;generalize KZ e f x=l at *;obtain⟨ps,s1,s2,s3,s4⟩:=Ec (l:=l) (by omega);have jo:=zS (sep:=[]) (ps:=ps) (by simp;omega)
  refine⟨Str.join (tx []) (ps.map tx),?_,?_⟩
  . have t1:bQ (.str (tx dj)) (.str (tx jv))=.ok (.bl false):=eG (by decide);have t2:bQ (.str (tx dj)) (.str (tx Cw))=.ok (.bl false):=eG (by decide)
    have t3:bQ (.str (tx dj)) (.str (tx dj))=.ok (.bl true):=eG (by decide);have rp:tL " " "" (.str (tx l))=.ok (.str (Str.join (tx []) (ps.map tx))):=by
      show(if _ then _ else _)=_;rw[VP ⟨by decide +kernel,by rw[dS,show(Str.ofString "").length=0 from rfl];omega⟩]
      have:=StrLaws.replace_one (tx l) (tx []) 32;rw[show(⟨#[32]⟩:Str)=tx [32] from rfl,s2]at this
      rw[<- this,jH,mE]
    have fr:∀(a:FE)(x0:Option PV)(ρ0:ay),ur " " "" a (x0::ρ0)=(a (x0::ρ0)).bind (tL " " ""):=fun _ _ _=>rfl;dsimp![eO,OF,lits.2.2.2.2.2.1,lits.2.2.2.2.2.2.1,lits.2.2.2.2.2.2.2,t1,t2,t3,fr,bo,rp]
  . dsimp![zy,OE,dh,cg,jH,mE,bo,s1,jo]
noncomputable def m9(M:Int)(A k j:Nat):Nat:=97+((M/((j:Int)*j+1)%26+(k:Int)*(if j=A then 1 else 0))%26).toNat
noncomputable def dH(M:Int)(n A k:Nat):List Nat:=(List.range n).map (m9 M A k)
noncomputable def eY:List Nat:=(List.range 26).map (97+·)
theorem Ho:Str.ofString "abcdefghijklmnopqrstuvwxyz"=tx eY:=by decide +kernel
theorem La{x:Int}(h0:0<=x)(h1:x<26):aB (.str (tx eY)) (.int x)=.ok (.str (tx [97+x.toNat])):=by
  have l:eY.length=26:=rfl;have e:nz (tx eY).cps.toList.length x=some x.toNat:=by
    unfold nz;rw[g8,l,VP h0,VP (by omega)]
  have g:(tx eY).cps.toList[x.toNat]?=some (97+x.toNat):=by
    rw[g8];unfold eY;rw[Wt,Xx (by omega)];rfl
  show(match nz (tx eY).cps.toList.length x with
    | some j=>(match (tx eY).cps.toList[j]? with | some c=>if (tx eY).length<=sizeLine then R.ok (PV.str ⟨#[c]⟩) else .stuck | none=>.stuck)
    | none=>.stuck)=_
  simp only[e,g];rw[VP (by decide +kernel)];rfl
theorem oU(n:Nat):cV 0 (n:Int) 1=(List.range n).map fun k:Nat=>PV.int (k:Int):=by
  unfold cV gI;have:(if (1:Int)>0 then (if (0:Int)<(n:Int) then ((n:Int) - 0 - 1)/1+1 else 0) else (if (0:Int) >(n:Int) then (0 - (n:Int) - 1)/(-1)+1 else 0)).toNat=n:=by
    rw[VP (by decide)];by_cases c:(0:Int)<n
    . rw[VP c,aa3];omega
    . rw[VQ c];omega
  rw[this];apply W9;intro k _;congr 1;omega
noncomputable def gY(M:Int)(n:Nat):List PV:=(List.range n).map fun j:Nat=>PV.int (M/((j:Int)*j+1)%26)
theorem Ed:gW 26:=show(0:Int)<26 by decide
theorem SN{M:Int}{n A k:Nat}(hM:0<=M)(hn:n<=8)(hk:k<4)(x0 x2 x5 x8:Option PV):∃ y,forL 8 zu (cV 0 (n:Int) 1) [x0,some (.str (tx eY)),x2,some (.lst (gY M n)),some (.int A),x5,some (.int k),some (.str (tx [])),x8] =
    .next [x0,some (.str (tx eY)),x2,some (.lst (gY M n)),some (.int A),x5,some (.int k),some (.str (tx (dH M n A k))),y]:=by
  obtain⟨ρ,e1,y,h⟩:=sk (I:=fun m ρ=>∃ y,ρ=[x0,some (.str (tx eY)),x2,some (.lst (gY M n)),some (.int A),x5,some (.int k),some (.str (tx ((List.range m).map (m9 M A k)))),y]) (i:=8) (body:=zu) (l:=cV 0 (n:Int) 1) (k:=0)
    (ρ:=[x0,some (.str (tx eY)),x2,some (.lst (gY M n)),some (.int A),x5,some (.int k),some (.str (tx [])),x8]) ⟨x8,rfl⟩ (fun j x ρ hx hI=>by
      obtain⟨y,rfl⟩:=hI;rw[oU,Wt]at hx;have hj:j<n:=by
        apply Nat.lt_of_not_le;intro q;rw[WQ (by rw[WI];exact q)]at hx;cases hx
      rw[Xx hj]at hx;cases hx;have i3:aB (.lst (gY M n)) (.int (j:Int))=.ok (.int (M/((j:Int)*j+1)%26)):=rG (n:=j) (by unfold gY;rw[Wt,Xx hj];rfl) rfl
      have om:∀ b,fL (k:Int) b:=fun b=>oK (by omega) (by omega);have VH:=Wy (M/((j:Int)*j+1)) (show(26:Int)≠0 by decide)
      have OS:∀ x:Int,0<=x%26/\x%26<26:=fun x=>⟨Wy _ (by decide),WE _ (by decide)⟩;have ad:ar (.str (tx ((List.range j).map (m9 M A k)))) (.str (tx [m9 M A k j]))=.ok (.str (tx ((List.range (j+1)).map (m9 M A k)))):=by
        rw[iD (by simp;omega),List.range_succ,X4];rfl
      have ab:=La (OS (M/((j:Int)*j+1)%26+(k:Int)*(if j=A then 1 else 0))).1 (OS _).2;have ab:aB (.str (tx eY)) (.int ((M/((j:Int)*j+1)%26+(k:Int)*(if j=A then 1 else 0))%26))=.ok (.str (tx [m9 M A k j])):=ab
      rw[abb];refine⟨_,?_,some (.int (j:Int)),rfl⟩;show zu [x0,some (.str (tx eY)),x2,some (.lst (gY M n)),some (.int A),x5,some (.int k),some (.str (tx ((List.range j).map (m9 M A k)))),some (.int (j:Int))]=_
      generalize m9 M A k j=cc at *;generalize M/((j:Int)*j+1)%26=bb at *;by_cases q:j=A
      . rw[VP q]at ab;have Lb:decide ((j:Int)=(A:Int))=true:=VX (by omega)
        dsimp![zu,i3,om,Ed,Lb,ab,ad]
      . rw[VQ q]at ab;have Lb:decide ((j:Int)=(A:Int))=false:=V3 (by omega)
        dsimp![zu,i3,om,Ed,Lb,ab,ad])
  refine⟨y,?_⟩;rw[e1,h,oU,V5,WI,abb];rfl
theorem Lc(i:Nat)(g:FA)(x0:Option PV)(ρ0:ay):lM i g (x0::ρ0)=match (x0::ρ0)[i]? with
  | some (some (.own l))=>(match g (x0::ρ0)with
    | .ok [v]=>if l.length<sizeLine then .next ((x0::ρ0).set i (some (.own (l ++[v])))) else .stuck
    | .ok _=>.stuck
    | .exc c=>.exc c (x0::ρ0)
    | .stuck=>.stuck)
  | _=>.stuck:=rfl
theorem Qj{M:Int}{n A k:Nat}{l:List PV}(hM:0<=M)(hn:n<=8)(hk:k<4)(hl:l.length<10)(x0 x2 x7 x8:Option PV):∃ y,Cf [x0,some (.str (tx eY)),x2,some (.lst (gY M n)),some (.int A),some (.own l),some (.int k),x7,x8] =
    .next [x0,some (.str (tx eY)),x2,some (.lst (gY M n)),some (.int A),some (.own (l ++[.str (tx (dH M n A k))])),some (.int k),some (.str (tx (dH M n A k))),y]:=by
  obtain⟨y,lp⟩:=SN (A:=A) hM hn hk x0 x2 (some (.own l)) x8;refine⟨y,?_⟩;have ln:fE [.lst (gY M n)]=.ok (.int (n:Int)):=by
    show R.ok (PV.int ((gY M n).length:Int))=_;unfold gY;rw[V5,WI]
  have o1:lg (n:Int):=n7 (by omega) (by omega);have hs:l.length<sizeLine:=Wc hl (by decide)
  generalize dH M n A k=w at *;generalize gY M n=B at *;generalize eY=ab at *;dsimp! (implicitDefEqProofs:=false) [Cf,mE,ln,o1,lp,Lc,ZA,ZC,hs,W2,List.set]
theorem Qk(hc:nb c<=1048576):fL c 618033988749894848204587:=iC (n:=200) hc (dP (by decide)) (by decide)
theorem FZ:uv 10 24:=⟨by decide,by decide,by decide⟩
theorem F0:gW 1000000000000000000000007:=show(0:Int)<1000000000000000000000007 by decide
theorem OT:gW 8:=show(0:Int)<8 by decide
theorem Ld:j3 1000:=kB (n:=20) (by decide) (dP (by decide)) (by decide)
theorem CA(i:Nat)(a:FE)(x0:Option PV)(ρ0:ay):uP i a (x0::ρ0)=jS (a (x0::ρ0)) (x0::ρ0) (fun v=>match v with
  | .lst l=>.next ((x0::ρ0).set i (some (.own l)))
  | _=>.stuck):=rfl
theorem Le(i:Nat)(g:FS)(x0:Option PV)(ρ0:ay):oC i g (x0::ρ0)=match (x0::ρ0)[i]? with
  | some (some (.own l))=>g ((x0::ρ0).set i (some (.lst l)))
  | _=>g (x0::ρ0):=rfl
theorem SO{M:Int}{n:Nat}(hn:1+M%8=(n:Int))(n8:n<=8)(x0 x1 x3 x4 x5 x6 x7 x8:Option PV):cL 9 (eD (af (ag ar ‹1› (ag oMod (ae 2) ‹8›)) ax)) f7 (ag oMod (ag oDiv (ae 2) (ag ar (ag ja (ae 9) (ae 9)) ‹1›)) ‹26›) [x0,x1,some (.int M),x3,x4,x5,x6,x7,x8]=.ok (.lst (gY M n)):=by
  have o1:lg (n:Int):=n7 (by omega) (by omega);have e:eD (af (ag ar ‹1› (ag oMod (ae 2) ‹8›)) ax) [x0,x1,some (.int M),x3,x4,x5,x6,x7,x8]=.ok (cV 0 (n:Int) 1):=by
    dsimp! (implicitDefEqProofs:=false) [OT,hn,o1]
  rw[oN,e,oU];refine mF (by rw[V5,WI];omega) (qm _ _ fun j hj=>?_);have hj:=XU.mp hj
  show ag oMod _ _ [x0,x1,some (.int M),x3,x4,x5,x6,x7,x8,some (.int (j:Int))]=_;have q0:(0:Int)<=(j:Int)*j:=WK (by omega) (by omega)
  have q1:(j:Int)*j<=8*8:=Int.mul_le_mul (by omega) (by omega) (by omega) (by omega);have om:fL (j:Int) (j:Int):=oK (by omega) (by omega)
  have od:j3 ((j:Int)*j+1):=kB (n:=20) (by omega) (dP (by omega)) (by decide);dsimp![om,od,Ed]
theorem SQ{M:Int}{n A:Nat}(c:Int)(M0:0<=M)(n8:n<=8):∃ y6 y7 y3,forL 6 Cf (cV 0 ((4:Nat):Int) 1) [some (.int c),some (.str (tx eY)),some (.int M),some (.lst (gY M n)),some (.int A),some (.own []),none,none,none]=.next [some (.int c),some (.str (tx eY)),some (.int M),some (.lst (gY M n)),some (.int A),some (.own ((List.range 4).map fun k=>PV.str (tx (dH M n A k)))),y6,y7,y3]:=by
  obtain⟨ρ,e1,y6,y7,y8,h⟩:=sk (I:=fun m ρ=>∃ y6 y7 y8,ρ=[some (.int c),some (.str (tx eY)),some (.int M),some (.lst (gY M n)),some (.int A),some (.own ((List.range m).map fun k=>PV.str (tx (dH M n A k)))),y6,y7,y8]) (i:=6) (body:=Cf) (l:=cV 0 ((4:Nat):Int) 1) (k:=0)
    (ρ:=[some (.int c),some (.str (tx eY)),some (.int M),some (.lst (gY M n)),some (.int A),some (.own []),none,none,none]) ⟨none,none,none,rfl⟩ (fun j x ρ hx hI=>by
      obtain⟨y6,y7,y8,rfl⟩:=hI;rw[oU,Wt]at hx;have hj:j<4:=by
        apply Nat.lt_of_not_le;intro q;rw[WQ (by rw[WI];exact q)]at hx;cases hx
      rw[Xx hj]at hx;cases hx;rw[abb];obtain⟨y,t0⟩:=Qj (A:=A) (k:=j) (l:=(List.range j).map fun k=>PV.str (tx (dH M n A k))) M0 n8 hj (by rw[V5,WI];omega) (some (.int c)) (some (.int M)) y7 y8;refine⟨_,t0,some (.int (j:Int)),some (.str (tx (dH M n A j))),y,?_⟩;rw[List.range_succ,X4];rfl)
  refine⟨y6,y7,y8,?_⟩;rw[e1,h,oU,V5,WI]
theorem Ql(M:Int):∃ n A:Nat,1+M%8=(n:Int)/\1<=n/\n<=8/\M/1000%(n:Int)=(A:Int)/\A<n/\lg (n:Int)/\gW (n:Int):=by
  have h8:0<=M%8/\M%8<8:=⟨Wy _ (by decide),WE _ (by decide)⟩;obtain⟨n,hn⟩:∃ n:Nat,1+M%8=(n:Int):=⟨(1+M%8).toNat,by omega⟩;have n1:1<=n:=by omega
  have SS:=Wy (M/1000) (show(n:Int)≠0 by omega)
  have VI:=WE (M/1000) (show 0<(n:Int) by omega)
  have n8:n<=8:=by omega
  exact⟨n,(M/1000%(n:Int)).toNat,hn,n1,n8,(YZ SS).symm,by omega,n7 (by omega) (by omega),show(0:Int)<n by omega⟩
noncomputable def Mx(c:Int):Int:=c*618033988749894848204587%1000000000000000000000007
theorem Aa(c:Int):c*618033988749894848204587%1000000000000000000000007=Mx c:=rfl
theorem SU(hc:nb c<=1048576):∃(M:Int)(n A:Nat),1<=n/\n<=8/\A<n/\Cg [.int c]=.ok (.lst [.str (tx (dH M n A 0)),.str (tx (dH M n A 1)),.str (tx (dH M n A 2)),.str (tx (dH M n A 3))]):=by
  have m6:=Qk hc;have M0:0<=Mx c:=Wy _ (by decide)
  have eq:=Aa c;generalize Mx c=M at *;obtain⟨n,A,hn,n1,n8,hA,A1,o1,SX⟩:=Ql M;refine⟨M,n,A,n1,n8,A1,?_⟩;have ln:fE [.lst (gY M n)]=.ok (.int (n:Int)):=by
    show R.ok (PV.int ((gY M n).length:Int))=_;unfold gY;rw[V5,WI]
  have cm:=SO hn n8;obtain⟨y6,y7,y3,lp⟩:=SQ (M:=M) (n:=n) (A:=A) c M0 n8;have r4:((List.range 4).map fun k=>PV.str (tx (dH M n A k)))=[.str (tx (dH M n A 0)),.str (tx (dH M n A 1)),.str (tx (dH M n A 2)),.str (tx (dH M n A 3))]:=rfl
  rw[r4,show((4:Nat):Int)=4 from rfl]at lp
  have o4:lg 4:=n7 (by decide) (by decide);generalize dH M n A 0=w0 at *;generalize dH M n A 1=w1 at *;generalize dH M n A 2=w2 at *;generalize dH M n A 3=w3 at *;generalize gY M n=B at *;have la:=Ho
  generalize eY=ab at *;dsimp! (implicitDefEqProofs:=false) [Cg,Oz,List.replicate,List.set,la,m6,FZ,F0,eq,cm,Ld,ln,SX,hA,CA,o4,lp,Le,ZA,ZC]
theorem ux{n A k:Nat} (h1:1<=n) (h8:n<=8):iF (dH M n A k)=false/\cn (dH M n A k)=true/\(dH M n A k).length=n:=by
  have hl:(dH M n A k).length=n:=by unfold dH;rw[V5,WI]
  have lt:cn (dH M n A k)=true:=by
    unfold cn dH;rw[Ww];intro c hc;obtain⟨j,_,rfl⟩:=WU.mp hc;unfold m9;have a:=Wy (M/((j:Int)*j+1)%26+(k:Int)*(if j=A then 1 else 0)) (show(26:Int)≠0 by decide)
    have b:=WE (M/((j:Int)*j+1)%26+(k:Int)*(if j=A then 1 else 0)) (show(0:Int)<26 by decide)
    generalize (M/((j:Int)*j+1)%26+(k:Int)*(if j=A then 1 else 0))%26=x at *;exact VX (by omega)
  refine⟨?_,lt,hl⟩;unfold iF;rw[lt,hl,VX ⟨h1,h8⟩];rfl
theorem Mn{n A k k':Nat} (hA:A<n) (hk:k<4) (KN:k'<4) (ne:k≠k'):dH M n A k≠dH M n A k':=by
  intro q;have q1:(dH M n A k)[A]?=(dH M n A k')[A]?:=by rw[q]
  unfold dH at q1;rw[Wt,Wt,Xx hA]at q1;have q2:m9 M A k A=m9 M A k' A:=by simpa using q1
  unfold m9 at q2;rw[VP rfl]at q2;have b0:=Wy (M/((A:Int)*A+1)) (show(26:Int)≠0 by decide)
  have b1:=WE (M/((A:Int)*A+1)) (show(0:Int)<26 by decide)
  generalize M/((A:Int)*A+1)%26=b at *;omega
end Dk
set_option maxHeartbeats 40000000
namespace Dk
open PySem Mi Cm
theorem vL:Str.ofString ""=tx []/\Str.ofString " "=tx [32]/\Str.ofString "keep"=tx [107,101,101,112]/\Str.ofString "keep "=tx [107,101,101,112,32]/\Str.ofString " 1 2"=tx [32,49,32,50]/\Str.ofString " 1 "=tx [32,49,32]/\Str.ofString " 1"=tx [32,49]/\Str.ofString "times"=tx [116,105,109,101,115]/\Str.ofString "turn"=tx [116,117,114,110]/\Str.ofString "total"=tx [116,111,116,97,108]/\Str.ofString "drop"=tx [100,114,111,112]/\Str.ofString "way"=tx [119,97,121]/\Str.ofString "way up down"=tx [119,97,121,32,117,112,32,100,111,119,110]/\Str.ofString "wipe all"=tx [119,105,112,101,32,97,108,108]/\Str.ofString "wipe "=tx [119,105,112,101,32]/\Str.ofString "marks "=tx [109,97,114,107,115,32]/\Str.ofString "show"=tx [115,104,111,119]/\Str.ofString "exact"=tx [101,120,97,99,116]/\Str.ofString "kind"=tx [107,105,110,100]/\Str.ofString " keep "=tx [32,107,101,101,112,32]/\Str.ofString "plus  "=tx [112,108,117,115,32,32]/\Str.ofString "minus "=tx [109,105,110,117,115,32]/\Str.ofString "root "=tx [114,111,111,116,32]/\Str.ofString "whole "=tx [119,104,111,108,101,32]/\Str.ofString "turn "=tx [116,117,114,110,32]/\Str.ofString "total "=tx [116,111,116,97,108,32]/\Str.ofString "order "=tx [111,114,100,101,114,32]/\Str.ofString "Show "=tx [83,104,111,119,32]/\Str.ofString "shows "=tx [115,104,111,119,115,32]/\Str.ofString "sho "=tx [115,104,111,32]/\Str.ofString "show\n"=tx [115,104,111,119,10]/\Str.ofString "show "=tx [115,104,111,119,32]/\Str.ofString "plus "=tx [112,108,117,115,32]/\Str.ofString "left "=tx [108,101,102,116,32]/\Str.ofString "drop "=tx [100,114,111,112,32]/\Str.ofString "bits "=tx [98,105,116,115,32]/\Str.ofString "fused "=tx [102,117,115,101,100,32]/\Str.ofString "sum "=tx [115,117,109,32]/\Str.ofString "over "=tx [111,118,101,114,32]/\Str.ofString "whole A "=tx [119,104,111,108,101,32,65,32]/\Str.ofString "turn A "=tx [116,117,114,110,32,65,32]/\Str.ofString "total A "=tx [116,111,116,97,108,32,65,32]/\Str.ofString "root a_b "=tx [114,111,111,116,32,97,95,98,32]/\Str.ofString "total  "=tx [116,111,116,97,108,32,32]/\Str.ofString "turn  "=tx [116,117,114,110,32,32]/\Str.ofString "plus A "=tx [112,108,117,115,32,65,32]/\Str.ofString "1 "=tx [49,32]/\Str.ofString ". "=tx [46,32]/\Str.ofString "over a-b "=tx [111,118,101,114,32,97,45,98,32]/\Str.ofString "left A "=tx [108,101,102,116,32,65,32]/\Str.ofString "times "=tx [116,105,109,101,115,32]/\Str.ofString "fused abcdefghi "=tx [102,117,115,101,100,32,97,98,99,100,101,102,103,104,105,32]/\Str.ofString "exact "=tx [101,120,97,99,116,32]/\Str.ofString "kind "=tx [107,105,110,100,32]/\Str.ofString "keep A 1"=tx [107,101,101,112,32,65,32,49]/\Str.ofString "keep  1"=tx [107,101,101,112,32,32,49]/\Str.ofString "keep abcdefghi 1"=tx [107,101,101,112,32,97,98,99,100,101,102,103,104,105,32,49]/\Str.ofString "keep abcdefghi 1."=tx [107,101,101,112,32,97,98,99,100,101,102,103,104,105,32,49,46]/\Str.ofString "1"=tx [49]/\Str.ofString "2 x"=tx [50,32,120]/\Str.ofString "\n"=tx [10]/\Str.ofString "- "=tx [45,32]/\Str.ofString "fused  "=tx [102,117,115,101,100,32,32]/\Str.ofString "Even"=tx [69,118,101,110]/\Str.ofString "near"=tx [110,101,97,114]/\Str.ofString "u"=tx [117]/\Str.ofString "upp"=tx [117,112,112]/\Str.ofString "in\n"=tx [105,110,10]/\Str.ofString "away0"=tx [97,119,97,121,48]/\Str.ofString "nearest"=tx [110,101,97,114,101,115,116]/\Str.ofString "1."=tx [49,46]/\Str.ofString "e5"=tx [101,53]/\Str.ofString "+1"=tx [43,49]/\Str.ofString "1e1000"=tx [49,101,49,48,48,48]/\Str.ofString ".5"=tx [46,53]/\Str.ofString "--1"=tx [45,45,49]/\Str.ofString "None"=tx [78,111,110,101]/\Str.ofString "endles"=tx [101,110,100,108,101,115]/\Str.ofString "1,5"=tx [49,44,53]/\Str.ofString "0x1"=tx [48,120,49]/\Str.ofString "1e"=tx [49,101]/\Str.ofString "inf"=tx [105,110,102]/\Str.ofString "-none"=tx [45,110,111,110,101]/\Str.ofString "way "=tx [119,97,121,32]:=by and_intros<;>decide +kernel
noncomputable def mH:List (List (List Nat×Nat×List Nat)):=[[([],0,[])],[([],0,[]),([],0,[])],[([107,101,101,112],0,[])],[([107,101,101,112],0,[]),([],1,[])],[([107,101,101,112],0,[]),([],1,[]),([49],0,[]),([50],0,[])],[([107,101,101,112],0,[]),([],1,[]),([49],0,[]),([],0,[])],[([],0,[]),([107,101,101,112],0,[]),([],1,[]),([49],0,[])],[([112,108,117,115],0,[]),([],1,[]),([],1,[])],[([112,108,117,115],0,[]),([],1,[]),([],1,[]),([],2,[]),([],1,[])],[([112,108,117,115],0,[]),([],0,[]),([],1,[])],[([109,105,110,117,115],0,[]),([],1,[])],[([116,105,109,101,115],0,[])],[([111,118,101,114],0,[]),([],1,[]),([],1,[]),([],1,[]),([],0,[])],[([108,101,102,116],0,[]),([],1,[]),([],1,[])],[([114,111,111,116],0,[]),([],1,[])],[([114,111,111,116],0,[]),([],1,[]),([],1,[]),([],1,[])],[([119,104,111,108,101],0,[]),([],1,[])],[([116,117,114,110],0,[]),([],1,[])],[([116,117,114,110],0,[])],[([102,117,115,101,100],0,[]),([],1,[]),([],1,[]),([],1,[])],[([116,111,116,97,108],0,[])],[([116,111,116,97,108],0,[]),([],1,[])],[([100,114,111,112],0,[])],[([100,114,111,112],0,[]),([],1,[]),([],2,[])],[([119,97,121],0,[])],[([119,97,121],0,[]),([117,112],0,[]),([100,111,119,110],0,[])],[([119,105,112,101],0,[]),([97,108,108],0,[])],[([119,105,112,101],0,[]),([],0,[])],[([109,97,114,107,115],0,[]),([],1,[])],[([109,97,114,107,115],0,[]),([],0,[])],[([115,104,111,119],0,[])],[([115,104,111,119],0,[]),([],1,[]),([],0,[])],[([101,120,97,99,116],0,[])],[([98,105,116,115],0,[]),([],1,[]),([],1,[])],[([107,105,110,100],0,[])],[([111,114,100,101,114],0,[]),([],1,[])],[([111,114,100,101,114],0,[]),([],1,[]),([],1,[]),([],1,[])],[([83,104,111,119],0,[]),([],1,[])],[([115,104,111,119,115],0,[]),([],1,[])],[([115,104,111],0,[]),([],1,[])],[([115,104,111,119,10],1,[])],[([115,117,109],0,[]),([],1,[]),([],1,[]),([],1,[])],[([],5,[]),([],2,[])]]
noncomputable def jw:List (List (List Nat×Nat×List Nat)):=[[([112,108,117,115],0,[]),([65],0,[]),([],1,[]),([],2,[])],[([109,105,110,117,115],0,[]),([],1,[49]),([],2,[]),([],1,[])],[([119,104,111,108,101],0,[]),([65],0,[]),([],2,[])],[([116,105,109,101,115],0,[]),([],5,[]),([],2,[]),([],2,[])],[([111,118,101,114],0,[]),([97,45,98],0,[]),([],1,[]),([],2,[])],[([116,117,114,110],0,[]),([65],0,[]),([],1,[])],[([116,117,114,110],0,[]),([],1,[49]),([],2,[])],[([116,111,116,97,108],0,[]),([],1,[49]),([],1,[]),([],2,[])],[([116,111,116,97,108],0,[]),([65],0,[]),([],2,[])],[([114,111,111,116],0,[]),([97,95,98],0,[]),([],2,[])],[([108,101,102,116],0,[]),([65],0,[]),([],2,[]),([],1,[])],[([116,111,116,97,108],0,[]),([],0,[]),([],1,[])],[([102,117,115,101,100],0,[]),([97,98,99,100,101,102,103,104,105],0,[]),([],1,[]),([],1,[]),([],2,[])],[([116,117,114,110],0,[]),([],0,[]),([],2,[])],[([119,104,111,108,101],0,[]),([],1,[46]),([],1,[])]]
noncomputable def pNames:List (List (List Nat×Nat×List Nat)):=[[([115,104,111,119],0,[]),([],3,[])],[([101,120,97,99,116],0,[]),([],3,[])],[([98,105,116,115],0,[]),([],3,[])],[([107,105,110,100],0,[]),([],3,[])],[([100,114,111,112],0,[]),([],3,[])],[([111,114,100,101,114],0,[]),([],1,[]),([],3,[])],[([111,114,100,101,114],0,[]),([],3,[]),([],1,[])],[([112,108,117,115],0,[]),([],1,[]),([],3,[]),([],1,[])],[([115,104,111,119],0,[]),([],1,[49])],[([115,104,111,119],0,[]),([],0,[])],[([109,105,110,117,115],0,[]),([],1,[]),([],1,[]),([],3,[])],[([107,101,101,112],0,[]),([65],0,[]),([49],0,[])],[([107,101,101,112],0,[]),([],0,[]),([49],0,[])],[([116,105,109,101,115],0,[]),([],3,[]),([],4,[]),([],1,[])],[([111,118,101,114],0,[]),([],3,[]),([],1,[]),([],4,[])],[([108,101,102,116],0,[]),([],1,[45]),([],1,[]),([],1,[])],[([114,111,111,116],0,[]),([],3,[]),([],4,[])],[([119,104,111,108,101],0,[]),([],4,[]),([],3,[])],[([116,117,114,110],0,[]),([],1,[]),([],4,[])],[([107,101,101,112],0,[]),([97,98,99,100,101,102,103,104,105],0,[]),([49],0,[])],[([102,117,115,101,100],0,[]),([],1,[]),([],1,[]),([],1,[]),([],3,[])],[([116,111,116,97,108],0,[]),([],3,[]),([],1,[]),([],4,[])],[([116,111,116,97,108],0,[]),([],1,[]),([],3,[])],[([107,101,101,112],0,[]),([],5,[]),([49],0,[])],[([114,111,111,116],0,[]),([97,95,98],0,[]),([],1,[])],[([107,101,101,112],0,[]),([97,98,99,100,101,102,103,104,105],0,[]),([49,46],0,[])],[([107,101,101,112],0,[]),([],1,[50]),([120],0,[])],[([115,104,111,119],0,[]),([],1,[10])],[([102,117,115,101,100],0,[]),([],0,[]),([],1,[]),([],1,[]),([],1,[])]]
abbrev Wp:=List Nat×Nat×List Nat
noncomputable def env(a b c d:List Nat):Nat->List Nat
  | 1=>a
  | 2=>b
  | 3=>c
  | 4=>d
  | 5=>a.map (· - 32)
  | _=>[]
theorem Ab(a b c d:List Nat):env a b c d 0=[]/\env a b c d 1=a/\env a b c d 2=b/\env a b c d 3=c/\env a b c d 4=d/\env a b c d 5=a.map (· - 32):=⟨rfl,rfl,rfl,rfl,rfl,rfl⟩
noncomputable def inst(E:Nat->List Nat)(w:Wp):List Nat:=w.1 ++(E w.2.1++w.2.2)
noncomputable def dQ(E:Nat->List Nat)(ps:List (List Wp)):List PV:=ps.map fun p=>.str (tx (jn (p.map (inst E))))
theorem Qm:∀ c<26,Unicode.upperOf (97+c)=[65+c]:=by decide +kernel
theorem F1(g:Nat->Nat):∀(l:List Nat)(f:Nat->Nat->List Nat),(∀ i c,c∈l->f i c=[g c])->((l.mapIdx fun i c=>(f i c).toArray).map Array.toList).flatten=l.map g
  | [],f,_=>rfl
  | c::l,f,h=>by
    rw[List.mapIdx_cons,VZ,List.flatten_cons,h 0 c Wf,F1 g l (fun i=>f (i+1)) fun i x hx=>h (i+1) x (V6 _ hx)];rfl
theorem Mo{a:List Nat}(h:cn a=true):Txt.upper (tx a)=tx (a.map (· - 32)):=by
  unfold cn at h;rw[Ww]at h;show(⟨placed (tx a) _⟩:Str)=⟨_⟩
  congr 1;apply Zw.mp;unfold placed;rw[Array.toList_flatten,Array.toList_mapIdx,g8];have:=F1 (· - 32) a (fun _ c=>Unicode.upperOf c) (fun i c hc=>by
    have q:=Wv (h c hc);have u:=Qm (c - 97) (by omega)
    rw[show 97+(c - 97)=c by omega]at u;rw[u];congr 1;omega)
  rw[this]
theorem Ac{a b:List PV}(h:a.length+b.length<=1000):ar (.lst a) (.lst b)=.ok (.lst (a++b)):=by
  show(if _ then _ else _)=_;rw[VP (Wh h (by decide))]
section
variable {a b c d:List Nat}
theorem Lf(h:cn a=true)(ha:a.length<=8):ku [.str (tx a)]=.ok (.str (tx (a.map (· - 32)))):=by
  show(if _ then _ else _)=_;rw[Mo h,dS,V5,VP (gq (by omega))]
theorem SY(h:cn a=true)(ha:a.length<=8)(hb:b.length<=8):Fy [.str (tx a),.str (tx b)]=.ok (.lst (dQ (env a b c d) mH)):=by
  have up:=Lf h ha;dsimp?! [Fy,OA,List.replicate,vL,iD,Ac,dh,cg,up,dQ,mH,VZ,Xc,inst,Ab,jn,Wj,Xa,Xn,Xt]
theorem S5(h:cn a=true)(ha:a.length<=8)(hb:b.length<=8):Fz [.str (tx a),.str (tx b)]=.ok (.lst (dQ (env a b c d) jw)):=by
  have up:=Lf h ha;dsimp?! [Fz,OB,List.replicate,vL,iD,Ac,dh,cg,up,dQ,jw,VZ,Xc,inst,Ab,jn,Wj,Xa,Xn,Xt]
theorem S6(h:cn a=true)(ha:a.length<=8)(hc:c.length<=8)(hd:d.length<=8):FC [.str (tx a),.str (tx c),.str (tx d)]=.ok (.lst (dQ (env a b c d) pNames)):=by
  have up:=Lf h ha;dsimp?! [FC,OC,List.replicate,vL,iD,Ac,dh,cg,up,dQ,pNames,VZ,Xc,inst,Ab,jn,Wj,Xa,Xn,Xt]
end
end Dk
set_option maxHeartbeats 4000000
namespace Cm
open PySem Mi
theorem F2{r n:Nat}(h:r<2 ^ n)(i:Nat):(2 ^ n+r).testBit i=(r.testBit i||decide (n=i)):=by
  by_cases h1:n=i
  . subst h1;rw[Nat.testBit_two_pow_add_eq,X6 h,VX rfl];rfl
  . rw[V3 h1,Yx];by_cases h2:i<n
    . rw[Nat.testBit_two_pow_add_gt h2]
    . have a:r<2 ^ i:=Wc h (YM (by decide) (by omega));have b:2 ^ n+r<2 ^ i:=by
        have:2 ^ (n+1)<=2 ^ i:=YM (by decide) (by omega);rw[Nat.pow_succ]at this;omega
      rw[X6 a,X6 b]
theorem F3{r n:Nat}(h:r<2 ^ n):r ||| 2 ^ n=2 ^ n+r:=by
  apply YN;intro i;rw[Nat.testBit_or,Y0,F2 h]
theorem Mp{r n:Nat}(h:r<2 ^ n):(2 ^ n+r) ||| 2 ^ n=2 ^ n+r:=by
  rw[<- F3 h,Nat.or_assoc,Nat.or_self]
theorem Lg{r n:Nat}(h:r<2 ^ n):r &&& 2 ^ n=0:=by
  apply YN;intro i;rw[Nat.testBit_and,Y0,Nat.zero_testBit];by_cases h1:n=i
  . subst h1;rw[X6 h];rfl
  . rw[V3 h1,Y1]
theorem Lh{r n:Nat}(h:r<2 ^ n):(2 ^ n+r) &&& 2 ^ n=2 ^ n:=by
  apply YN;intro i;rw[Nat.testBit_and,Y0,F2 h];by_cases h1:n=i
  . rw[VX h1,Zq,Bool.and_true]
  . rw[V3 h1,Y1]
theorem ye(c:Int):p2 c=((2 ^ c.toNat:Nat):Int):=by show(2:Int) ^ c.toNat=_;push_cast;rfl
theorem qu{x y:Int}(hx:0<=x)(hy:0<=y):Builtin.bitOr x y=((x.toNat ||| y.toNat:Nat):Int):=by
  unfold Builtin.bitOr Builtin.bitAnd;have h1:¬ 0<=Builtin.bitNot x:=by unfold Builtin.bitNot;omega
  have h2:¬ 0<=Builtin.bitNot y:=by unfold Builtin.bitNot;omega
  rw[V3 h1,V3 h2];show Builtin.bitNot (Builtin.bitNot (((Builtin.bitNot (Builtin.bitNot x)).toNat ||| (Builtin.bitNot (Builtin.bitNot y)).toNat:Nat):Int))=_
  have nn:∀ z,Builtin.bitNot (Builtin.bitNot z)=z:=fun z=>by unfold Builtin.bitNot;omega
  rw[nn,nn,nn]
theorem Hq{w c:Int}(h0:0<=w)(h1:w<2*p2 c):Builtin.bitAnd w (p2 c)=w/p2 c*p2 c:=by
  have hp:=aY c;unfold Builtin.bitAnd;rw[VX h0,VX (Wn hp)];show(((w.toNat &&& (p2 c).toNat:Nat)):Int)=_
  rw[ye]at *;generalize c.toNat=n at *;obtain⟨m,rfl⟩:∃ m:Nat,w=m:=⟨w.toNat,by omega⟩;rw[Xu,Xu];by_cases h:m<2 ^ n
  . rw[Lg h,WW (by omega) (by omega),XD];rfl
  . obtain⟨r,rfl⟩:∃ r,m=2 ^ n+r:=⟨m - 2 ^ n,by omega⟩;rw[Lh (by omega)];have e:((2 ^ n+r:Nat):Int)=(r:Int)+1*((2 ^ n:Nat):Int):=by omega
    rw[e,XA _ _ (by omega),WW (by omega) (by omega)];omega
theorem Hr{w c:Int}(h0:0<=w)(h1:w<2*p2 c):Builtin.bitXor w (p2 c)=(w+p2 c)%(2*p2 c):=by
  have hp:=aY c;unfold Builtin.bitXor;rw[qu h0 (Wn hp),Hq h0 h1];clear hp;rw[ye]at *;have hp:0<2 ^ c.toNat:=Nat.two_pow_pos _
  generalize c.toNat=n at *;obtain⟨m,rfl⟩:∃ m:Nat,w=m:=⟨w.toNat,by omega⟩;rw[Xu,Xu];by_cases h:m<2 ^ n
  . rw[F3 h,Xv (by omega) (by omega),WW (by omega) (by omega),XD];omega
  . obtain⟨r,rfl⟩:∃ r,m=2 ^ n+r:=⟨m - 2 ^ n,by omega⟩;rw[Mp (by omega)];have e:(((2 ^ n+r:Nat):Int)+((2 ^ n:Nat):Int))=(r:Int)+1*(2*((2 ^ n:Nat):Int)):=by omega
    have e':((2 ^ n+r:Nat):Int)/((2 ^ n:Nat):Int)=1:=by
      have:((2 ^ n+r:Nat):Int)=(r:Int)+1*((2 ^ n:Nat):Int):=by omega
      rw[this,XA _ _ (by omega),WW (by omega) (by omega)];rfl
    rw[e,Xh,Xv (by omega) (by omega),e'];omega
theorem S8(h:Wd e f):Fs [e∣f]=.ok (.int (p2 (e+f))):=by
  obtain⟨g1,g2,g3,g4⟩:=h;dsimp![Fs,Od,W4,oO (b:=e+f) (by omega) (by omega)]
theorem Ta{e f w:Int}(h:Wd e f)(h0:0<=w)(h1:w<p2 (1+e+f)):B5 [e∣f,.int w]=.ok (.int ((w+p2 (e+f))%(2*p2 (e+f)))):=by
  have a:=OO h h0 h1;have b:=S8 h
  obtain⟨p1,p3,p4,p5,p6,_⟩:=rE h;rw[p6]at h1;dsimp![B5,Oe,a,b,Hr h0 h1]
theorem clip{q d T:Int}(h0:0<=T)(h1:q+d<T)(h2:0<T):0<=(if 0>q+d then (0:Int) else q+d)/\(if 0>q+d then (0:Int) else q+d)<T:=by split<;>omega
noncomputable def ab(n:Int):Int:=if n<0 then -n else n
theorem Hs{a b:Int}(h0:0<=a)(h:a<=b):nb a<=nb b:=dP (by have:=uw (a:=b) (VU _);omega)
theorem su(n:Int):(if n<0 then -n else n)=ab n:=rfl
theorem Mq(n:Int):0<=ab n:=by unfold ab;split<;>omega
theorem CB{n:Int}(h:n≠0):0<ab n:=by unfold ab;split<;>omega
theorem Hu(n:Int):ab (-n)=ab n:=by unfold ab;split<;>split<;>omega
theorem Ad(n:Int):nb (ab n)=nb n:=by unfold ab;split<;>simp only[rn]
theorem Ae{n:Int}(h:0<=n):ab n=n:=by unfold ab;rw[VQ (by omega)]
theorem dW{a:Int}(h:a<=0):p2 a=1:=by
  show(2:Int) ^ a.toNat=1;rw[aaW h];rfl
theorem OU(n k d:Int)(h1:nb n<=100000)(h2:nb d<=100000)(h3 : -100000<=k)(h4:k<=100000):xJ [.int n,.int k,.int d]=.ok (.tup [.int (n*p2 k),.int (d*p2 (-k))]):=by
  by_cases h:0<=k
  . have o:lh n k:=ji h h1 (by omega);have e:d*p2 (-k)=d:=by rw[dW (by omega),Xj]
    dsimp![xJ,KA,h,o,e]
  . have o:lh d (-k):=ji (by omega) h2 (by omega);have e:n*p2 k=n:=by rw[dW (by omega),Xj]
    dsimp![xJ,KA,h,o,e]
def Ht(s d e:Int):Prop:=d*p2 e<=s*p2 (-e)/\s*p2 (-e)<2*(d*p2 e)
theorem kG{e f:Int}(h:e<=f):p2 f*p2 (-e)=p2 e*p2 (-f)*p2 (f - e):=by
  by_cases h1:0<=e
  . rw[dW (a:=-e) (by omega),dW (a:=-f) (by omega),Xj,Xj,<- gM h1 (by omega)];congr 1;omega
  . by_cases h2:0<=f
    . rw[dW (a:=e) (by omega),dW (a:=-f) (by omega),W4,W4,<- gM h2 (by omega)];congr 1
    . rw[dW (a:=e) (by omega),dW (a:=f) (by omega),W4,W4,<- gM (by omega) (by omega)];congr 1;omega
theorem vM{j:Int}(h:1<=j):2<=p2 j:=by
  have:=lj (a:=1) (b:=j) (by decide) h;rw[zM]at this;exact this
theorem F4{s d e f:Int}(hd:0<d)(he:Ht s d e)(hf:Ht s d f):¬ e<f:=by
  intro h;have c:=kG (e:=e) (f:=f) (by omega)
  have c2:=vM (j:=f - e) (by omega);have pe:=aY e
  have VJ:=aY (-e);have Tb:=aY (-f)
  have a1:s*p2 (-e)*p2 (-f)<2*(d*p2 e)*p2 (-f):=Wq he.2 Tb;have a2:d*p2 f*p2 (-e)<=s*p2 (-f)*p2 (-e):=V7 hf.1 (by omega)
  have a3:d*p2 f*p2 (-e)=d*(p2 e*p2 (-f))*p2 (f - e):=by rw[VY,c];exact(VY _ _ _).symm
  have a4:s*p2 (-f)*p2 (-e)=s*p2 (-e)*p2 (-f):=by rw[VY,VY,Wk (p2 (-f))]
  have a5:2*(d*p2 e)*p2 (-f)=d*(p2 e*p2 (-f))*2:=by rw[VY,VY,Wk]
  have a6:d*(p2 e*p2 (-f))*2<=d*(p2 e*p2 (-f))*p2 (f - e):=WX c2 (WK (by omega) (WK (by omega) (by omega)));omega
theorem CC{s d e f:Int}(hd:0<d)(he:Ht s d e)(hf:Ht s d f):e=f:=by
  have:=F4 hd he hf;have:=F4 hd hf he
  omega
theorem ou{s:Int}(hs:0<s):p2 ((nb s:Int) - 1)<=s/\s<p2 (nb s):=by
  have h1:=uw (a:=s) (VU _);have e:p2 (nb s:Int)=((2 ^ nb s:Nat):Int):=by rw[n9];push_cast;rfl
  refine⟨?_,by omega⟩;by_cases gJ:s<p2 ((nb s:Int) - 1)
  . exfalso;have hp:=vE (a:=s) (by omega)
    have h2:nb s<=nb s - 1:=dP (by
      have e2:(nb s:Int) - 1=((nb s - 1:Nat):Int):=by omega
      rw[e2,n9]at gJ;have e3:((2:Int) ^ (nb s - 1))=((2 ^ (nb s - 1):Nat):Int):=by push_cast;rfl
      omega)
    omega
  . omega
theorem Ee{s d:Int}(hs:0<s)(hd:0<d):d*p2 ((nb s:Int) - nb d)<2*(s*p2 (-((nb s:Int) - nb d)))/\s*p2 (-((nb s:Int) - nb d))<2*(d*p2 ((nb s:Int) - nb d)):=by
  obtain⟨s1,s2⟩:=ou hs;obtain⟨d1,d2⟩:=ou hd;have OV:(1:Int)<=nb s:=by have:=vE (a:=s) (by omega);omega
  have IM:(1:Int)<=nb d:=by have:=vE (a:=d) (by omega);omega
  generalize (nb s:Int)=a at *;generalize (nb d:Int)=b at *;have ea:p2 a=2*p2 (a - 1):=by rw[<- fq (by omega)];congr 1;omega
  have eb:p2 b=2*p2 (b - 1):=by rw[<- fq (by omega)];congr 1;omega
  by_cases h:b<=a
  . have q:=aY (a - b);have e1:p2 a=p2 b*p2 (a - b):=by rw[<- gM (by omega) (by omega)];congr 1;omega
    have f1:d*p2 (a - b)<p2 b*p2 (a - b):=Wq d2 q;have f2:p2 (b - 1)*p2 (a - b)<=d*p2 (a - b):=V7 d1 (by omega)
    have e2:p2 a=2*(p2 (b - 1)*p2 (a - b)):=by rw[e1,eb,VY]
    rw[dW (a:=-(a - b)) (by omega),Xj];constructor<;>omega
  . have q:=aY (-(a - b));have e1:p2 b=p2 a*p2 (-(a - b)):=by rw[<- gM (by omega) (by omega)];congr 1;omega
    have f1:s*p2 (-(a - b))<p2 a*p2 (-(a - b)):=Wq s2 q;have f2:p2 (a - 1)*p2 (-(a - b))<=s*p2 (-(a - b)):=V7 s1 (by omega)
    have e2:p2 b=2*(p2 (a - 1)*p2 (-(a - b))):=by rw[e1,ea,VY]
    rw[dW (a:=a - b) (by omega),Xj];constructor<;>omega
theorem Hv(e:Int):(p2 (e - 1)*2=p2 e/\p2 (-(e - 1))=p2 (-e))\/(p2 (e - 1)=p2 e/\p2 (-(e - 1))=2*p2 (-e)):=by
  by_cases h:1<=e
  . refine .inl ⟨?_,?_⟩
    . rw[Wk,<- fq (by omega)];congr 1;omega
    . rw[dW (by omega),dW (by omega)]
  . refine .inr ⟨?_,?_⟩
    . rw[dW (by omega),dW (by omega)]
    . rw[<- fq (by omega)];congr 1;omega
theorem Hw{s d e:Int}(h1:s*p2 (-e)<d*p2 e)(h2:d*p2 e<2*(s*p2 (-e))):Ht s d (e - 1):=by
  unfold Ht;rcases Hv e with⟨a,b⟩ | ⟨a,b⟩
  . rw[b];have:d*p2 e=2*(d*p2 (e - 1)):=by rw[<- a,<- VY,Wk]
    constructor<;>omega
  . rw[a,b,WG];constructor<;>omega
theorem OW{n k d:Int}(hn:n≠0)(hd:0<d)(b1:nb n<=50000)(b2:nb d<=50000):∃ e,xK [.int n,.int k,.int d]=.ok (.int (e+k))/\Ht (ab n) d e/\-50001<=e/\e<=50000:=by
  have hs:=CB hn;have hb:=Ad n
  obtain⟨g1,g2⟩:=Ee hs hd;have q:=OU (ab n) (-((nb (ab n):Int) - nb d)) d (by omega) (by omega) (by omega) (by omega)
  rw[Int.neg_neg]at q;by_cases h:ab n*p2 (-((nb (ab n):Int) - nb d))<d*p2 ((nb (ab n):Int) - nb d)
  . refine⟨(nb (ab n):Int) - nb d - 1,?_,Hw h g1,by omega,by omega⟩;dsimp![xK,KC,hn,su,q,h]
  . refine⟨(nb (ab n):Int) - nb d,?_,⟨by omega,g2⟩,by omega,by omega⟩;dsimp![xK,KC,hn,su,q,h]
noncomputable def dC(r u:Int):Int:=if 2*r=0 then 0 else if 2*r<u then 1 else if 2*r=u then 2 else 3
theorem Tc{n k d g:Int}(hd:0<d)(b1:nb n<=50000)(b2:nb d<=50000)(h1 : -60000<=k - g)(h2:k - g<=60000)(h3:nb (d*p2 (g - k))<=9000) :
    zk [.int n,.int k,.int d,.int g]=.ok (.tup [.int (ab n*p2 (k - g)/(d*p2 (g - k))),.int (dC (ab n*p2 (k - g) - ab n*p2 (k - g)/(d*p2 (g - k))*(d*p2 (g - k))) (d*p2 (g - k)))]):=by
  have hb:=Ad n;have q:=OU (ab n) (k - g) d (by omega) (by omega) (by omega) (by omega)
  have e : -(k - g)=g - k:=by omega
  rw[e]at q;have hu:0<d*p2 (g - k):=Xz hd (aY _)
  have hx:nb (ab n*p2 (k - g))<=120001:=Wh (oa _ _) (by
    by_cases z:0<=k - g
    . rw[zN z];omega
    . rw[dW (by omega)];have:nb 1=1:=rfl;omega)
  have OX:0<=ab n*p2 (k - g):=WK (Mq n) (Wn (aY _));generalize ab n*p2 (k - g)=x at *;generalize d*p2 (g - k)=u at *;have o:j3 u:=kB hu h3 (by decide)
  have hq:nb (x/u)<=120001:=Wh (Hs (WH OX (Wn hu)) (Zp _ OX)) hx;have om:fL (x/u) u:=iC hq h3 (by decide)
  generalize hy:x/u*u=y at *;have o2:fL 2 (x - y):=oK (by decide) (by decide)
  by_cases c1:2*(x - y)=0
  . have z:dC (x - y) u=0:=VP c1;rw[z];dsimp![zk,B7,su,q,o,om,hy,o2,c1]
  . by_cases c2:2*(x - y)<u
    . have z:dC (x - y) u=1:=by unfold dC;rw[VQ c1,VP c2]
      rw[z];dsimp![zk,B7,su,q,o,om,hy,o2,c1,c2]
    . by_cases c3:2*(x - y)=u
      . have z:dC (x - y) u=2:=by unfold dC;rw[VQ c1,VQ c2,VP c3]
        rw[z];have n0:¬ u=0:=by omega
        have n1:¬ u<u:=by omega
        dsimp![zk,B7,su,q,o,om,hy,o2,c3,n0,n1]
      . have z:dC (x - y) u=3:=by unfold dC;rw[VQ c1,VQ c2,VQ c3]
        rw[z];dsimp![zk,B7,su,q,o,om,hy,o2,c1,c2,c3]
def Wu(e f s u:Int):Prop:=Wd e f/\(s=0\/s=1)/\0<=u/\u<p2 (e+f)
noncomputable abbrev eS(e f:Int):Int:=(p2 e - 1)*p2 f
theorem Hx(h:Wu e f s u):0<=u+s*p2 (e+f)/\u+s*p2 (e+f)<p2 (1+e+f)/\(u+s*p2 (e+f))/p2 (e+f)=s/\(u+s*p2 (e+f))%p2 (e+f)=u/\(u+s*p2 (e+f))/p2 f%p2 e=u/p2 f/\(u+s*p2 (e+f))%p2 f=u%p2 f:=by
  obtain⟨hw,hs,u0,u1⟩:=h;obtain⟨p1,p3,p4,p5,p6,_⟩:=rE hw;have st:s*p2 (e+f)=0\/s*p2 (e+f)=p2 (e+f):=by rcases hs with rfl | rfl<;>omega
  have hT:=aY (e+f);refine⟨by omega,by omega,?_,?_,?_,?_⟩
  . rw[XA _ _ (by omega),WW u0 u1,XE]
  . rw[Xh,Xv u0 u1]
  . rw[p5,<- VY,XA _ _ (by omega),Xh];exact Xv (WH u0 (by omega)) (YC (by omega) (by rw[<- p5];exact u1))
  . rw[p5,<- VY,Xh]
theorem Td(h:Wu e f s u):B5 [e∣f,.int (u+s*p2 (e+f))]=.ok (.int (u+(1 - s)*p2 (e+f))):=by
  obtain⟨a,b,c1,c2,c,d⟩:=Hx h;have k:=Ta h.1 a b
  have u0:=h.2.2.1;have u1:=h.2.2.2
  have z:(u+s*p2 (e+f)+p2 (e+f))%(2*p2 (e+f))=u+(1 - s)*p2 (e+f):=by
    rcases h.2.1 with rfl | rfl
    . rw[Xv (by omega) (by omega)];omega
    . have e1:u+1*p2 (e+f)+p2 (e+f)=u+1*(2*p2 (e+f)):=by omega
      rw[e1,Xh,Xv (by omega) (by omega)];omega
  rw[z]at k;exact k
theorem Te(h:Wd e f):B8 [e∣f]=.ok (.int (eS e f)):=by
  obtain⟨p1,p3,p4,p5,p6,b1,b2,b3,b4,p7,p8⟩:=rE h;have a:=rD h
  have b:=FP (c:=e) (by have:=h.1;omega) (by have:=h.2.1;omega);have c:=Sy (s:=0) (x:=p2 e - 1) (y:=0) h (by decide) (by decide) (by omega) (by omega) (by decide) (by omega)
  rw[XD,XE,Int.add_zero]at c;dsimp![B8,Oh,a,b,c]
theorem kH(h:Wd e f):p2 (e+f)=eS e f+p2 f/\3*p2 f<=eS e f/\2<=p2 f/\p2 f=2*p2 (f - 1)/\1<=p2 (f - 1):=by
  obtain⟨p1,p3,p4,p5,p6,b1,b2,b3,b4,p7,p8⟩:=rE h;obtain⟨m1,m3⟩:=DY h;exact⟨m1,m3,p3,p4,p7⟩
noncomputable def rk(s u:Int):Int:=if s=1 then -u else u
theorem F5(h:Wu e f 0 u)(b:Bool):zm [e∣f,.int u,.bl b]=.ok (.int (u+(if b then 1 else 0)*p2 (e+f))):=by
  have a:=Td h;rw[XD,Int.add_zero]at a;cases b
  . have z:u+(if false=true then (1:Int) else 0)*p2 (e+f)=u:=by rw[VQ (by decide)];omega
    rw[z];dsimp![zm,KD]
  . have z:u+(if true=true then (1:Int) else 0)*p2 (e+f)=u+(1 - 0)*p2 (e+f):=by rw[VP rfl];omega
    rw[z];dsimp![zm,KD,a]
noncomputable def br(f u:Int):Int:=if u<p2 f then u else (u%p2 f+p2 f)*p2 (u/p2 f - 1)
theorem kI{f u:Int}(h:u<p2 f):br f u=u:=VP h
theorem rK{f u:Int}(h:p2 f<=u):p2 f*p2 (u/p2 f - 1)<=br f u/\br f u<p2 f*p2 (u/p2 f):=by
  have pf:=aY f;have y0:=Wy u (show p2 f≠0 by omega)
  have y1:=WE u (show 0<p2 f by omega);have x1:1<=u/p2 f:=(Yw pf).mpr (by omega)
  have pp:=aY (u/p2 f - 1);have e:p2 (u/p2 f)=2*p2 (u/p2 f - 1):=by rw[<- fq (by omega)];congr 1;omega
  unfold br;rw[VQ (by omega)];constructor
  . exact V7 (by omega) (by omega)
  . rw[e,<- VY];exact Wq (by omega) pp
theorem rL{f u v:Int}(u0:0<=u)(h:u<v):br f u<br f v:=by
  have pf:=aY f;by_cases c1:v<p2 f
  . rw[kI c1,kI (by omega)];exact h
  . obtain⟨v1,v2⟩:=rK (f:=f) (u:=v) (by omega);have x1:1<=v/p2 f:=(Yw pf).mpr (by omega)
    by_cases c2:u<p2 f
    . rw[kI c2];have:p2 f*1<=p2 f*p2 (v/p2 f - 1):=WX (by have:=aY (v/p2 f - 1);omega) (by omega)
      omega
    . obtain⟨u1,u2⟩:=rK (f:=f) (u:=u) (by omega);have x2:1<=u/p2 f:=(Yw pf).mpr (by omega)
      have le:u/p2 f<=v/p2 f:=Int.ediv_le_ediv pf (by omega);by_cases c3:u/p2 f=v/p2 f
      . have d1:=Xo u (p2 f);have d2:=Xo v (p2 f)
        unfold br;rw[VQ c2,VQ c1];rw[c3]at d1 ⊢;exact Wq (by omega) (aY _)
      . have:p2 (u/p2 f)<=p2 (v/p2 f - 1):=lj (by omega) (by omega);have:=WX this (Wn pf)
        omega
noncomputable def lp(e f:Int):Int:=1 - (p2 (e - 1) - 1) - f
theorem jI(h:Wd e f) : -1082<=lp e f/\lp e f<=-1/\2<=p2 (e - 1)/\p2 (e - 1)<=1024:=by
  obtain⟨h1,h2,h3,h4⟩:=h;have a:=lj (a:=e - 1) (b:=10) (by omega) (by omega)
  have b:=vM (j:=e - 1) (by omega);have VL:p2 10=1024:=by decide
  unfold lp;omega
def fU(p:Int)(z:Str)(k:Nat):Prop:=(p=0/\z="even"/\k=21)\/(p=1/\z="away"/\k=22)\/(p=2/\z="in"/\k=23)\/(p=3/\z="up"/\k=24)\/(p=4/\z="down"/\k=25)
theorem Ef{p:Int}(h0:0<=p)(h1:p<5):∃ z k,fU p z k:=by
  have:p=0\/p=1\/p=2\/p=3\/p=4:=by omega
  rcases this with rfl | rfl | rfl | rfl | rfl
  . exact⟨_,_,.inl ⟨rfl,rfl,rfl⟩⟩
  . exact⟨_,_,.inr (.inl ⟨rfl,rfl,rfl⟩)⟩
  . exact⟨_,_,.inr (.inr (.inl ⟨rfl,rfl,rfl⟩))⟩
  . exact⟨_,_,.inr (.inr (.inr (.inl ⟨rfl,rfl,rfl⟩)))⟩
  . exact⟨_,_,.inr (.inr (.inr (.inr ⟨rfl,rfl,rfl⟩)))⟩
theorem uy{k:Nat} (h:fU p z k):bP [.str z]=.ok (.ins k)/\aB (.lst [.str "even",.str "away",.str "in",.str "up",.str "down"]) (.int p)=.ok (.str z):=by
  rcases h with⟨rfl,rfl,rfl⟩ | ⟨rfl,rfl,rfl⟩ | ⟨rfl,rfl,rfl⟩ | ⟨rfl,rfl,rfl⟩ | ⟨rfl,rfl,rfl⟩<;>exact⟨rfl,rfl⟩
theorem iN(c:Nat):bY (some (.ins c))=.ok (.ins c):=rfl
noncomputable def gw(p:Int)(odd:Bool)(sd:Int)(below:Bool):Bool:=if p=0 then decide (sd=3)||(decide (sd=2)&&odd) else if p=1 then decide (2<=sd) else if p=2 then false else if p=3 then !below else below
theorem OY{k:Nat}{sd:Int} (odd below:Bool) (h:fU p z k) (hs:sd=0\/sd=1\/sd=2\/sd=3) {fo:FE}{g:FA}{x0:Option PV}{ρ:ay} (h1:fo (x0::ρ)=.ok (.ins k)) (h2:g (x0::ρ)=.ok [.bl odd,.int sd,.bl below]):oF B9 fo g (x0::ρ)=.ok (.bl (gw p odd sd below)):=by
  show(fo (x0::ρ)).bind (Bl B9 (g (x0::ρ)))=_;rw[h1,h2];rcases h with⟨rfl,rfl,rfl⟩ | ⟨rfl,rfl,rfl⟩ | ⟨rfl,rfl,rfl⟩ | ⟨rfl,rfl,rfl⟩ | ⟨rfl,rfl,rfl⟩<;>rcases hs with rfl | rfl | rfl | rfl<;>cases odd<;>cases below<;>rfl
theorem yf(r u:Int):dC r u=0\/dC r u=1\/dC r u=2\/dC r u=3:=by
  unfold dC;split
  . exact .inl rfl
  . split
    . exact .inr (.inl rfl)
    . split
      . exact .inr (.inr (.inl rfl))
      . exact .inr (.inr (.inr rfl))
theorem rM{r u a b:Int}(hu:0<u)(hb:0<b)(h:r*b=a*u):dC r u=dC a b:=by
  have c0:(2*r=0)↔(2*a=0):=by
    constructor
    . intro x;have r0:r=0:=by omega
      rw[r0,XD]at h;rcases ZG.mp h.symm with y | y<;>omega
    . intro x;have a0:a=0:=by omega
      rw[a0,XD]at h;rcases ZG.mp h with y | y<;>omega
  have e:2*r*b=2*a*u:=by rw[VY,h,VY]
  have c1:(2*r<u)↔(2*a<b):=by
    constructor
    . intro x;have y:2*r*b<u*b:=Wq x hb
      rw[e,Wk u b]at y;exact XJ y (Wn hu)
    . intro x;have y:2*a*u<b*u:=Wq x hu
      rw[<- e,Wk b u]at y;exact XJ y (Wn hb)
  have c2:(2*r=u)↔(2*a=b):=by
    constructor
    . intro x;rw[x,Wk]at e;exact(XM (by omega) e).symm
    . intro x;rw[x,Wk b u]at e;exact XM (by omega) e
  unfold dC;simp only[c0,c1,c2]
noncomputable def gr(p q sd:Int)(below:Bool):Bool:=decide (sd≠0)&&gw p (decide (q%2=1)) sd below
noncomputable def jV(f p t q sd:Int)(below:Bool):Int:=t*p2 f+(if gr p q sd below then q+1 else q)
noncomputable def vN(f q sd:Int):Int:=if sd=0 then 0 else if q<p2 f then 24 else 16
noncomputable def sg(below:Bool):Int:=if below then 1 else 0
noncomputable def rN(e f p t q sd:Int)(below:Bool):PV:=if jV f p t q sd below<eS e f then .tup [.int (jV f p t q sd below+sg below*p2 (e+f)),.int (vN f q sd)] else .tup [.int ((if gw p true 3 below then eS e f else eS e f - 1)+sg below*p2 (e+f)),.int 20]
theorem Tf{p q sd:Int}{k:Nat}(below:Bool)(h:fU p z k)(hs:sd=0\/sd=1\/sd=2\/sd=3):Ca [.ins k,q∣sd,.bl below]=.ok (.int (if gr p q sd below then q+1 else q)):=by
  have g:=OY (decide (q%2=1)) below h hs (fo:=ae 0) (g:=af (ag bQ (ag oMod (ag aB (ae 1) ‹0›) ‹2›) ‹1›) (af (ag aB (ae 1) ‹1›) (af (ae 2) (ax))))
    (x0:=some (.ins k)) (ρ:=[some (q∣sd),some (.bl below),none]) rfl (by dsimp![])
  unfold gr;by_cases c:sd=0
  . have e1:decide (sd≠0)=false:=V3 (by omega);have e2:decide (sd=0)=true:=VX c
    dsimp![Ca,KG,List.replicate,List.set,e1,e2,iN,ZX,W0,WB,Xr]
  . have e1:decide (sd≠0)=true:=VX c;have e2:decide (sd=0)=false:=V3 c
    generalize gw p (decide (q%2=1)) sd below=y at *;cases y<;>dsimp![Ca,KG,List.replicate,List.set,e1,e2,iN,g,aaw,X9,WB,Xr,W2]
theorem Tg{e f p t q sd hh:Int}{k:Nat}(below:Bool)(h:Wd e f)(w:fU p z k)(ht:0<=t)(OZ:t<=100000)(q0:0<=q)(q1:q<2*p2 f)(hs:sd=0\/sd=1\/sd=2\/sd=3)
    (sp:zt [e∣f,.int hh]=.ok (.int (lp e f+t))) (hm:hh<lp e f+f↔q<p2 f) :
    xN [e∣f,.ins k,.bl below,.int hh,q∣sd]=.ok (rN e f p t q sd below):=by
  obtain⟨m1,m3,p3,p4,p7⟩:=kH h;have le:=ON h
  have bi:=OM h;have en:=Te h
  have st:=Tf (q:=q) below w hs;have Li:1 - (p2 (e - 1) - 1) - f=lp e f:=rfl
  rw[Li]at le;have e1:lp e f+t - lp e f=t:=by omega
  have os:lh t f:=ji (n:=20) (by have:=h.2.2.1;omega) (dP (by omega)) (by have:=h.2.2.2;omega);have Th:0<=jV f p t q sd below:=by
    unfold jV;have:=WK ht (Wn (aY f))
    split<;>omega
  have Lj:t*p2 f+(if gr p q sd below then q+1 else q)=jV f p t q sd below:=rfl;have g3:=fun(x0:Option PV) (ρ:ay) (a:iP (x0::ρ) 1=.ok (.ins k)) (b:iP (x0::ρ) 2=.ok (.bl below))=>OY true below w (.inr (.inr (.inr rfl))) (fo:=ae 1) (g:=af (fC (.bl true)) (af ‹3› (af (ae 2) (ax)))) (x0:=x0) (ρ:=ρ) a (by
    show R.bind _ _=_;dsimp![b])
  have mk:xM [e∣f,.int hh,.int sd]=.ok (.int (vN f q sd)):=by
    unfold vN;have e5:1 - (p2 (e - 1) - 1)=lp e f+f:=by unfold lp;omega
    by_cases c:sd=0
    . dsimp![xM,Ft,c,W2]
    . by_cases c2:q<p2 f
      . have c3:=hm.mpr c2;dsimp![xM,Ft,c,bi,e5,c2,c3,W2,Xr]
      . have c3:¬ hh<lp e f+f:=fun z=>c2 (hm.mp z);dsimp![xM,Ft,c,bi,e5,c2,c3,W2,Xr]
  unfold rN;by_cases c:jV f p t q sd below<eS e f
  . have ws:=F5 (u:=jV f p t q sd below) ⟨h,.inl rfl,Th,by omega⟩ below;have F6:(if below=true then (1:Int) else 0)=sg below:=rfl
    rw[F6]at ws;rw[VP c];dsimp![xN,Fu,List.replicate,List.set,en,sp,le,e1,os,iN,st,Lj,c,ws,mk]
  . rw[VQ c];have ow:=g3 (some (e∣f)) [some (.ins k),some (.bl below),some (.int hh),some (q∣sd),some (.int (eS e f)),some (.int t),some (.int (jV f p t q sd below))] rfl rfl
    have F6:(if below=true then (1:Int) else 0)=sg below:=rfl;generalize gw p true 3 below=y at *;cases y with
    | true =>
      have ws:=F5 (u:=eS e f) ⟨h,.inl rfl,by omega,by omega⟩ below;rw[F6]at ws;dsimp![xN,Fu,List.replicate,List.set,en,sp,le,e1,os,iN,st,Lj,c,ow,ws,W2]
    | false =>
      have ws:=F5 (u:=eS e f - 1) ⟨h,.inl rfl,by omega,by omega⟩ below;rw[F6]at ws;dsimp![xN,Fu,List.replicate,List.set,en,sp,le,e1,os,iN,st,Lj,c,ow,ws,WB,Xr]
noncomputable def tU(f u:Int):Int:=if u<p2 f then 0 else u/p2 f - 1
noncomputable def qU(f u:Int):Int:=u - tU f u*p2 f
theorem Eg{f u:Int}(hf:1<=f)(u0:0<=u):0<=tU f u/\0<=qU f u/\qU f u<2*p2 f/\(tU f u=0\/p2 f<=qU f u)/\br f u=qU f u*p2 (tU f u)/\br f (u+1)=(qU f u+1)*p2 (tU f u)/\tU f u*p2 f+qU f u=u/\qU f u%2=u%2/\(qU f u<p2 f↔u<p2 f)/\tU f u<=u/p2 f:=by
  have pf:=aY f;have Ti:p2 f=2*p2 (f - 1):=by rw[<- fq (by omega)];congr 1;omega
  have par:(u - tU f u*p2 f)%2=u%2:=by
    have:tU f u*p2 f=2*(tU f u*p2 (f - 1)):=by rw[Ti,WG]
    rw[this];omega
  have dn:0<=u/p2 f:=WH u0 (Wn pf);by_cases h:u<p2 f
  . have et:tU f u=0:=VP h;have eq:qU f u=u:=by unfold qU;rw[et];omega
    have e0:p2 0=1:=rfl;refine⟨by omega,by omega,by omega,.inl et,?_,?_,?_,?_,?_,by omega⟩
    . rw[eq,et,kI h,e0];omega
    . rw[eq,et,e0];by_cases h2:u+1<p2 f
      . rw[kI h2];omega
      . have e1:u+1=p2 f:=by omega
        unfold br;rw[VQ h2,e1,Int.emod_self,aaC (by omega)];have:p2 (1 - 1)=1:=rfl
        rw[this];omega
    . rw[eq,et];omega
    . rw[eq]
    . rw[eq]
  . have et:tU f u=u/p2 f - 1:=VQ h;have m1:1<=u/p2 f:=by
      have:=Int.ediv_le_ediv pf (show p2 f<=u by omega);rw[aaC (by omega)]at this;exact this
    have r0:=Wy u (show p2 f≠0 by omega);have r1:=WE u pf
    have dm:=Xo u (p2 f);have eq:qU f u=u%p2 f+p2 f:=by
      unfold qU;rw[et,ZV,W4,Wk];omega
    refine⟨by omega,by omega,by omega,.inr (by omega),?_,?_,?_,par,?_,by omega⟩
    . rw[eq,et];unfold br;rw[VQ h]
    . rw[eq,et];unfold br;rw[VQ (by omega)];by_cases c:u%p2 f+1<p2 f
      . have e1:(u+1)%p2 f=u%p2 f+1:=by
          have:u+1=u%p2 f+1+p2 f*(u/p2 f):=by omega
          rw[this,Int.add_mul_emod_self_left,Xv (by omega) c]
        have e2:(u+1)/p2 f=u/p2 f:=by
          have:u+1=u%p2 f+1+p2 f*(u/p2 f):=by omega
          rw[this,aag _ _ (by omega),WW (by omega) c];omega
        rw[e1,e2];congr 1;omega
      . have e3:u%p2 f+1=p2 f:=by omega
        have e1:(u+1)=p2 f*(u/p2 f+1):=by rw[Int.mul_add,Xj];omega
        have e4:(u+1)%p2 f=0:=by rw[e1];exact Int.mul_emod_right _ _
        have e5:(u+1)/p2 f=u/p2 f+1:=by rw[e1];exact Int.mul_ediv_cancel_left _ (by omega)
        rw[e4,e5,XE,show u/p2 f+1 - 1=u/p2 f - 1+1 by omega,fq (by omega),<- VY]
        congr 1;omega
    . unfold qU;omega
    . rw[eq];omega
theorem Mr(hc:nb c<=1048576):fL c 414213562373095048801689:=iC (n:=200) hc (dP (by decide)) (by decide)
theorem uz{s d f g:Int}(hf:0<=f):d*p2 (f+g)<=s*p2 (-(f+g))↔p2 f*(d*p2 g)<=s*p2 (-g):=by
  have c:=kG (e:=g) (f:=f+g) (by omega);rw[show f+g - g=f by omega]at c
  have k1:=aY (-(f+g));have k2:=aY (-g)
  have e1:d*p2 (f+g)*p2 (-g)=p2 f*(d*p2 g)*p2 (-(f+g)):=by
    rw[VY,c];simp only[Wk,WG,VY]
  have e2:s*p2 (-(f+g))*p2 (-g)=s*p2 (-g)*p2 (-(f+g)):=by rw[VY,VY,Wk (p2 (-(f+g)))]
  constructor
  . intro h;have:=V7 h (Wn k2)
    rw[e1,e2]at this;exact XN this k1
  . intro h;have:=V7 h (Wn k1)
    rw[<- e1,<- e2]at this;exact XN this k2
theorem vO{s d f g:Int}(hf:0<=f):s*p2 (-(f+g))<2*(d*p2 (f+g))↔s*p2 (-g)<2*(p2 f*(d*p2 g)):=by
  have h:=uz (s:=s) (d:=2*d) (g:=g) hf;have e1:2*d*p2 (f+g)=2*(d*p2 (f+g)):=VY _ _ _
  have e2:p2 f*(2*d*p2 g)=2*(p2 f*(d*p2 g)):=by rw[VY,WG]
  rw[e1,e2]at h;constructor
  . intro x;apply WC;intro c;have:=h.mpr (by omega)
    omega
  . intro x;apply WC;intro c;have:=h.mp (by omega)
    omega
theorem Hy{s d x y:Int}(hd:0<d)(h:y<=x)(hx:d*p2 x<=s*p2 (-x)):d*p2 y<=s*p2 (-y):=by
  have c:=kG (e:=y) (f:=x) h;have k1:=aY (-x)
  have k2:=aY (-y);have k3:=aY (x - y)
  have k4:=aY y;have a1:d*p2 x*p2 (-y)<=s*p2 (-x)*p2 (-y):=V7 hx (Wn k2)
  have a2:d*p2 x*p2 (-y)=d*p2 y*p2 (x - y)*p2 (-x):=by rw[VY,c];simp only[Wk,WG,VY]
  have a3:s*p2 (-x)*p2 (-y)=s*p2 (-y)*p2 (-x):=by rw[VY,VY,Wk (p2 (-x))]
  rw[a2,a3]at a1;have a4:=XN a1 k1
  have a5:d*p2 y*1<=d*p2 y*p2 (x - y):=WX (by omega) (WK (by omega) (by omega));rw[Xj]at a5;omega
theorem Eh{s d x y:Int}(hd:0<d)(h:x<y)(hx:s*p2 (-x)<2*(d*p2 x)):s*p2 (-y)<d*p2 y:=by
  have c:=kG (e:=x) (f:=y) (by omega);have k1:=aY (-x)
  have k2:=aY (-y);have k3:=vM (j:=y - x) (by omega)
  have k4:=aY x;have a1:s*p2 (-x)*p2 (-y)<2*(d*p2 x)*p2 (-y):=Wq hx k2
  have a2:d*p2 y*p2 (-x)=d*p2 x*p2 (-y)*p2 (y - x):=by rw[VY,c];simp only[Wk,WG,VY]
  have a3:s*p2 (-x)*p2 (-y)=s*p2 (-y)*p2 (-x):=by rw[VY,VY,Wk (p2 (-x))]
  have a4:2*(d*p2 x)*p2 (-y)=d*p2 x*p2 (-y)*2:=by rw[VY,Wk]
  have a5:d*p2 x*p2 (-y)*2<=d*p2 x*p2 (-y)*p2 (y - x):=WX k3 (WK (WK (by omega) (by omega)) (by omega));rw[a3,a4]at a1;have a6:s*p2 (-y)*p2 (-x)<d*p2 y*p2 (-x):=by rw[a2];omega
  exact XJ a6 (Wn k1)
theorem yg{S u b a q:Int}(hu:0<u)(hb:0<b)(a0:0<=a)(a1:a<b)(eq:S*b=(q*b+a)*u):∃ r,S=q*u+r/\0<=r/\r<u/\r*b=a*u:=by
  have e2:q*u*b=q*b*u:=by rw[VY,Wk u b,<- VY]
  refine⟨S - q*u,by omega,?_,?_,?_⟩
  . have:q*u*b<=S*b:=by
      rw[eq,XB];have:=WK a0 (Wn hu)
      omega
    have:=XN this hb;omega
  . have:(S - q*u)*b<u*b:=by
      rw[ZV,eq,XB];have e3:a*u<b*u:=Wq a1 hu
      rw[Wk u b];omega
    exact XJ this (Wn hb)
  . rw[ZV,eq,XB];omega
theorem Tj{e f t q a b n k d:Int}(h:Wd e f)(hn:n≠0)(hd:0<d)(b1:nb n<=20000)(b2:nb d<=3900)(ht:0<=t)(hk : -20000<=lp e f+t - k)(O0:lp e f+t - k<=5000)(hb:0<b)(a0:0<=a)(a1:a<b)
    (q0:0<=q) (q1:q<2*p2 f) (qt:t=0\/p2 f<=q) (eq:ab n*p2 (k - (lp e f+t))*b=(q*b+a)*(d*p2 (lp e f+t - k))) :
    ∃ hh,xK [.int n,.int k,.int d]=.ok (.int hh)/\zt [e∣f,.int hh]=.ok (.int (lp e f+t))/\zk [.int n,.int k,.int d,.int (lp e f+t)]=.ok (.tup [.int q,.int (dC a b)]) /\
      (hh<lp e f+f↔q<p2 f):=by
  obtain⟨g1,g2,g3,g4⟩:=id h;obtain⟨x,e1,hx,x0,x1⟩:=OW (k:=k) hn hd (by omega) (by omega);have le:=ON h
  have pf:=aY f;generalize hg:lp e f+t - k=g at *;have O1:k - (lp e f+t) = -g:=by omega
  rw[O1]at eq;have hu:0<d*p2 g:=Xz hd (aY g)
  obtain⟨r,er,r0,r1,r2⟩:=yg hu hb a0 a1 eq;have big:p2 f<=q->x=f+g:=fun hq=>by
    refine CC hd hx ⟨(uz (by omega)).mpr ?_,(vO (by omega)).mpr ?_⟩
    . rw[er];have:=V7 hq (Wn hu)
      omega
    . rw[er];have e3:(q+1)*(d*p2 g)<=2*p2 f*(d*p2 g):=V7 (by omega) (Wn hu)
      rw[XB,W4,VY]at e3;omega
  have low:q<p2 f->x<f+g:=fun hq=>by
    apply WC;intro c;have:=(uz (by omega)).mp (Hy hd (show f+g<=x by omega) hx.1)
    rw[er]at this;have e3:(q+1)*(d*p2 g)<=p2 f*(d*p2 g):=V7 (by omega) (Wn hu)
    rw[XB,W4]at e3;omega
  refine⟨x+k,e1,?_,?_,?_⟩
  . have Li:1 - (p2 (e - 1) - 1) - f=lp e f:=rfl;rw[Li]at le;have cse:(x+k - f=lp e f+t)\/(t=0/\x+k - f<lp e f):=by
      by_cases hq:p2 f<=q
      . have:=big hq;omega
      . have:=low (by omega);rcases qt with z | z<;>omega
    by_cases c:lp e f>x+k - f
    . have e4:lp e f+t=lp e f:=by omega
      dsimp![zt,KH,le,c,W2,e4]
    . have e4:x+k - f=lp e f+t:=by omega
      have c':¬ lp e f>lp e f+t:=by omega
      dsimp![zt,KH,le,e4,c',Xr]
  . have Tn:nb (d*p2 (lp e f+t - k))<=9000:=by
      rw[hg];refine Wh (oa _ _) ?_;by_cases z:0<=g
      . rw[zN z];omega
      . rw[dW (by omega)];have:nb 1=1:=rfl;omega
    have st:=Tc (n:=n) (k:=k) (d:=d) (g:=lp e f+t) hd (by omega) (by omega) (by omega) (by omega) Tn;rw[hg,O1]at st;have dv:ab n*p2 (-g)/(d*p2 g)=q:=by
      rw[er,Wk q,Int.add_comm,aag _ _ (by omega),WW r0 r1];omega
    rw[dv]at st;have e5:ab n*p2 (-g) - q*(d*p2 g)=r:=by omega
    rw[e5,rM hu hb r2]at st;exact st
  . constructor
    . intro z;apply WC;intro c;have:=big (by omega)
      omega
    . intro z;have:=low z
      omega
theorem To{e f p t q a b n k d:Int}{kk:Nat}(h:Wd e f)(w:fU p z kk)(hn:n≠0)(hd:0<d)(b1:nb n<=20000)(b2:nb d<=3900)(ht:0<=t)(OZ:t<=100000)(hk : -20000<=lp e f+t - k)(O0:lp e f+t - k<=5000)(hb:0<b)(a0:0<=a)(a1:a<b)
    (q0:0<=q) (q1:q<2*p2 f) (qt:t=0\/p2 f<=q) (eq:ab n*p2 (k - (lp e f+t))*b=(q*b+a)*(d*p2 (lp e f+t - k))) :
    iM [e∣f,.int n,.int k,.int d,.str z]=.ok (rN e f p t q (dC a b) (decide (n<0))):=by
  obtain⟨hh,e1,e2,e3,e4⟩:=Tj h hn hd b1 b2 ht hk O0 hb a0 a1 q0 q1 qt eq;have s:=Tg (decide (n<0)) h w ht OZ q0 q1 (yf a b) e2 e4
  have cw:=rD h;have wy:=(uy w).1
  generalize rN e f p t q (dC a b) (decide (n<0))=v at *;generalize dC a b=sd at *;dsimp![iM,Ot,List.replicate,List.set,cw,wy,hn,e1,e2,e3,iN,s]
structure hV(e f s k d t q a b:Int):Prop where
  t0:0<=t
  b0:0<b
  a0:0<=a
  a1:a<b
  q0:0<=q
  q1:q<2*p2 f
  qt:t=0\/p2 f<=q
  eq:s*p2 (k - (lp e f+t))*b=(q*b+a)*(d*p2 (lp e f+t - k))
  tb:t<=60000/\-20000<=lp e f+t - k/\lp e f+t - k<=5000
theorem yh{e f s k d:Int}(h:Wd e f)(hs:0<s)(hd:0<d)(b1:nb s<=5000)(b2:nb d<=3900)(k0:lp e f - 5000<=k)(k1:k<=10000):∃ t q a b,hV e f s k d t q a b:=by
  obtain⟨l1,l2,l3,l4⟩:=jI h;obtain⟨g1,g2,g3,g4⟩:=id h;have as:ab s=s:=Ae (by omega)
  obtain⟨x,_,hx,_,_⟩:=OW (n:=s) (k:=0) (d:=d) (by omega) hd (by omega) (by omega);rw[as]at hx;have xb:x<=nb s:=by
    apply WC;intro c;have h1:=hx.1
    rw[dW (a:=-x) (by omega),Xj]at h1;have b3:=(ou hs).2
    have:=lj (a:=(nb s:Int)) (b:=x) (by omega) (by omega);have s4:p2 x<=d*p2 x:=by
      have:=V7 (show 1<=d by omega) (Wn (aY x));rw[W4]at this;exact this
    omega
  have pf:=aY f;have mk:∀ t:Int,0<=t->t<=60000/\-20000<=lp e f+t - k/\lp e f+t - k<=5000->s*p2 (-(lp e f+t - k))<2*(p2 f*(d*p2 (lp e f+t - k)))->(t=0\/p2 f*(d*p2 (lp e f+t - k))<=s*p2 (-(lp e f+t - k)))->∃ t q a b,hV e f s k d t q a b:=by
    intro t t0 tb u1 u2;have hu:0<d*p2 (lp e f+t - k):=Xz hd (aY _)
    have S0:0<=s*p2 (-(lp e f+t - k)):=WK (by omega) (Wn (aY _));have e9:k - (lp e f+t) = -(lp e f+t - k):=by omega
    refine⟨t,s*p2 (-(lp e f+t - k))/(d*p2 (lp e f+t - k)),s*p2 (-(lp e f+t - k))%(d*p2 (lp e f+t - k)),d*p2 (lp e f+t - k),t0,hu,Wy _ (by omega),WE _ hu,WH S0 (Wn hu),YC hu (by rw[VY];exact u1),?_,?_,tb⟩
    . rcases u2 with z | z
      . exact .inl z
      . exact .inr (Int.le_ediv_of_mul_le hu z)
    . rw[e9];congr 1;have:=Xo (s*p2 (-(lp e f+t - k))) (d*p2 (lp e f+t - k))
      rw[Wk]at this;exact this.symm
  by_cases c:lp e f<=x+k - f
  . refine mk (x+k - f - lp e f) (by omega) (by omega) ?_ (.inr ?_)
    . have:=hx.2;have e9:x=f+(lp e f+(x+k - f - lp e f) - k):=by omega
      rw[e9]at this;exact(vO (by omega)).mp this
    . have:=hx.1;have e9:x=f+(lp e f+(x+k - f - lp e f) - k):=by omega
      rw[e9]at this;exact(uz (by omega)).mp this
  . refine mk 0 (by omega) (by omega) ?_ (.inl rfl);have:=Eh hd (show x<f+(lp e f+0 - k) by omega) hx.2
    refine(vO (by omega)).mp ?_;have:=Xz hd (aY (f+(lp e f+0 - k)))
    omega
theorem Lk{e f s k d:Int}(h:Wd e f)(hs:0<s)(hd:0<d)(b1:nb s<=5000)(b2:nb d<=3900)(k0 : -3000<=k)(k1:k<=10000):∃ t q a b,hV e f s k d t q a b :=
  yh h hs hd b1 b2 (by have:=jI h;omega) k1
theorem sx{e f p t q a b n k d:Int}{kk:Nat}(h:Wd e f)(w:fU p z kk)(hn:n≠0)(hd:0<d)(b1:nb n<=20000)(b2:nb d<=3900)(st:hV e f (ab n) k d t q a b) :
    iM [e∣f,.int n,.int k,.int d,.str z]=.ok (rN e f p t q (dC a b) (decide (n<0))) :=
  To h w hn hd b1 b2 st.t0 (by have:=st.tb;omega) (by have:=st.tb;omega) (by have:=st.tb;omega) st.b0 st.a0 st.a1 st.q0 st.q1 st.qt st.eq
open PySem.NumText
noncomputable def dI(n:Int):Int:=10 ^ n.toNat
theorem l7(n:Int):0<dI n:=abo (by decide)
theorem sy{a:Int}(h:a<=0):dI a=1:=by
  unfold dI;rw[aaW h];rfl
theorem yi(n:Nat):dI (n:Int)=((10 ^ n:Nat):Int):=by
  unfold dI;rw[Xu,Int.natCast_pow];rfl
theorem vP(n:Nat):nb ((10 ^ n:Nat):Int)<=10*((n+2)/3)+1:=by
  by_cases z:n=0
  . subst z;decide
  . refine Wh (dP (k:=10*((n+2)/3)) ?_) (by omega);have e:(((10 ^ n:Nat):Int)).natAbs=10 ^ n:=rfl
    rw[e,Nat.pow_mul];have k:n<=3*((n+2)/3):=by omega
    refine Y7 (YM (by decide) k) ?_;rw[Nat.pow_mul];exact Nat.pow_lt_pow_left (by decide) (by omega)
theorem vQ{n:Int}{m:Nat}(h:n<=m):nb (dI n)<=10*((m+2)/3)+1:=by
  by_cases c:0<=n
  . obtain⟨k,rfl⟩:=XZ c;rw[yi];have:=vP k
    have:(k+2)/3<=(m+2)/3:=Nat.div_le_div_right (by omega);omega
  . rw[sy (by omega)];have:nb 1=1:=rfl
    omega
theorem Ei{n i j:Nat}(hn:0<n)(h:i+j*n<=6000):zx [some (.int (n:Int)),some (.int ((10 ^ i:Nat):Int)),some (.int ((10 ^ j:Nat):Int))] =
    .next [some (.int ((n/2:Nat):Int)),some (.int ((10 ^ (i+j*(n%2)):Nat):Int)),some (.int ((10 ^ (2*j):Nat):Int))]:=by
  have jn:j<=j*n:=Nat.le_mul_of_pos_right j hn;have bi:=vP i
  have bj:=vP j;have o1:fL ((10 ^ i:Nat):Int) ((10 ^ j:Nat):Int):=iC (m:=30000) (n:=30000) (by omega) (by omega) (by decide)
  have o2:fL ((10 ^ j:Nat):Int) ((10 ^ j:Nat):Int):=iC (m:=30000) (n:=30000) (by omega) (by omega) (by decide);have e2:((10 ^ j:Nat):Int)*((10 ^ j:Nat):Int)=((10 ^ (2*j):Nat):Int):=by rw[<- Int.natCast_mul,<- abr,Nat.two_mul]
  have e3:(n:Int)/2=((n/2:Nat):Int):=by omega
  by_cases c:(n:Int)%2=1
  . have m:n%2=1:=by omega
    have e1:((10 ^ i:Nat):Int)*((10 ^ j:Nat):Int)=((10 ^ (i+j*(n%2)):Nat):Int):=by rw[<- Int.natCast_mul,<- abr,m,Nat.mul_one]
    generalize ((10 ^ i:Nat):Int)=P at *;generalize ((10 ^ j:Nat):Int)=S at *;generalize ((10 ^ (2*j):Nat):Int)=S2 at *;generalize ((10 ^ (i+j*(n%2)):Nat):Int)=P2 at *;dsimp![zx,List.set,c,o1,o2,e1,e2,e3]
  . have m:n%2=0:=by omega
    have e1:i+j*(n%2)=i:=by rw[m,Nat.mul_zero,Nat.add_zero]
    rw[e1];generalize ((10 ^ i:Nat):Int)=P at *;generalize ((10 ^ j:Nat):Int)=S at *;generalize ((10 ^ (2*j):Nat):Int)=S2 at *;dsimp![zx,List.set,c,o2,e2,e3]
theorem Ej(t:FT)(b:FS)(n:Nat)(ρ:ay):fO t b (n+1) ρ=match t ρ with
    | .ok true=>(match b ρ with
      | .next ρ'=>fO t b n ρ'
      | .cont ρ'=>fO t b n ρ'
      | .brk ρ'=>.next ρ'
      | o=>o)
    | .ok false=>.next ρ
    | .exc c=>.exc c ρ
    | .stuck=>.stuck:=rfl
theorem Ek:∀(n i j fuel:Nat),n<fuel->i+j*n<=6000->∃ s,fO (aP (ag pB (ae 0) ‹0›)) zx fuel [some (.int (n:Int)),some (.int ((10 ^ i:Nat):Int)),some (.int ((10 ^ j:Nat):Int))] =
    .next [some (.int 0),some (.int ((10 ^ (i+j*n):Nat):Int)),s]:=by
  intro n
  induction n using Nat.strongRecOn with
  | _ n ih =>
    intro i j fuel hf h;cases fuel with
    | zero=>omega
    | succ g =>
      rw[Ej];by_cases z:n=0
      . subst z;refine⟨some (.int ((10 ^ j:Nat):Int)),?_⟩;have e:aP (ag pB (ae 0) ‹0›) [some (.int ((0:Nat):Int)),some (.int ((10 ^ i:Nat):Int)),some (.int ((10 ^ j:Nat):Int))]=.ok false:=rfl
        rw[e,Nat.mul_zero,Nat.add_zero];rfl
      . have e:aP (ag pB (ae 0) ‹0›) [some (.int (n:Int)),some (.int ((10 ^ i:Nat):Int)),some (.int ((10 ^ j:Nat):Int))]=.ok true:=by
          show R.ok (decide ((0:Int)<(n:Int)))=_;rw[VX (by omega)]
        rw[e,Ei (by omega) h];have k:i+j*(n%2)+2*j*(n/2)=i+j*n:=by
          have:j*n=j*(2*(n/2)+n%2):=by rw[Nat.div_add_mod]
          rw[this,Nat.mul_add,<- Nat.mul_assoc,Nat.mul_comm j 2];omega
        have:=ih (n/2) (by omega) (i+j*(n%2)) (2*j) g (by omega) (by omega);rw[k]at this;exact this
theorem O2{n:Int}(h0:0<=n)(h1:n<=6000):Cb [.int n]=.ok (.int (dI n)):=by
  obtain⟨k,rfl⟩:=XZ h0;obtain⟨s,e⟩:=Ek k 0 1 pV (Y7 (show k<=6000 by omega) (by decide)) (by omega);have e':jz (aP (ag pB (ae 0) ‹0›)) zx [some (.int (k:Int)),some (.int 1),some (.int 10)]=.next [some (.int 0),some (.int (dI k)),s]:=by
    rw[yi];have:0+1*k=k:=by omega
    rw[this]at e;exact e
  generalize dI k=v at *;dsimp![Cb,Ou,List.replicate,List.set,e']
end Cm
namespace Cm
open PySem Mi
inductive Tm where
  | mI | none | Ll (b:Bool) | num (b:Bool) (n k:Int)
noncomputable def Tm.pv:Tm->PV
  | .mI=>.tup [.str "wrong",.bl false,.tup [.int 0,.int 0]]
  | .none=>.tup [.str "none",.bl false,.tup [.int 0,.int 0]]
  | .Ll b=>.tup [.str "endless",.bl b,.tup [.int 0,.int 0]]
  | .num b n k=>.tup [.str "number",.bl b,.tup [.int n,.int k]]
theorem tn:(Str.ofString "wrong" == Str.ofString "none")=false/\(Str.ofString "wrong" == Str.ofString "endless")=false/\(Str.ofString "wrong" == Str.ofString "number")=false/\(Str.ofString "none" == Str.ofString "wrong")=false/\(Str.ofString "none" == Str.ofString "endless")=false /\
    (Str.ofString "none" == Str.ofString "number")=false/\(Str.ofString "endless" == Str.ofString "wrong")=false/\(Str.ofString "endless" == Str.ofString "none")=false/\(Str.ofString "endless" == Str.ofString "number")=false/\(Str.ofString "number" == Str.ofString "wrong")=false /\
    (Str.ofString "number" == Str.ofString "none")=false/\(Str.ofString "number" == Str.ofString "endless")=false:=⟨rfl,rfl,rfl,rfl,rfl,rfl,rfl,rfl,rfl,rfl,rfl,rfl⟩
noncomputable def Vq(v:PV):Prop:=bY (some v)=.ok v/\bP [v]=.exc 3
theorem Ms{f t q:Int}(hf:1<=f)(t0:0<=t)(q0:0<=q)(q1:q<2*p2 f)(qt:t=0\/p2 f<=q) :
    0<=t*p2 f+q/\br f (t*p2 f+q)=q*p2 t/\br f (t*p2 f+q+1)=(q+1)*p2 t/\(t*p2 f+q)%2=q%2/\(q<p2 f↔t*p2 f+q<p2 f):=by
  have pf:=aY f;have tp:=WK t0 (Wn pf)
  have u0:0<=t*p2 f+q:=by omega
  have et:tU f (t*p2 f+q)=t:=by
    unfold tU;by_cases c:q<p2 f
    . have Tp:t=0:=by rcases qt with z | z<;>omega
      subst Tp;rw[XD,XE,VP c]
    . have t1:p2 f<=t*p2 f+q:=by omega
      rw[VQ (by omega)];have e1:t*p2 f+q=(q - p2 f)+(t+1)*p2 f:=by rw[XB,W4];omega
      rw[e1,XA _ _ (by omega),WW (by omega) (by omega)];omega
  obtain⟨_,_,_,_,e1,e2,e3,e4,e5,_⟩:=Eg (f:=f) (u:=t*p2 f+q) hf u0;have eq:qU f (t*p2 f+q)=q:=by unfold qU;rw[et];omega
  rw[et,eq]at e1 e2;rw[eq]at e4 e5;exact⟨u0,e1,e2,e4.symm,e5⟩
def Lies(M X Y sd:Int):Prop:=(sd=0/\M=X)\/(sd=1/\X<M/\2*M<X+Y)\/(sd=2/\2*M=X+Y)\/(sd=3/\X+Y<2*M/\M<Y)
theorem lies_of{M B q P a b:Int}(hB:0<B)(hP:0<P)(hb:0<b)(a0:0<=a)(a1:a<b)(eq:M*b=(q*b+a)*(P*B)):Lies M (q*P*B) ((q+1)*P*B) (dC a b):=by
  have hX:0<P*B:=Xz hP hB;have e1:q*P*B=q*(P*B):=VY _ _ _
  have e2:(q+1)*P*B=q*(P*B)+P*B:=by rw[VY,XB,W4]
  rw[e1,e2];obtain⟨r,er,r0,r1,r2⟩:=yg hX hb a0 a1 eq;rw[<- rM hX hb r2];generalize P*B=X at *;generalize q*X=Z at *;unfold dC Lies;by_cases c0:2*r=0
  . rw[VP c0];left;omega
  . rw[VQ c0];by_cases c1:2*r<X
    . rw[VP c1];right;left;omega
    . rw[VQ c1];by_cases c2:2*r=X
      . rw[VP c2];right;right;left;omega
      . rw[VQ c2];right;right;right;omega
theorem wn:(Str.ofString "away" == Str.ofString "even")=false/\(Str.ofString "in" == Str.ofString "even")=false/\(Str.ofString "up" == Str.ofString "even")=false/\(Str.ofString "down" == Str.ofString "even")=false /\
    (Str.ofString "even" == Str.ofString "away")=false/\(Str.ofString "in" == Str.ofString "away")=false/\(Str.ofString "up" == Str.ofString "away")=false/\(Str.ofString "down" == Str.ofString "away")=false /\
    (Str.ofString "even" == Str.ofString "in")=false/\(Str.ofString "away" == Str.ofString "in")=false/\(Str.ofString "up" == Str.ofString "in")=false/\(Str.ofString "down" == Str.ofString "in")=false /\
    (Str.ofString "even" == Str.ofString "up")=false/\(Str.ofString "away" == Str.ofString "up")=false/\(Str.ofString "in" == Str.ofString "up")=false/\(Str.ofString "down" == Str.ofString "up")=false /\
    (Str.ofString "even" == Str.ofString "down")=false/\(Str.ofString "away" == Str.ofString "down")=false/\(Str.ofString "in" == Str.ofString "down")=false/\(Str.ofString "up" == Str.ofString "down")=false:=⟨rfl,rfl,rfl,rfl,rfl,rfl,rfl,rfl,rfl,rfl,rfl,rfl,rfl,rfl,rfl,rfl,rfl,rfl,rfl,rfl⟩
noncomputable def hz(f u:Int):Int:=if u=0 then 0 else br f (u - 1)
def Af(e f p M B:Int)(under:Bool)(sz mk:Int):Prop :=
  (sz=eS e f/\mk=20/\(if p=0\/p=1 then decide ((br f (eS e f - 1)+br f (eS e f))*B<=2*M) else if p=2 then false else if p=3 then (!under&&decide (br f (eS e f - 1)*B<M)) else (under&&decide (br f (eS e f - 1)*B<M)))=true) \/
  (sz=eS e f - 1/\mk=20/\br f (eS e f)*B<=M/\(if p=0\/p=1 then decide ((br f (eS e f - 1)+br f (eS e f))*B<=2*M) else if p=2 then false else if p=3 then (!under&&decide (br f (eS e f - 1)*B<M)) else (under&&decide (br f (eS e f - 1)*B<M)))=false) \/
  (0<=sz/\sz<eS e f/\M<br f (eS e f)*B/\(br f sz*B=M\/(¬ br f sz*B=M/\hz f sz*B<M/\M<br f (sz+1)*B)) /\
    (p=3->(under=true->br f sz*B<=M)/\(under=false->M<=br f sz*B))/\(p=4->(under=true->M<=br f sz*B)/\(under=false->br f sz*B<=M))/\(p=2->br f sz*B<=M) /\
    (p=0->(sz%2=0->0<=2*M - (hz f sz+br f sz)*B/\0<=(br f sz+br f (sz+1))*B - 2*M)/\(¬ sz%2=0->0<2*M - (hz f sz+br f sz)*B/\0<(br f sz+br f (sz+1))*B - 2*M)) /\
    (p=1->0<=2*M - (hz f sz+br f sz)*B/\0<(br f sz+br f (sz+1))*B - 2*M) /\
    mk=if br f sz*B=M then 0 else if M<B*p2 f then 24 else 16)
theorem Lm{k:Nat} (w:fU p z k):p=0\/p=1\/p=2\/p=3\/p=4:=by
  rcases w with⟨h,_⟩ | ⟨h,_⟩ | ⟨h,_⟩ | ⟨h,_⟩ | ⟨h,_⟩<;>omega
theorem El{p q sd:Int}(hp:p=0\/p=1\/p=2\/p=3\/p=4)(hs:sd=0\/sd=1\/sd=2\/sd=3) :
    (gr p q sd below=true/\((p=0/\(sd=3\/(sd=2/\q%2=1)))\/(p=1/\2<=sd)\/(p=3/\below=false/\sd≠0)\/(p=4/\below=true/\sd≠0))) \/
    (gr p q sd below=false/\((p=0/\(sd<=1\/(sd=2/\q%2=0)))\/(p=1/\sd<=1)\/p=2\/(p=3/\(below=true\/sd=0))\/(p=4/\(below=false\/sd=0)))):=by
  by_cases s0:sd=0
  . subst s0;refine .inr ⟨rfl,?_⟩;rcases hp with rfl | rfl | rfl | rfl | rfl
    . exact .inl ⟨rfl,.inl (by decide)⟩
    . exact .inr (.inl ⟨rfl,by decide⟩)
    . exact .inr (.inr (.inl rfl))
    . exact .inr (.inr (.inr (.inl ⟨rfl,.inr rfl⟩)))
    . exact .inr (.inr (.inr (.inr ⟨rfl,.inr rfl⟩)))
  . have eg:gr p q sd below=gw p (decide (q%2=1)) sd below:=by unfold gr;rw[VX s0,aaw]
    rw[eg];rcases hp with rfl | rfl | rfl | rfl | rfl
    . have b:gw 0 (decide (q%2=1)) sd below=decide (sd=3\/(sd=2/\q%2=1)):=by rw[Bool.decide_or,Bool.decide_and];rfl
      rw[b];by_cases c:sd=3\/(sd=2/\q%2=1)
      . exact .inl ⟨VX c,.inl ⟨rfl,c⟩⟩
      . exact .inr ⟨V3 c,.inl ⟨rfl,by omega⟩⟩
    . by_cases c:2<=sd
      . exact .inl ⟨VX c,.inr (.inl ⟨rfl,c⟩)⟩
      . exact .inr ⟨V3 c,.inr (.inl ⟨rfl,by omega⟩)⟩
    . exact .inr ⟨rfl,.inr (.inr (.inl rfl))⟩
    . cases below
      . exact .inl ⟨rfl,.inr (.inr (.inl ⟨rfl,rfl,s0⟩))⟩
      . exact .inr ⟨rfl,.inr (.inr (.inr (.inl ⟨rfl,.inl rfl⟩)))⟩
    . cases below
      . exact .inr ⟨rfl,.inr (.inr (.inr (.inr ⟨rfl,.inl rfl⟩)))⟩
      . exact .inl ⟨rfl,.inr (.inr (.inr ⟨rfl,rfl,s0⟩))⟩
theorem Qn{e f p t q sd M B:Int}{z:Str}{k:Nat}{under:Bool}(h:Wd e f)(w:fU p z k)(t0:0<=t)(q0:0<=q)(q1:q<2*p2 f)(qt:t=0\/p2 f<=q)(hB:0<B)
    (hs:sd=0\/sd=1\/sd=2\/sd=3) (L:Lies M (q*p2 t*B) ((q+1)*p2 t*B) sd) :
    ∃ sz mk,rN e f p t q sd under=.tup [.int (sz+sg under*p2 (e+f)),.int mk]/\Af e f p M B under sz mk:=by
  have hf:=h.2.2.1;have pf:=aY f
  obtain⟨m1,m3,p3,p4,p7⟩:=kH h;obtain⟨u0,l1,l2,l3,l4⟩:=Ms hf t0 q0 q1 qt;have hp:=Lm w
  have par:eS e f%2=0:=by
    show(p2 e - 1)*p2 f%2=0;rw[p4,WG];exact Int.mul_emod_right _ _
  have yj:jV f p t q sd under=t*p2 f+(if gr p q sd under then q+1 else q):=rfl;have F7:vN f q sd=if sd=0 then 0 else if q<p2 f then 24 else 16:=rfl
  have mB:∀ x y:Int,x<=y->x*B<=y*B:=fun x y tO=>V7 tO (Wn hB);have Ln:∀ x y:Int,x<y->x*B<y*B:=fun x y tO=>Wq tO hB
  have sl:∀ x y:Int,0<=x->x<y->br f x*B<br f y*B:=fun x y hx tO=>Ln _ _ (rL hx tO);have ad:∀ x y:Int,(x+y)*B=x*B+y*B:=fun x y=>XB _ _ _
  have lim:=sl (eS e f - 1) (eS e f) (by omega) (by omega);have Lo:(br f (t*p2 f+q)*B<=M/\M<br f (t*p2 f+q+1)*B)->(M<B*p2 f↔q<p2 f):=fun⟨x1,x2⟩=>by
    have pe:br f (p2 f)=p2 f:=by
      unfold br;rw[VQ (by omega),Int.emod_self,aaC (by omega)];have:p2 (1 - 1)=1:=rfl
      rw[this];omega
    have c:=Wk B (p2 f);constructor
    . intro y;apply WC;intro n;have le:p2 f<=t*p2 f+q:=by
        apply WC;intro n2;exact n (l4.mpr (by omega))
      have:br f (p2 f)*B<=br f (t*p2 f+q)*B:=by
        by_cases z:p2 f=t*p2 f+q
        . rw[<- z];exact ZW _
        . have:=sl (p2 f) (t*p2 f+q) (by omega) (by omega);omega
      rw[pe]at this;omega
    . intro y;have lt:=l4.mp y
      have:br f (t*p2 f+q+1)*B<=br f (p2 f)*B:=by
        by_cases z:t*p2 f+q+1=p2 f
        . rw[z];exact ZW _
        . have:=sl (t*p2 f+q+1) (p2 f) (by omega) (by omega);omega
      rw[pe]at this;omega
  rw[<- l1,<- l2]at L;have HL:=sl (t*p2 f+q) (t*p2 f+q+1) (by omega) (by omega)
  have bd:br f (t*p2 f+q)*B<=M/\M<br f (t*p2 f+q+1)*B:=by
    rcases L with⟨_,x⟩ | ⟨_,x,y⟩ | ⟨_,x⟩ | ⟨_,x,y⟩<;>omega
  have yk:=Lo bd;clear Lo;have O3:hz f (t*p2 f+q)*B<=br f (t*p2 f+q)*B/\(0<t*p2 f+q->hz f (t*p2 f+q)*B<br f (t*p2 f+q)*B):=by
    unfold hz;by_cases z:t*p2 f+q=0
    . rw[VP z,z,kI (by omega)];exact⟨ZW _,fun x=>by omega⟩
    . rw[VQ z];have:=sl (t*p2 f+q - 1) (t*p2 f+q) (by omega) (by omega)
      exact⟨by omega,fun _=>this⟩
  have wY:hz f (t*p2 f+q+1)=br f (t*p2 f+q):=by
    unfold hz;rw[VQ (by omega)];congr 1;omega
  have big:eS e f<=t*p2 f+q->br f (eS e f)*B<=M:=fun x=>by
    by_cases z:eS e f=t*p2 f+q
    . rw[z];exact bd.1
    . have:=sl (eS e f) (t*p2 f+q) (by omega) (by omega);omega
  have small:t*p2 f+q<eS e f->M<br f (eS e f)*B:=fun x=>by
    by_cases z:t*p2 f+q+1=eS e f
    . rw[<- z];exact bd.2
    . have:=sl (t*p2 f+q+1) (eS e f) (by omega) (by omega);omega
  generalize hu:t*p2 f+q=u at *;have g3:gw p true 3 under=true↔(p=0\/p=1\/(p=3/\under=false)\/(p=4/\under=true)):=by
    rcases hp with rfl | rfl | rfl | rfl | rfl<;>cases under<;>simp[gw]
  have A:=ad (br f (eS e f - 1)) (br f (eS e f));have gc:=El (p:=p) (q:=q) (sd:=sd) (below:=under) hp hs
  unfold rN;by_cases c:jV f p t q sd under<eS e f
  . rw[VP c];refine⟨_,_,rfl,.inr (.inr ?_)⟩;rcases gc with⟨g,gc⟩ | ⟨g,gc⟩
    . -- grown
      have e1:jV f p t q sd under=u+1:=by rw[yj,g,VP rfl];omega
      rw[e1]at c ⊢;have H2:=sl (u+1) (u+1+1) (by omega) (by omega)
      have Tq:sd≠0:=by omega
      have Tr:br f u*B<M:=by rcases L with⟨x,_⟩ | ⟨_,x,y⟩ | ⟨_,x⟩ | ⟨_,x,y⟩<;>omega
      rw[wY,ad,ad];have mk':vN f q sd=if br f (u+1)*B=M then 0 else if M<B*p2 f then 24 else 16:=by
        rw[F7,VQ Tq,VQ (show ¬ br f (u+1)*B=M by omega)]
        by_cases y:q<p2 f
        . rw[VP y,VP (yk.mpr y)]
        . rw[VQ y,VQ (fun z=>y (yk.mp z))]
      have sm:=small (by omega);clear yk small big O3 l1 l2 sl mB Ln ad A lim g3 yj F7 wY qt;generalize br f u*B=X at *;generalize br f (u+1)*B=Y at *;generalize br f (u+1+1)*B=Z at *;refine⟨by omega,c,sm,.inr ⟨by omega,Tr,by omega⟩,?_,?_,?_,?_,?_,mk'⟩
      . intro x;refine⟨fun y=>?_,fun y=>by omega⟩;rcases gc with⟨a,_⟩ | ⟨a,_⟩ | ⟨a,b,_⟩ | ⟨a,_⟩
        . omega
        . omega
        . rw[b]at y;cases y
        . omega
      . intro x;refine⟨fun y=>by omega,fun y=>?_⟩;rcases gc with⟨a,_⟩ | ⟨a,_⟩ | ⟨a,_⟩ | ⟨a,b,_⟩
        . omega
        . omega
        . omega
        . rw[b]at y;cases y
      . intro x;rcases gc with⟨a,_⟩ | ⟨a,_⟩ | ⟨a,_⟩ | ⟨a,_⟩<;>omega
      . intro x;have gg:sd=3\/(sd=2/\q%2=1):=by rcases gc with⟨_,a⟩ | ⟨a,_⟩ | ⟨a,_⟩ | ⟨a,_⟩<;>omega
        refine⟨fun y=>?_,fun y=>?_⟩
        . rcases L with⟨x,_⟩ | ⟨x,_,_⟩ | ⟨x,y⟩ | ⟨_,x,y⟩<;>omega
        . have s3:sd=3:=by omega
          rcases L with⟨x,_⟩ | ⟨x,_,_⟩ | ⟨x,y⟩ | ⟨_,x,y⟩<;>omega
      . intro x;have gg:2<=sd:=by rcases gc with⟨a,_⟩ | ⟨_,a⟩ | ⟨a,_⟩ | ⟨a,_⟩<;>omega
        rcases L with⟨x,_⟩ | ⟨x,_,_⟩ | ⟨x,y⟩ | ⟨_,x,y⟩<;>omega
    . -- not grown
      have e1:jV f p t q sd under=u:=by rw[yj,g,VQ (by decide)];omega
      rw[e1]at c ⊢;have m0:br f u*B=M↔sd=0:=by rcases L with⟨x,_⟩ | ⟨_,x,y⟩ | ⟨_,x⟩ | ⟨_,x,y⟩<;>omega
      rw[ad,ad];have mk':vN f q sd=if br f u*B=M then 0 else if M<B*p2 f then 24 else 16:=by
        rw[F7];by_cases x:sd=0
        . rw[VP x,VP (m0.mpr x)]
        . rw[VQ x,VQ (fun z=>x (m0.mp z))];by_cases y:q<p2 f
          . rw[VP y,VP (yk.mpr y)]
          . rw[VQ y,VQ (fun z=>y (yk.mp z))]
      have sm:=small c;obtain⟨z1,z2⟩:=O3;have zz:¬ br f u*B=M->hz f u*B<M:=fun x=>by omega
      clear yk small big l1 l2 sl mB Ln ad A lim g3 yj F7 wY qt;generalize br f u*B=X at *;generalize br f (u+1)*B=Y at *;generalize hz f u*B=Z at *;refine⟨by omega,c,sm,?_,?_,?_,?_,?_,?_,mk'⟩
      . by_cases x:X=M
        . exact .inl x
        . exact .inr ⟨x,zz x,bd.2⟩
      . intro x;refine⟨fun y=>by omega,fun y=>?_⟩;have:sd=0:=by
          rcases gc with⟨a,_⟩ | ⟨a,_⟩ | a | ⟨_,a | a⟩ | ⟨a,_⟩
          . omega
          . omega
          . omega
          . rw[a]at y;cases y
          . exact a
          . omega
        have:=m0.mpr this;omega
      . intro x;refine⟨fun y=>?_,fun y=>by omega⟩;have:sd=0:=by
          rcases gc with⟨a,_⟩ | ⟨a,_⟩ | a | ⟨a,_⟩ | ⟨_,a | a⟩
          . omega
          . omega
          . omega
          . omega
          . rw[a]at y;cases y
          . exact a
        have:=m0.mpr this;omega
      . intro x;omega
      . intro x;have gg:sd<=1\/(sd=2/\q%2=0):=by rcases gc with⟨_,a⟩ | ⟨a,_⟩ | a | ⟨a,_⟩ | ⟨a,_⟩<;>omega
        refine⟨fun y=>?_,fun y=>?_⟩
        . rcases L with⟨x,_⟩ | ⟨x,_,_⟩ | ⟨x,y⟩ | ⟨_,x,y⟩<;>omega
        . have up:0<u:=by omega
          have zl:=z2 up;have s1:sd<=1:=by omega
          rcases L with⟨x,_⟩ | ⟨x,_,_⟩ | ⟨x,y⟩ | ⟨_,x,y⟩<;>omega
      . intro x;have gg:sd<=1:=by rcases gc with⟨a,_⟩ | ⟨_,a⟩ | a | ⟨a,_⟩ | ⟨a,_⟩<;>omega
        rcases L with⟨x,_⟩ | ⟨x,_,_⟩ | ⟨x,y⟩ | ⟨_,x,y⟩<;>omega
  . rw[VQ c];have cs:eS e f<=u\/(u=eS e f - 1/\gr p q sd under=true):=by
      rcases gc with⟨g,_⟩ | ⟨g,_⟩
      . have e1:jV f p t q sd under=u+1:=by rw[yj,g,VP rfl];omega
        rw[e1]at c;by_cases x:eS e f<=u
        . exact .inl x
        . exact .inr ⟨by omega,g⟩
      . have e1:jV f p t q sd under=u:=by rw[yj,g,VQ (by decide)];omega
        rw[e1]at c;exact .inl (by omega)
    by_cases ow:gw p true 3 under=true
    . rw[VP ow];refine⟨_,_,rfl,.inl ⟨rfl,rfl,?_⟩⟩;have gp:=g3.mp ow
      rw[A];rcases cs with cs | ⟨cs,g⟩
      . have bb:=big cs;rcases gp with a | a | ⟨a,b⟩ | ⟨a,b⟩
        . rw[VP (.inl a)];exact VX (by omega)
        . rw[VP (.inr a)];exact VX (by omega)
        . rw[VQ (by omega),VQ (by omega),VP a,b,VX (by omega)];rfl
        . rw[VQ (by omega),VQ (by omega),VQ (by omega),b,VX (by omega)];rfl
      . have lu:br f u=br f (eS e f - 1):=by rw[cs]
        have Ts:br f (u+1)=br f (eS e f):=by rw[cs];congr 1;omega
        rw[lu,Ts]at L bd;rcases gc with⟨_,gc⟩ | ⟨g2,_⟩
        . rcases gc with⟨a,b⟩ | ⟨a,b⟩ | ⟨a,b,d⟩ | ⟨a,b,d⟩
          . rw[VP (.inl a)];exact VX (by rcases L with⟨x,_⟩ | ⟨x,_,_⟩ | ⟨x,y⟩ | ⟨_,x,y⟩<;>omega)
          . rw[VP (.inr a)];exact VX (by rcases L with⟨x,_⟩ | ⟨x,_,_⟩ | ⟨x,y⟩ | ⟨_,x,y⟩<;>omega)
          . rw[VQ (by omega),VQ (by omega),VP a,b,VX (by rcases L with⟨x,_⟩ | ⟨x,_,_⟩ | ⟨x,y⟩ | ⟨_,x,y⟩<;>omega)];rfl
          . rw[VQ (by omega),VQ (by omega),VQ (by omega),b,VX (by rcases L with⟨x,_⟩ | ⟨x,_,_⟩ | ⟨x,y⟩ | ⟨_,x,y⟩<;>omega)];rfl
        . rw[g2]at g;cases g
    . rw[VQ ow];refine⟨_,_,rfl,.inr (.inl ⟨rfl,rfl,?_,?_⟩)⟩
      . rcases cs with cs | ⟨cs,g⟩
        . exact big cs
        . exfalso;apply ow;apply g3.mpr;rcases gc with⟨_,gc⟩ | ⟨g2,_⟩
          . rcases gc with⟨a,b⟩ | ⟨a,b⟩ | ⟨a,b,d⟩ | ⟨a,b,d⟩
            . exact .inl a
            . exact .inr (.inl a)
            . exact .inr (.inr (.inl ⟨a,b⟩))
            . exact .inr (.inr (.inr ⟨a,b⟩))
          . rw[g2]at g;cases g
      . have n0:¬ p=0:=fun x=>ow (g3.mpr (.inl x));have n1:¬ p=1:=fun x=>ow (g3.mpr (.inr (.inl x)))
        rw[VQ (by omega)];by_cases a:p=2
        . rw[VP a]
        . rw[VQ a];by_cases b:p=3
          . rw[VP b];cases under with
            | true=>rfl
            | false=>exact absurd (g3.mpr (.inr (.inr (.inl ⟨b,rfl⟩)))) ow
          . rw[VQ b];cases under with
            | false=>rfl
            | true=>exact absurd (g3.mpr (.inr (.inr (.inr ⟨by omega,rfl⟩)))) ow
theorem Hz{e f s k d t q a b M B:Int}(st:hV e f s k d t q a b)(hd:0<d)(hB:0<B)(hM:M*(d*p2 (lp e f - k))=s*p2 (k - lp e f)*B):Lies M (q*p2 t*B) ((q+1)*p2 t*B) (dC a b):=by
  refine lies_of hB (aY t) st.b0 st.a0 st.a1 ?_;have eq:=st.eq
  have c:=kG (e:=lp e f - k) (f:=lp e f+t - k) (by have:=st.t0;omega);rw[show lp e f+t - k - (lp e f - k)=t by omega,show -(lp e f - k)=k - lp e f by omega,show -(lp e f+t - k)=k - (lp e f+t) by omega]at c
  have k1:=aY (k - (lp e f+t));have k2:=Xz hd (aY (lp e f - k))
  generalize q*b+a=Z at *;generalize p2 (k - (lp e f+t))=A at *;generalize p2 (lp e f+t - k)=C at *;generalize p2 (k - lp e f)=D at *;generalize p2 (lp e f - k)=E at *;generalize p2 t=T at *;have e1:s*D*b*A=Z*(T*(d*E))*A:=by
    calc s*D*b*A=s*A*b*D:=by simp only[Wk,WG,VY]
      _=Z*(d*C)*D:=by rw[eq]
      _=Z*d*(C*D):=by simp only[Wk,WG,VY]
      _=Z*d*(E*A*T):=by rw[c]
      _=Z*(T*(d*E))*A:=by simp only[Wk,WG,VY]
  have e2:=XM (by omega) e1;have e3:M*b*(d*E)=Z*(T*B)*(d*E):=by
    calc M*b*(d*E)=M*(d*E)*b:=by simp only[Wk,WG,VY]
      _=s*D*B*b:=by rw[hM]
      _=s*D*b*B:=by simp only[Wk,WG,VY]
      _=Z*(T*(d*E))*B:=by rw[e2]
      _=Z*(T*B)*(d*E):=by simp only[Wk,WG,VY]
  exact XM (by omega) e3
theorem CA(i:Nat)(a:FE)(x0:Option PV)(ρ0:ay):uP i a (x0::ρ0)=jS (a (x0::ρ0)) (x0::ρ0) (fun v=>match v with
  | .lst l=>.next ((x0::ρ0).set i (some (.own l)))
  | _=>.stuck):=rfl
open PySem.NumText
noncomputable def mJ:List Nat:=[110,111,110,101]
noncomputable def i4:List Nat:=[101,110,100,108,101,115,115]
theorem lit_none:Str.ofString "none"=tx mJ:=by decide +kernel
theorem HA:Str.ofString "endless"=tx i4:=by decide +kernel
theorem Em:Str.ofString "-endless"=tx (45::i4):=by decide +kernel
theorem En:hG mJ=none:=by decide +kernel
theorem HB:hG i4=none:=by decide +kernel
theorem Eo:hG (45::i4)=none:=by decide +kernel
theorem jk:yF .aU=.ok (.bl false):=rfl
theorem qv{e f:Int}{l:List Nat}(h1:¬ l=mJ)(h2:¬ l=i4)(h3:¬ l=45::i4):Fw [e∣f,.str (tx l)]=.ok .aU:=by
  dsimp![Fw,Ov,lit_none,HA,Em,eX,h1,h2,h3]
theorem Ep{l:List Nat}{v:PV} (h:Wd e f) (hl:l.length<=16000000) (hv:bY (some v)=.ok v) (h1:¬ l=mJ) (h2:¬ l=i4) (h3:¬ l=45::i4) (hp:hG l=none) :
    cA [e∣f,.str (tx l),v]=.exc 6:=by
  have cw:=rD h;have nw:=qv (e:=e) (f:=f) h1 h2 h3
  have q:=KR hl;rw[hp]at q;simp only[zR]at q;dsimp![cA,zp,List.replicate,List.set,cw,nw,jk,q]
theorem tP{r:Bool×Nat×Int} (hp:hG l=some r):¬ l=mJ/\¬ l=i4/\¬ l=45::i4:=by
  refine⟨?_,?_,?_⟩<;>intro e<;>subst e
  . rw[En]at hp;cases hp
  . rw[HB]at hp;cases hp
  . rw[Eo]at hp;cases hp
section
variable {e f p:Int}{z:Str}{k:Nat}{l:List Nat}
theorem tQ{b:Bool}{t:Int}(h:Wd e f)(wk:fU p z k)(hl:l.length<=16000000)(hp:hG l=some (b,0,t)):cA [e∣f,.str (tx l),.str z]=.ok (.tup [.int (sg b*p2 (e+f)),.int 0]):=by
  have cw:=rD h;have wy:=(uy wk).1
  obtain⟨h1,h2,h3⟩:=tP hp;have nw:=qv (e:=e) (f:=f) h1 h2 h3
  have q:=KR hl;rw[hp]at q;simp only[zR]at q;have ws:=F5 (u:=0) ⟨h,.inl rfl,by decide,aY _⟩ b
  have es:(if b=true then (1:Int) else 0)=sg b:=rfl;rw[es,XE]at ws;have z0:((0:Nat):Int)=0:=rfl
  dsimp![cA,zp,List.replicate,List.set,cw,nw,jk,q,z0,wy,ws]
theorem vR{b:Bool}{w:Nat}{t:Int}{v:PV}(h:Wd e f)(hl:l.length<=16000000)(hp:hG l=some (b,w,t))(w0:0<w)(t0 : -2300<=t)(t1:t<=2300)(wb:nb w<=5000)
    (tk:iM [e∣f,.int ((if b then -(w:Int) else w)*dI t),.int 0,.int (dI (-t)),.str z]=.ok v):cA [e∣f,.str (tx l),.str z]=.ok v:=by
  have cw:=rD h;obtain⟨h1,h2,h3⟩:=tP hp;have nw:=qv (e:=e) (f:=f) h1 h2 h3
  have q:=KR hl;rw[hp]at q;simp only[zR]at q;have z0:¬(w:Int)=0:=by omega
  by_cases tn:t<0
  . have te:=O2 (n:=-t) (by omega) (by omega);rw[sy (a:=t) (by omega)]at tk;generalize dI (-t)=T at *;cases b
    . simp only[WB,Xr,Xj]at tk;dsimp![cA,zp,xO,Cc,List.replicate,List.set,cw,nw,jk,q,z0,tn,te,tk]
    . simp only[W2,Xj]at tk;dsimp![cA,zp,xO,Cc,List.replicate,List.set,cw,nw,jk,q,z0,tn,te,tk]
  . have te:=O2 (n:=t) (by omega) (by omega);have nt:=vQ (n:=t) (m:=2300) (by omega)
    rw[sy (a:=-t) (by omega)]at tk;have o1:fL (w:Int) (dI t):=iC (m:=5000) (n:=10000) wb (by omega) (by decide)
    have o2:fL (-(w:Int)) (dI t):=iC (m:=5000) (n:=10000) (by rw[rn];exact wb) (by omega) (by decide);generalize dI t=T at *;cases b
    . simp only[WB,Xr]at tk;dsimp![cA,zp,xO,Cc,List.replicate,List.set,cw,nw,jk,q,z0,tn,te,o1,tk]
    . simp only[W2]at tk;dsimp![cA,zp,xO,Cc,List.replicate,List.set,cw,nw,jk,q,z0,tn,te,o2,tk]
end
end Cm
namespace Dk
open PySem Mi Cm
noncomputable def hJ(s:List Nat):Bool:=s.any fun c=>!decide (97<=c/\c<=122)
theorem mK(h:hJ s=true):cn s=false:=by
  unfold hJ at h;unfold cn;rw[List.any_eq_true]at h;obtain⟨c,hc,q⟩:=h;rw[List.all_eq_false];exact⟨c,hc,by rw[WZ]at q;rw[q];simp⟩
theorem jl(s t:List Nat):hJ (s++t)=(hJ s||hJ t):=List.any_append
theorem gb(h:cn s=true):32 ∉ s:=fun q=>by
  unfold cn at h;rw[Ww]at h;have:=Wv (h 32 q)
  omega
theorem Er:(Ce.all fun p=>cn p.1.cps.toList)=true:=by decide +kernel
theorem tR:∀{l:List (Str×Int)},cn w=false->(l.all fun p=>cn p.1.cps.toList)=true->l.lookup (tx w)=none
  | [],_,_=>rfl
  | (s,x)::l,h,q=>by
    rw[Xl,VR]at q;have ne:(tx w == s)=false:=Wr.mpr fun z=>by
      have:=q.1;rw[<- z]at this;have this:cn (tx w).cps.toList=true:=this
      rw[g8,h]at this;cases this
    rw[Wa,ne];exact tR h q.2
structure NE(a b c d:List Nat):Prop where
  la:cn a=true
  lb:cn b=true
  lc:cn c=true
  ld:cn d=true
  na:a.length<=8
  nb:b.length<=8
  nc:c.length<=8
  nd:d.length<=8
  pa:a≠[]
  pb:b≠[]
  pc:c≠[]
  pd:d≠[]
  ca:c≠a
  cb:c≠b
  da:d≠a
  db:d≠b
section
variable {a b c d:List Nat}
theorem sA(h:cn a=true):32 ∉ a.map (· - 32)/\(a≠[]->hJ (a.map (· - 32))=true):=by
  unfold cn at h;rw[Ww]at h;refine⟨fun q=>?_,fun n=>?_⟩
  . obtain⟨x,hx,e⟩:=WU.mp q;have:=Wv (h x hx)
    omega
  . cases a with
    | nil=>exact absurd rfl n
    | cons x r =>
      have:=Wv (h x Wf);unfold hJ;rw[VZ,Xw,X3];refine .inl ?_;rw[WZ,Yt];omega
theorem vS(N:NE a b c d)(k:Nat):32 ∉ env a b c d k/\(env a b c d k).length<=8:=by
  unfold env;split
  . exact⟨gb N.la,N.na⟩
  . exact⟨gb N.lb,N.nb⟩
  . exact⟨gb N.lc,N.nc⟩
  . exact⟨gb N.ld,N.nd⟩
  . exact⟨(sA N.la).1,by rw[V5];exact N.na⟩
  . exact⟨by simp,by simp⟩
noncomputable def Lp(w:Wp):Bool:=!(w.1.contains 32) && !(w.2.2.contains 32)
noncomputable def O4(p:List Wp):Nat:=(p.map fun w=>w.1.length+w.2.2.length+9).sum
noncomputable def ym(p:List Wp):Bool:=p.all Lp&&decide (O4 p<=1000)
theorem CD(N:NE a b c d)(h:Lp w=true):32 ∉ inst (env a b c d) w:=by
  unfold Lp at h;rw[VR,WZ,WZ]at h;unfold inst;intro q;rcases XF.mp q with q | q
  . rw[WO.mpr q]at h;cases h.1
  . rcases XF.mp q with q | q
    . exact(vS N _).1 q
    . rw[WO.mpr q]at h;cases h.2
theorem CF:∀ ws:List (List Nat),(jn ws).length<=(ws.map fun w=>w.length+1).sum
  | []=>VU _
  | [a]=>by simp[jn]
  | a::b::r=>by
    have ih:=CF (b::r);show(a++32::jn (b::r)).length<=a.length+1+((b::r).map fun w=>w.length+1).sum
    rw[VV,VT];omega
theorem CG(N:NE a b c d){p:List Wp}(h:ym p=true):Row (p.map (inst (env a b c d))):=by
  unfold ym at h;rw[VR,Ww]at h;refine⟨fun w hw=>?_,?_⟩
  . obtain⟨x,hx,rfl⟩:=WU.mp hw;exact CD N (h.1 x hx)
  . have l:=CF (p.map (inst (env a b c d)));have s:=Wv h.2
    unfold O4 at s;rw[W6]at l;have:∀ p:List Wp,(p.map ((fun w=>w.length+1) ∘ inst (env a b c d))).sum<=(p.map fun w=>w.1.length+w.2.2.length+9).sum:=by
      intro p
      induction p with
      | nil=>exact VU _
      | cons w p ih =>
        rw[VZ,VZ,Zb,Zb];have e:=(vS N w.2.1).2
        have:(inst (env a b c d) w).length+1<=w.1.length+w.2.2.length+9:=by unfold inst;rw[VV,VV];omega
        have:((fun w:List Nat=>w.length+1) ∘ inst (env a b c d)) w<=w.1.length+w.2.2.length+9:=this;omega
    have:=this p;omega
noncomputable def Lq(h:Wp)(n:Nat):Bool:=if h.2.1=0 then fG (h.1++h.2.2) n else hJ h.1||decide (h.2.1=5)
noncomputable def Lr:List Wp->Bool
  | h::t=>Lq h (t.length+1)
  | []=>false
theorem rO{w:Wp}(h:w.2.1=0):inst (env a b c d) w=w.1++w.2.2:=by unfold inst;rw[h];rfl
theorem Ls(N:NE a b c d)(q:Lq h n=true):fG (inst (env a b c d) h) n=true:=by
  unfold Lq at q;split at q
  . next z=>rw[rO z];exact q
  . next z =>
    have nl:hJ (inst (env a b c d) h)=true:=by
      unfold inst;rw[jl,jl];rcases Xi.mp q with q | q
      . rw[q];rfl
      . have e:env a b c d h.2.1=a.map (· - 32):=by rw[Wv q];rfl
        rw[e,(sA N.la).2 N.pa];simp
    unfold fG;rw[tR (mK nl) Er]
theorem Es:(mH.all fun p=>ym p&&Lr p)=true:=by decide +kernel
noncomputable def Et(w:Wp):Bool:=(decide (w.2.1=0)&&iF (w.1++w.2.2))||(hJ w.1||hJ w.2.2)||decide (w.2.1=5)
noncomputable def Ag(w:Wp):Bool:=decide (w.1=[])&&decide (w.2.2=[])&&(decide (w.2.1=1)||decide (w.2.1=2)||decide (w.2.1=3)||decide (w.2.1=4))
noncomputable def oR(w:Wp):Bool:=(decide (w.2.1=0)&&decide (w.1++w.2.2=[]))||(hJ w.1||hJ w.2.2)||(decide (w.1=[])&&decide (w.2.2=[])&&(decide (w.2.1=3)||decide (w.2.1=4)))
theorem CH(h:cn w=false):iF w=true:=by unfold iF;rw[h];simp
theorem yn(E:Nat->List Nat)(h:(hJ w.1||hJ w.2.2)=true):hJ (inst E w)=true:=by
  unfold inst;rw[jl,jl];rcases Xi.mp h with h | h<;>rw[h]<;>simp
theorem Mt(N:NE a b c d)(h:Et w=true):iF (inst (env a b c d) w)=true:=by
  unfold Et at h;rcases Xi.mp h with h | h
  . rcases Xi.mp h with h | h
    . rw[VR]at h;rw[rO (Wv h.1)];exact h.2
    . exact CH (mK (yn _ h))
  . have e:env a b c d w.2.1=a.map (· - 32):=by rw[Wv h];rfl
    refine CH (mK ?_);unfold inst;rw[jl,jl,e,(sA N.la).2 N.pa];simp
theorem j9{w:List Nat}(h:cn w=true)(h1:w≠[])(h8:w.length<=8):iF w=false:=by
  unfold iF;have:1<=w.length:=aaX.mpr h1
  rw[h,VX ⟨this,h8⟩];rfl
theorem Lu(N:NE a b c d)(h:Ag w=true):iF (inst (env a b c d) w)=false:=by
  obtain⟨r,k,s⟩:=w;unfold Ag at h;simp only[VR,X3,W8]at h;obtain⟨⟨rfl,rfl⟩,h⟩:=h;unfold inst;rw[Xa,Wj];rcases h with((h | h) | h) | h<;>subst h
  . exact j9 N.la N.pa N.na
  . exact j9 N.lb N.pb N.nb
  . exact j9 N.lc N.pc N.nc
  . exact j9 N.ld N.pd N.nd
theorem CI(N:NE a b c d)(h:oR w=true):inst (env a b c d) w≠a/\inst (env a b c d) w≠b:=by
  unfold oR at h;rcases Xi.mp h with h | h
  . rcases Xi.mp h with h | h
    . rw[VR]at h;rw[rO (Wv h.1),Wv h.2];exact⟨fun q=>N.pa q.symm,fun q=>N.pb q.symm⟩
    . have l:=mK (yn (env a b c d) h);exact⟨fun q=>(by rw[q,N.la]at l;cases l),fun q=>(by rw[q,N.lb]at l;cases l)⟩
  . obtain⟨r,k,s⟩:=w;rw[VR,VR,X3,W8,W8,W8,W8]at h;obtain⟨⟨h1,h2⟩,h⟩:=h;have h1:r=[]:=h1
    have h2:s=[]:=h2;have h:k=3\/k=4:=h
    subst h1 h2;unfold inst;rw[Xa,Wj];rcases h with h | h<;>subst h
    . exact⟨N.ca,N.cb⟩
    . exact⟨N.da,N.db⟩
noncomputable def cN:List Wp->Bool
  | h::n::t=>decide (h.2.1=0) && !fG (h.1++h.2.2) (t.length+2)&&(if tN (h.1++h.2.2)=true then (Et n||(Ag n && !decide (h.1++h.2.2=cM)&&t.any oR))
      else (!decide (h.1++h.2.2=fT)&&(if yd (h.1++h.2.2)=true then decide (h.1++h.2.2=eI)&&t.isEmpty&&oR n else (n::t).any oR)))
  | _=>false
theorem CJ:((pNames++jw).all fun p=>ym p&&cN p)=true:=by decide +kernel
end
noncomputable def mL(e f:Int)(a b:List Nat)(v:PV)(x:Nat):Prop:=∀{S:aI}{k i d:Nat}{z:Str}{r:Int}{L:List (List Nat×Int)}{y:PV},bX e f k i d z r L S->bP [.str z]=.ok y->(∀ w,w≠a->w≠b->(L.lookup w).isSome=false) ->
  ∃ T,aS [aR k,v] S=.exc x T/\bX e f k i d z r L T/\Fr i d S T
section
variable {a b c d:List Nat}{e f:Int}
theorem Lv(N:NE a b c d){p:List Wp}(h:(ym p&&Lr p)=true):mL e f a b (.str (tx (jn (p.map (inst (env a b c d)))))) 9:=by
  rw[VR]at h;have R:=CG N h.1
  intro S k i d' z r L y D hy hL;cases p with
  | nil=>cases h.2
  | cons w t =>
    refine⟨S,Hj R ?_,D,Fr.refl⟩;rw[V5];exact Ls N h.2
theorem HC(N:NE a b c d)(wd:Wd e f){p:List Wp}(h:(ym p&&cN p)=true):mL e f a b (.str (tx (jn (p.map (inst (env a b c d)))))) 8:=by
  rw[VR]at h;have R:=CG N h.1
  intro S k i d' z r L y D hy hL;have hm:∀{l:List Wp},l.any oR=true->∃ w∈l.map (inst (env a b c d)),(L.lookup w).isSome=false:=fun{l} q=>by
    obtain⟨w,hw,q⟩:=List.any_eq_true.mp q;obtain⟨m1,m2⟩:=CI N q;exact⟨_,WU.mpr ⟨w,hw,rfl⟩,hL _ m1 m2⟩
  match p,h,R with
  | [],h,_=>cases h.2
  | [_],h,_=>cases h.2
  | w::n::t,h,R =>
    have q:=h.2;unfold cN at q;rw[VR,VR,WZ]at q;obtain⟨⟨q0,q1⟩,q2⟩:=q;have i0:=rO (a:=a) (b:=b) (c:=c) (d:=d) (Wv q0)
    rw[VZ,VZ]at R ⊢;rw[i0]at R ⊢;have hn:(inst (env a b c d) n).length<=100000:=by
      have:=R.len;show _
      have l:(inst (env a b c d) n).length<=(jn ((w.1++w.2.2)::inst (env a b c d) n::t.map (inst (env a b c d)))).length:=by
        show _<=(_++32::jn (inst (env a b c d) n::t.map (inst (env a b c d)))).length;rw[VV,VT];cases t.map (inst (env a b c d))with
        | nil=>show _<=_+((inst (env a b c d) n).length+1);omega
        | cons s r =>
          have:(jn (inst (env a b c d) n::s::r)).length=(inst (env a b c d) n).length+((jn (s::r)).length+1):=by show(_++32::_).length=_;rw[VV,VT]
          omega
      omega
    have Lw:fG (w.1++w.2.2) ((inst (env a b c d) n::t.map (inst (env a b c d))).length+1)=false:=by rw[VT,V5];exact q1
    generalize w.1++w.2.2=hd at *;split at q2
    . next m =>
      rw[qr D R Lw m];rcases Xi.mp q2 with q2 | q2
      . exact⟨S,K8 (Mt N q2) hn,D,Fr.refl⟩
      . rw[VR,VR,WZ,Yt]at q2;exact⟨_,Hk D wd hy (Lu N q2.1.1) hn q2.1.2 (hm q2.2),D.app,Fr.app⟩
    . next m =>
      have m:tN hd=false:=by simpa using m
      rw[VR,WZ,Yt]at q2;obtain⟨q3,q2⟩:=q2;split at q2
      . next ch =>
        rw[VR,VR,W8,List.isEmpty_iff]at q2;obtain⟨⟨rfl,rfl⟩,q4⟩:=q2;obtain⟨m1,m2⟩:=CI N q4;refine⟨S,?_,D,Fr.refl⟩;rw[oo D R Lw m q3 ch];show OR (cf [aR k,ts [eI,inst (env a b c d) n]] S)=_
        rw[vK D (hL _ m1 m2)];rfl
      . next ch =>
        have ch:yd hd=false:=by simpa using ch
        exact⟨S,oq D R Lw m q3 ch (hm (l:=n::t) q2),D,Fr.refl⟩
theorem HD(wd:Wd e f){n t:List Nat}(ln:cn n=true)(n0:n≠[])(n8:n.length<=8)(tf:32 ∉ t)(t1:t.length<=20)(h1:¬ t=mJ)(h2:¬ t=i4)(h3:¬ t=45::i4)(hp:hG t=none):mL e f a b (.str (tx (jn [cM,n,t]))) 6:=by
  intro S k i d' z r L y D hy hL;have R:Row [cM,n,t]:=⟨fun w hw=>by
    have:w=cM\/w=n\/w=t:=by simpa using hw
    rcases this with rfl | rfl | rfl
    . decide
    . exact gb ln
    . exact tf,by
    show(cM++32::(n++32::t)).length<=_;rw[VV,VT,VV,VT];show 4+_<=_
    omega⟩
  have rd:=Ep (v:=.str z) wd (l:=t) (by omega) rfl h1 h2 h3 hp;rw[qr D R (show fG cM 3=false by decide +kernel) (by decide +kernel)];exact⟨_,Eb D wd hy (j9 ln n0 n8) (by omega) rd,D.app,Fr.app⟩
theorem Lx{w:List Nat}(wf:32 ∉ w)(w1:w.length<=20)(hy:bP [.str (tx w)]=.exc 3):mL e f a b (.str (tx (jn [dZ,w]))) 3:=by
  intro S k i d' z r L y D _ hL;have R:Row [dZ,w]:=⟨fun x hw=>by
    have:x=dZ\/x=w:=by simpa using hw
    rcases this with rfl | rfl
    . decide
    . exact wf,by
    show(dZ++32::w).length<=_;rw[VV,VT];show 3+_<=_
    omega⟩
  refine⟨S,?_,D,Fr.refl⟩;rw[oo D R (show fG dZ 2=false by decide +kernel) (by decide +kernel) (by decide) (by decide +kernel),Hm D hy];rfl
end
end Dk
namespace Cm
open PySem Mi
theorem all_map{α:Type}(f:α->Bool):∀ l:List α,(l.map f).all id=l.all f
  | []=>rfl
  | x::r=>by rw[VZ,Xl,Xl,all_map f r];rfl
noncomputable def sS(f s u:Int):Int:=if s=1 then -(br f u) else br f u
end Cm
namespace Tt
open PySem Mi Cm
inductive Kd where
  | rP | number | oS | loud | Mu
noncomputable def Tu(b:Bool)(n k:Int):Kd->Tm
  | .rP=>.num b 0 0
  | .number=>.num b n k
  | .oS=>.Ll b
  | .loud=>.mI
  | .Mu=>.none
def Is(t:Tm)(b:Bool)(i:Kd):Prop:=∃ n k:Int,n≠0/\t=Tu b n k i
end Tt
namespace Cm
open PySem Mi
theorem Lc(i:Nat)(g:FA)(x0:Option PV)(ρ0:ay):lM i g (x0::ρ0)=match (x0::ρ0)[i]? with
  | some (some (.own l))=>(match g (x0::ρ0)with
    | .ok [v]=>if l.length<sizeLine then .next ((x0::ρ0).set i (some (.own (l ++[v])))) else .stuck
    | .ok _=>.stuck
    | .exc c=>.exc c (x0::ρ0)
    | .stuck=>.stuck)
  | _=>.stuck:=rfl
end Cm
namespace An
open PySem Mi Cm
def AW(e f:Int)(r:R PV):Prop:=∃ s u m,r=.ok (.tup [.int (u+s*p2 (e+f)),.int m])/\Wu e f s u/\0<=m/\m<32
def TW(e f:Int)(r:R PV):Prop:=∃ s u m,r=.ok (.tup [.int (u+s*p2 (e+f)),.int m])/\Wu e f s u/\(m=0\/m=16\/m=20\/m=24)
theorem TW.aw(h:TW e f r):AW e f r:=by
  obtain⟨s,u,m,a,b,c⟩:=h;exact⟨s,u,m,a,b,by omega,by omega⟩
section
variable {e f p:Int}{z:Str}{k:Nat}
theorem Mv{t q sd:Int}(h:Wd e f)(t0:0<=t)(q0:0<=q)(b:Bool):TW e f (.ok (rN e f p t q sd b)):=by
  obtain⟨a1,a2,a3,a4,a5⟩:=kH h;have hs:sg b=0\/sg b=1:=by cases b<;>simp[sg]
  have tp:0<=t*p2 f:=WK t0 (Wn (aY f));unfold rN;by_cases c:jV f p t q sd b<eS e f
  . rw[VP c];refine⟨_,_,_,rfl,⟨h,hs,?_,by omega⟩,?_⟩
    . unfold jV;split<;>omega
    . unfold vN;split
      . exact .inl rfl
      . split
        . exact .inr (.inr (.inr rfl))
        . exact .inr (.inl rfl)
  . rw[VQ c];refine⟨_,_,_,rfl,⟨h,hs,?_,?_⟩,.inr (.inr (.inl rfl))⟩
    . split<;>omega
    . split<;>omega
theorem Eu{n j d:Int}(h:Wd e f)(w:fU p z k)(hn:n≠0)(hd:0<d)(b1:nb n<=5000)(b2:nb d<=3900)(k0:lp e f - 5000<=j)(k1:j<=10000):TW e f (iM [e∣f,.int n,.int j,.int d,.str z]):=by
  obtain⟨t,q,a,b,st⟩:=yh (s:=ab n) h (CB hn) hd (by rw[Ad];exact b1) b2 k0 k1;rw[sx h w hn hd (by omega) b2 st];exact Mv h st.t0 st.q0 _
variable {s u t v r x:Int}
theorem l1{P:Tm->Prop}{a:Tm}(h:P a):∀ z∈[a],P z:=fun z hz=>by rw[Wx.mp hz];exact h
theorem l2{P:Tm->Prop}{a b:Tm}(h:P a)(g:P b):∀ z∈[a,b],P z:=fun z hz=>by
  rcases WD.mp hz with e | e
  . rw[e];exact h
  . rw[Wx.mp e];exact g
end
end An
namespace O5
open PySem Mi Cm
noncomputable def wd(e f:Int)(p:Int×Int):PV:=.int (p.2+p.1*p2 (e+f))
end O5
namespace Ly
open PySem Mi Cm
inductive Kd where
  | rP | number | oS | mI | none
  deriving DecidableEq
noncomputable def Kd.str:Kd->Str
  | .rP=>"nought"
  | .number=>"number"
  | .oS=>"endless"
  | .mI=>"wrong"
  | .none=>"none"
abbrev KS:=Kd×Int
noncomputable def pp(k:KS):PV:=.tup [.str k.1.str,.int k.2]
abbrev ZS:=Tm×KS
noncomputable def Tv(e f u:Int):Kd:=if eS e f<u then (if eS e f+p2 (f - 1)<=u then .none else .mI) else if u=eS e f then .oS else if u=0 then .rP else .number
end Ly
namespace Tw
open PySem Mi Cm
abbrev WP:=Int×Int
noncomputable abbrev wd:=O5.wd
noncomputable def kk(e f:Int)(q:WP):Ly.KS:=(Ly.Tv e f q.2,q.1)
end Tw
namespace An
open PySem Mi Cm
section
variable {e f p:Int}{z:Str}{k:Nat}{s u t v r x:Int}
theorem HE{l:List Nat}{b:Bool}{w:Nat}{t:Int}(h:Wd e f)(wk:fU p z k)(hl:l.length<=16000000)(hp:hG l=some (b,w,t))(t0 : -1100<=t)(t1:t<=1100)(wb:nb w<=1000) :
    AW e f (cA [e∣f,.str (tx l),.str z]):=by
  obtain⟨l1,l2,l3,l4⟩:=jI h;by_cases w0:w=0
  . subst w0;have q:=tQ h wk hl hp
    exact⟨sg b,0,0,by rw[q,XE],⟨h,by cases b<;>simp[sg],by decide,aY _⟩,by decide,by decide⟩
  . have np:=vQ (n:=t) (m:=1100) (by omega);have nd:=vQ (n:=-t) (m:=1100) (by omega)
    have pp:=l7 t;have hw:(w:Int)≠0:=by omega
    obtain⟨s',u',m,a,hu,hm⟩:=Eu (n:=(if b then -(w:Int) else w)*dI t) (j:=0) (d:=dI (-t)) h wk (by
        intro c;rcases ZG.mp c with c | c
        . split at c<;>omega
        . omega) (l7 _) (by
        have x1:=oa (if b=true then -(w:Int) else w) (dI t);have x2:nb (if b=true then -(w:Int) else w)<=1000:=by split<;>(try rw[rn])<;>exact wb
        omega) (by omega) (by omega) (by decide)
    exact⟨s',u',m,vR h hl hp (by omega) (by omega) (by omega) (by omega) a,hu,by omega,by omega⟩
variable {y y':PV}
end
end An
namespace Dk
open PySem Mi Cm
theorem pick{l:List PV}(hl:l≠[])(x:Int):∃ v∈l,aB (.lst l) (.int (x%(l.length:Int)))=.ok v:=by
  have p:(0:Int)<(l.length:Int):=by have:=aaX.mpr hl;omega
  have h0:=Wy x (Int.ne_of_gt p);have h1:=WE x p
  generalize x%(l.length:Int)=i at *;have hi:i.toNat<l.length:=by omega
  exact⟨l[i.toNat],Zu hi,rG (n:=i.toNat) (V9 hi) (by omega)⟩
def gd(x:Nat)(due:Str):Prop:=(x=9/\due="row")\/(x=8/\due="name")\/(x=6/\due="text")\/(x=3/\due="way")
theorem Qo(a b c d:PV):aB (.lst [a,b,c,d]) (.int 3)=.ok d:=rfl
theorem F8:j3 4:=kB (n:=20) (by decide) (dP (by decide)) (by decide)
theorem F9:gW 4:=show(0:Int)<4 by decide
theorem Tz:gW 3:=show(0:Int)<3 by decide
theorem Qp:gW 14:=show(0:Int)<14 by decide
theorem Qq:j3 14:=kB (n:=20) (by decide) (dP (by decide)) (by decide)
theorem Ew(E:Nat->List Nat)(p q:List (List Wp)):dQ E p++dQ E q=dQ E (p++q):=by unfold dQ;rw[X4]
theorem jm(E:Nat->List Nat)(p:List (List Wp)):(dQ E p).length=p.length:=V5 _
noncomputable def yo:List (List Nat):=[[49,46],[],[101,53],[43,49],[49,101,49,48,48,48],[46,53],[45,45,49],[78,111,110,101],[101,110,100,108,101,115],[49,44,53],[48,120,49],[49,101],[105,110,102],[45,110,111,110,101]]
noncomputable def CK:List (List Nat):=[[69,118,101,110],[],[110,101,97,114],[117],[117,112,112],[105,110,10],[97,119,97,121,48],[110,101,97,114,101,115,116]]
theorem Mw:∀ t∈yo,32 ∉ t/\t.length<=20/\¬ t=mJ/\¬ t=i4/\¬ t=45::i4/\hG t=none:=by decide +kernel
theorem My:∀ w∈CK,32 ∉ w/\w.length<=20:=by decide +kernel
theorem CL:Str.ofString "even"=tx [101,118,101,110]/\Str.ofString "away"=tx [97,119,97,121]/\Str.ofString "in"=tx [105,110]/\Str.ofString "up"=tx [117,112]/\Str.ofString "down"=tx [100,111,119,110]:=by decide +kernel
theorem Mz{w:List Nat}(h1:¬ w=[101,118,101,110])(h2:¬ w=[97,119,97,121])(h3:¬ w=[105,110])(h4:¬ w=[117,112])(h5:¬ w=[100,111,119,110]):bP [.str (tx w)]=.exc 3:=by
  dsimp![bP,Oq,CL,eX,h1,h2,h3,h4,h5]
theorem Lz:∀ w∈CK,¬ w=[101,118,101,110]/\¬ w=[97,119,97,121]/\¬ w=[105,110]/\¬ w=[117,112]/\¬ w=[100,111,119,110]:=by decide +kernel
section
variable {a b c d:List Nat}{e f:Int}
theorem TB(N:NE a b c d){cell:Int}(hc:cell%4=0):∃ v t,v=.str t/\z9 [.lst [.str (tx a),.str (tx b),.str (tx c),.str (tx d)],.int cell]=.ok (.tup [v,.str "row"])/\mL e f a b v 9:=by
  have q:=SY (c:=c) (d:=d) N.la N.na N.nb;obtain⟨v,hv,pk⟩:=pick (l:=dQ (env a b c d) mH) (fun z=>by have:=jm (env a b c d) mH;rw[z]at this;cases this) (cell/4)
  obtain⟨p,hp,rfl⟩:=WU.mp hv;refine⟨_,_,rfl,?_,Lv N (Ww.mp Es p hp)⟩;have om:gW ((dQ (env a b c d) mH).length:Int):=by rw[jm];show(0:Int)<_;decide
  generalize dQ (env a b c d) mH=X at *;generalize PV.str (tx (jn (p.map (inst (env a b c d)))))=V at *;dsimp![z9,Ci,List.replicate,List.set,hc,F8,F9,kF,qq,q,om,pk]
theorem TC(N:NE a b c d)(wd:Wd e f){cell:Int}(hc:cell%4=1):∃ v t,v=.str t/\z9 [.lst [.str (tx a),.str (tx b),.str (tx c),.str (tx d)],.int cell]=.ok (.tup [v,.str "name"])/\mL e f a b v 8:=by
  have q1:=S6 (b:=b) N.la N.na N.nc N.nd;have q2:=S5 (c:=c) (d:=d) N.la N.na N.nb
  obtain⟨v,hv,pk⟩:=pick (l:=dQ (env a b c d) (pNames++jw)) (fun z=>by have:=jm (env a b c d) (pNames++jw);rw[z]at this;cases this) (cell/4)
  obtain⟨p,hp,rfl⟩:=WU.mp hv;refine⟨_,_,rfl,?_,HC N wd (Ww.mp CJ p hp)⟩;have om:gW ((dQ (env a b c d) (pNames++jw)).length:Int):=by rw[jm];show(0:Int)<_;decide
  have ad:ar (.lst (dQ (env a b c d) pNames)) (.lst (dQ (env a b c d) jw))=.ok (.lst (dQ (env a b c d) (pNames++jw))):=by
    rw[Ac (by rw[jm,jm];decide),Ew]
  generalize dQ (env a b c d) pNames=X1 at *;generalize dQ (env a b c d) jw=X2 at *;generalize dQ (env a b c d) (pNames++jw)=X at *;generalize PV.str (tx (jn (p.map (inst (env a b c d)))))=V at *;dsimp![z9,Ci,List.replicate,List.set,hc,F8,F9,kF,qq,Qo,oItem_l2,q1,q2,ad,om,pk]
theorem TF(N:NE a b c d)(wd:Wd e f){cell:Int}(hc:cell%4=2):∃ v t,v=.str t/\z9 [.lst [.str (tx a),.str (tx b),.str (tx c),.str (tx d)],.int cell]=.ok (.tup [v,.str "text"])/\mL e f a b v 6:=by
  obtain⟨v,hv,pk⟩:=pick (l:=yo.map fun t=>PV.str (tx t)) (by decide) (cell/4);obtain⟨t,ht,rfl⟩:=WU.mp hv;obtain⟨t1,t2,t3,t4,t5,t6⟩:=Mw t ht;have pk:aB (.lst (yo.map fun t=>PV.str (tx t))) (.int (cell/4%14))=.ok (.str (tx t)):=pk
  have h3:0<=cell/4/14%3/\cell/4/14%3<3:=⟨Wy _ (by decide),WE _ (by decide)⟩;have nk:∃ n,aB (.lst [.str (tx a),.str (tx b),.str (tx c),.str (tx d)]) (.int (cell/4/14%3))=.ok (.str (tx n))/\cn n=true/\n≠[]/\n.length<=8:=by
    generalize cell/4/14%3=x at *;have:x=0\/x=1\/x=2:=by omega
    rcases this with rfl | rfl | rfl
    . exact⟨a,rfl,N.la,N.pa,N.na⟩
    . exact⟨b,rfl,N.lb,N.pb,N.nb⟩
    . exact⟨c,rfl,N.lc,N.pc,N.nc⟩
  obtain⟨n,nk,n1,n2,n3⟩:=nk;refine⟨_,_,rfl,?_,HD wd n1 n2 n3 t1 t2 t3 t4 t5 t6⟩;have ml:∀ xs:List PV,xs.length<=1000->gD xs=.ok (.lst xs):=fm
  have Ga:ar (.str (tx [107,101,101,112,32])) (.str (tx n))=.ok (.str (tx ([107,101,101,112,32]++n))):=iD (by show 5+_<=_;omega);have Gb:ar (.str (tx ([107,101,101,112,32]++n))) (.str (tx [32]))=.ok (.str (tx ([107,101,101,112,32]++n ++[32]))):=iD (by rw[VV];show 5+_+1<=_;omega)
  have TG:ar (.str (tx ([107,101,101,112,32]++n ++[32]))) (.str (tx t))=.ok (.str (tx (jn [cM,n,t]))):=by
    rw[iD (by rw[VV,VV];show 5+_+1+_<=_;omega)];show R.ok (PV.str (tx _))=R.ok (PV.str (tx (cM++32::(n++32::t))))
    congr 3;simp[cM]
  have LA:gD (yo.map fun t=>PV.str (tx t))=.ok (.lst (yo.map fun t=>PV.str (tx t))):=fm _ (by decide);have el:(yo.map fun t=>PV.str (tx t))=[.str (tx [49,46]),.str (tx []),.str (tx [101,53]),.str (tx [43,49]),.str (tx [49,101,49,48,48,48]),.str (tx [46,53]),.str (tx [45,45,49]),.str (tx [78,111,110,101]),.str (tx [101,110,100,108,101,115]),.str (tx [49,44,53]),.str (tx [48,120,49]),.str (tx [49,101]),.str (tx [105,110,102]),.str (tx [45,110,111,110,101])]:=rfl
  rw[el]at pk LA;generalize jn [cM,n,t]=V at *;generalize [107,101,101,112,32]++n ++[32]=V2 at *;generalize [107,101,101,112,32]++n=V1 at *;dsimp![z9,Ci,List.replicate,List.set,hc,F8,F9,Qp,Qq,Tz,vL,LA,pk,nk,Ga,Gb,TG]
theorem TH{cell:Int}(hc:cell%4=3):∃ v t,v=.str t/\z9 [.lst [.str (tx a),.str (tx b),.str (tx c),.str (tx d)],.int cell]=.ok (.tup [v,.str "way"])/\mL e f a b v 3:=by
  obtain⟨v,hv,pk⟩:=pick (l:=CK.map fun t=>PV.str (tx t)) (by decide) (cell/4);obtain⟨w,hw,rfl⟩:=WU.mp hv;obtain⟨w1,w2⟩:=My w hw;obtain⟨y1,y2,y3,y4,y5⟩:=Lz w hw;have pk:aB (.lst (CK.map fun t=>PV.str (tx t))) (.int (cell/4%8))=.ok (.str (tx w)):=pk
  refine⟨_,_,rfl,?_,Lx w1 w2 (Mz y1 y2 y3 y4 y5)⟩;have ad:ar (.str (tx [119,97,121,32])) (.str (tx w))=.ok (.str (tx (jn [dZ,w]))):=by
    rw[iD (by show 4+_<=_;omega)];rfl
  have el:(CK.map fun t=>PV.str (tx t))=[.str (tx [69,118,101,110]),.str (tx []),.str (tx [110,101,97,114]),.str (tx [117]),.str (tx [117,112,112]),.str (tx [105,110,10]),.str (tx [97,119,97,121,48]),.str (tx [110,101,97,114,101,115,116])]:=rfl;rw[el]at pk;have lw:R.ok (PV.tup [PV.str (tx (jn [dZ,w])),.str (tx [119,97,121])])=.ok (.tup [PV.str (tx (jn [dZ,w])),.str "way"]):=by rw[show(Str.ofString "way")=tx [119,97,121] by decide +kernel]
  generalize jn [dZ,w]=V at *;rw[<- lw];dsimp![z9,Ci,List.replicate,List.set,hc,F8,F9,OT,vL,pk,ad]
theorem mI(N:NE a b c d)(wd:Wd e f){cell:Int}:∃ t x due,z9 [.lst [.str (tx a),.str (tx b),.str (tx c),.str (tx d)],.int cell]=.ok (.tup [.str t,.str due])/\mL e f a b (.str t) x/\gd x due:=by
  have:cell%4=0\/cell%4=1\/cell%4=2\/cell%4=3:=by omega
  rcases this with h | h | h | h
  . obtain⟨_,t,rfl,q,r⟩:=TB (e:=e) (f:=f) N h;exact⟨t,9,_,q,r,.inl ⟨rfl,rfl⟩⟩
  . obtain⟨_,t,rfl,q,r⟩:=TC (e:=e) (f:=f) N wd h;exact⟨t,8,_,q,r,.inr (.inl ⟨rfl,rfl⟩)⟩
  . obtain⟨_,t,rfl,q,r⟩:=TF (e:=e) (f:=f) N wd h;exact⟨t,6,_,q,r,.inr (.inr (.inl ⟨rfl,rfl⟩))⟩
  . obtain⟨_,t,rfl,q,r⟩:=TH (a:=a) (b:=b) (c:=c) (d:=d) (e:=e) (f:=f) h;exact⟨t,3,_,q,r,.inr (.inr (.inr ⟨rfl,rfl⟩))⟩
end
theorem vT{S T:aI}{k i d x:Nat}{v:PV}(D:bX e f k i d z r L S)(av:bY (some v)=.ok v)(ho:eN (some v)=some v)(q:aS [aR k,v] S=.exc x T)(c:gd x due):zh [aR k,v,.str due] S=.ok (.bl true) T:=by
  have o1:=bO D.o ij;have s1:∀ s:Str,(s == s)=true:=fun s=>WM s
  have n1:(("row" : Str) == "name")=false/\(("row" : Str) == "text")=false/\(("row" : Str) == "way")=false/\(("name" : Str) == "row")=false/\(("name" : Str) == "text")=false/\(("name" : Str) == "way")=false/\(("text" : Str) == "row")=false/\(("text" : Str) == "name")=false/\(("text" : Str) == "way")=false/\(("way" : Str) == "row")=false/\(("way" : Str) == "name")=false/\(("way" : Str) == "text")=false:=by decide +kernel
  rcases c with⟨rfl,rfl⟩ | ⟨rfl,rfl⟩ | ⟨rfl,rfl⟩ | ⟨rfl,rfl⟩ <;>
    dsimp![zh,OH,List.replicate,List.set,ho,av,cQ o1,q,s1,n1]<;>rfl
section
variable {S T:aI}{k i d:Nat}{z:Str}{r e f:Int}{L:List (List Nat×Int)}
theorem bX.qw(h:bX e f k i d z r L S){n:Nat}{l:List PV}(hn:S[n]?=some (.ls l))(c:Cell):bX e f k i d z r L (S.set n c):=by
  refine⟨dN h.o fun q=>?_,dN h.s fun q=>?_,dN h.t fun q=>?_⟩
  . have:=h.o;rw[<- q,hn]at this;cases this
  . have:=h.s;rw[<- q,hn]at this;cases this
  . have:=h.t;rw[<- q,hn]at this;cases this
theorem Fr.qw{n:Nat}(hn:S.length<=n){U:aI}(h:Fr i d S U):Fr i d S (U.set n c):=fun j x h1 h2 h3=>by
  have:j<S.length:=(VS.mp h3).1;exact dN (h j x h1 h2 h3) (by omega)
theorem vU{w:List Nat}(lw:cn w=true)(w8:w.length<=8):Row [dj,w]:=⟨fun x hw=>by
    have:x=dj\/x=w:=by simpa using hw
    rcases this with rfl | rfl
    . decide
    . exact gb lw,by
    show(dj++32::w).length<=_;rw[VV,VT];show 4+_<=_
    omega⟩
theorem bits_add{w:List Nat}(w8:w.length<=8):ar (.str (tx [98,105,116,115,32])) (.str (tx w))=.ok (.str (tx (jn [dj,w]))):=by
  rw[iD (by show 5+_<=_;omega)];rfl
theorem vV{w:List Nat}(w8:w.length<=8):ar (.str (tx [100,114,111,112,32])) (.str (tx w))=.ok (.str (tx (jn [eI,w]))):=by
  rw[iD (by show 5+_<=_;omega)];rfl
theorem vW(D:bX e f k i d z r L S){w:List Nat}(lw:cn w=true)(w8:w.length<=8){x:Int}(hw:L.lookup w=some x){y:PV}(hy:eO [e∣f,.str (tx dj),.int x]=.ok y):aS [aR k,.str (tx (jn [dj,w]))] S=.ok y (S ++[.gone]) :=
  Cz D (vU lw w8) (by decide +kernel) (by decide +kernel) (by decide) (by decide +kernel) (by decide) hw hy
theorem CM(D:bX e f k i d z r L S){w:List Nat}(lw:cn w=true)(w8:w.length<=8)(hw:(L.lookup w).isSome=false):aS [aR k,.str (tx (jn [dj,w]))] S=.exc 8 S :=
  oq D (vU lw w8) (show fG dj 2=false by decide +kernel) (by decide +kernel) (by decide) (by decide +kernel) ⟨w,Wx.mpr rfl,hw⟩
theorem vX{w:List Nat}(lw:cn w=true)(w8:w.length<=8):Row [eI,w]:=⟨fun x hw=>by
    have:x=eI\/x=w:=by simpa using hw
    rcases this with rfl | rfl
    . decide
    . exact gb lw,by
    show(eI++32::w).length<=_;rw[VV,VT];show 4+_<=_
    omega⟩
theorem CN(D:bX e f k i d z r L S){w:List Nat}(lw:cn w=true)(w8:w.length<=8)(hw:(L.lookup w).isSome=false):aS [aR k,.str (tx (jn [eI,w]))] S=.exc 8 S:=by
  rw[oo D (vX lw w8) (show fG eI 2=false by decide +kernel) (by decide +kernel) (by decide) (by decide +kernel),vK D hw];rfl
theorem Ex(D:bX e f k i d z r L S){w:List Nat}(lw:cn w=true)(w8:w.length<=8){x:Int}(hw:L.lookup w=some x):∃ T,aS [aR k,.str (tx (jn [eI,w]))] S=.ok (.str "ok") T/\bX e f k i d z r (mG w L) T/\Fr i d S T:=by
  refine⟨_,?_,(D.app (T:=[.gone])).kv (mG w L),Fr.app.trans Fr.K5⟩;rw[oo D (vX lw w8) (show fG eI 2=false by decide +kernel) (by decide +kernel) (by decide) (by decide +kernel),Hn D hw];rfl
variable {a b c g:List Nat}
noncomputable def cH(a b c g:List Nat):PV:=.lst [.str (tx a),.str (tx b),.str (tx c),.str (tx g)]
theorem rQ(a b c g:List Nat):aB (cH a b c g) (.int 0)=.ok (.str (tx a))/\aB (cH a b c g) (.int 1)=.ok (.str (tx b))/\aB (cH a b c g) (.int 2)=.ok (.str (tx c))/\aB (cH a b c g) (.int 3)=.ok (.str (tx g)):=⟨rfl,rfl,rfl,rfl⟩
noncomputable def qx:GE:=cI 31 "say" (jQ aS) (bA 0) (aN (gP (ag ar (fC (.str "bits ")) (ag aB (ae 1) (ae 4)))) bK)
theorem LB(D:bX e f k i d z r L S){w:List Nat}(lw:cn w=true)(w8:w.length<=8){x:Int}(hw:L.lookup w=some x){t:Str}(hy:eO [e∣f,.str (tx dj),.int x]=.ok (.str t)){j:Int}(hj:aB (cH a b c g) (.int j)=.ok (.str (tx w)))(x2 x3:Option PV) :
    qx [some (aR k),some (cH a b c g),x2,x3,some (.int j)] S=.ok (.str t) (S ++[.gone]):=by
  have o1:=bO D.o ij;have ad:=bits_add w8
  have q:=vW D lw w8 hw hy;have nx:jQ aS [aR k,.str (tx (jn [dj,w]))] S=.ok (.str t) (S ++[.gone]):=by unfold jQ;rw[q]
  have av:bY (some (cH a b c g))=.ok (cH a b c g):=rfl;have ho:eN (some (cH a b c g))=some (cH a b c g):=rfl
  have l1:Str.ofString "bits "=tx [98,105,116,115,32]:=by decide +kernel
  generalize cH a b c g=W at *;dsimp![qx,av,ho,l1,hj,ad,cQ o1,nx]
theorem CO(D:bX e f k i d z r L S)(la:cn a=true)(a8:a.length<=8)(lb:cn b=true)(b8:b.length<=8){x y:Int}(ha:L.lookup a=some x)(hb:L.lookup b=some y){t1 t2:Str}(h1:eO [e∣f,.str (tx dj),.int x]=.ok (.str t1))
    (h2:eO [e∣f,.str (tx dj),.int y]=.ok (.str t2)) (x2 x3:Option PV):∃ T,iu 4 (eD (af ‹2› ax)) qx [some (aR k),some (cH a b c g),x2,x3] S=.ok (.lst [.str t1,.str t2]) T/\bX e f k i d z r L T/\Fr i d S T:=by
  have it:eD (af ‹2› ax) (hide [some (aR k),some (cH a b c g),x2,x3])=.ok [.int 0,.int 1]:=rfl;have D0:=D.app (T:=[Cell.ls []])
  have n0:(S ++[Cell.ls []])[S.length]?=some (Cell.ls []):=c6;have b1:=LB D0 la a8 ha h1 (rQ a b c g).1 x2 x3
  have D1:=D0.app (T:=[Cell.gone]);have n1:(S ++[Cell.ls []] ++[Cell.gone])[S.length]?=some (Cell.ls []):=eF n0
  have f1:Fr i d S (S ++[Cell.ls []] ++[Cell.gone]):=Fr.app.trans Fr.app;have D2:=D1.qw n1 (Cell.ls [.str t1])
  have n2:=rA (d:=Cell.ls [.str t1]) n1;have f2:Fr i d S ((S ++[Cell.ls []] ++[Cell.gone]).set S.length (Cell.ls [.str t1])):=f1.qw (VU _)
  have c1:∀ kk:aI->RS PV,lY S.length (.str t1) (S ++[Cell.ls []] ++[Cell.gone]) kk=kk ((S ++[Cell.ls []] ++[Cell.gone]).set S.length (Cell.ls [.str t1])):=fun kk=>by
    unfold lY;rw[n1];rfl
  generalize (S ++[Cell.ls []] ++[Cell.gone]).set S.length (Cell.ls [.str t1])=X at *;have b2:=LB D2 lb b8 hb h2 (rQ a b c g).2.1 x2 x3
  have D3:=D2.app (T:=[Cell.gone]);have n3:(X ++[Cell.gone])[S.length]?=some (Cell.ls [.str t1]):=eF n2
  have f3:Fr i d S (X ++[Cell.gone]):=f2.trans Fr.app;have c2:∀ kk:aI->RS PV,lY S.length (.str t2) (X ++[Cell.gone]) kk=kk ((X ++[Cell.gone]).set S.length (Cell.ls [.str t1,.str t2])):=fun kk=>by
    unfold lY;rw[n3];rfl
  have D4:=D3.qw n3 (Cell.ls [.str t1,.str t2]);have n4:=rA (d:=Cell.ls [.str t1,.str t2]) n3
  have f4:Fr i d S ((X ++[Cell.gone]).set S.length (Cell.ls [.str t1,.str t2])):=f3.qw (VU _);generalize (X ++[Cell.gone]).set S.length (Cell.ls [.str t1,.str t2])=Y at *;have c3:xC S.length Y=.ok (.lst [.str t1,.str t2]) (Y.set S.length Cell.gone):=by unfold xC;rw[n4];rfl
  refine⟨Y.set S.length Cell.gone,?_,D4.qw n4 Cell.gone,f4.qw (VU _)⟩;unfold iu;rw[it];show(match qx [some (aR k),some (cH a b c g),x2,x3,some (.int 0)] (S ++[Cell.ls []])with
    | .ok v S'=>lY S.length v S' (jP 4 qx [some (aR k),some (cH a b c g),x2,x3] S.length [.int 1])
    | _=>RS.stuck)=_
  rw[b1];show lY S.length (.str t1) _ _=_
  rw[c1];show(match qx [some (aR k),some (cH a b c g),x2,x3,some (.int 1)] X with
    | .ok v S'=>lY S.length v S' (jP 4 qx [some (aR k),some (cH a b c g),x2,x3] S.length [])
    | _=>RS.stuck)=_
  rw[b2];show lY S.length (.str t2) _ _=_
  rw[c2];exact c3
theorem Qr(o:PV->PV->R PV)(l l':List PV)(S:aI):tw o (.lst l) (.lst l') S=fz S (o (.lst l) (.lst l')):=rfl
theorem LC(o:PV->PV->R PV)(l l':Str)(S:aI):tw o (.str l) (.str l') S=fz S (o (.str l) (.str l')):=rfl
theorem tS(N:NE a b c g)(D:bX e f k i d z r L S){x y:Int}(ha:L.lookup a=some x)(hb:L.lookup b=some y)(hL:∀ w,w≠a->w≠b->(L.lookup w).isSome=false){t1 t2 m:Str}(h1:eO [e∣f,.str (tx dj),.int x]=.ok (.str t1))
    (h2:eO [e∣f,.str (tx dj),.int y]=.ok (.str t2)) (hm:z3 [.int r]=.ok (.str m)):∃ T,Co [aR k,cH a b c g,.lst [.str t1,.str t2],.int r] S=.ok (.bl true) T/\bX e f k i d z r L T/\Fr i d S T:=by
  obtain⟨T,cm,D1,f1⟩:=CO (c:=c) (g:=g) D N.la N.na N.lb N.nb ha hb h1 h2 (some (.lst [.str t1,.str t2])) (some (.int r));have cm:iu 4 (eD (af ‹2› ax)) (cI 31 "say" (jQ aS) (bA 0) (aN (gP (ag ar (fC (.str "bits ")) (ag aB (ae 1) (ae 4)))) bK)) [some (aR k),some (cH a b c g),some (.lst [.str t1,.str t2]),some (.int r)] S=.ok (.lst [.str t1,.str t2]) T:=cm
  refine⟨T,?_,D1,f1⟩;have o1:=bO D1.o ij
  have q:=Cy D1 hm;have r1:=vT (v:=.str (tx (jn [dj,c]))) D1 rfl rfl (CM D1 N.lc N.nc (hL _ N.ca N.cb)) (.inr (.inl ⟨rfl,rfl⟩))
  have r2:=vT (v:=.str (tx (jn [eI,g]))) D1 rfl rfl (CN D1 N.ld N.nd (hL _ N.da N.db)) (.inr (.inl ⟨rfl,rfl⟩));have Ga:=bits_add N.nc
  have Gb:=vV N.nd;have l1:Str.ofString "bits "=tx [98,105,116,115,32]:=by decide +kernel
  have l2:Str.ofString "drop "=tx [100,114,111,112,32]:=by decide +kernel
  rw[<- l1]at Ga;rw[<- l2]at Gb;have n1:hU (.lst [.str t1,.str t2]) (.lst [.str t1,.str t2])=.ok (.bl false):=by dsimp![WM,Yy,W0]
  have n2:hU (.str m) (.str m)=.ok (.bl false):=by dsimp![WM,W0]
  obtain⟨_,_,i2,i3⟩:=rQ a b c g;have av:bY (some (cH a b c g))=.ok (cH a b c g):=rfl
  have ho:eN (some (cH a b c g))=some (cH a b c g):=rfl;generalize cH a b c g=W at *;generalize jn [dj,c]=V1 at *;generalize jn [eI,g]=V2 at *;dsimp![Co,OI,List.replicate,cm,Qr,LC,n1,n2,lits.2.1,cQ o1,q,hm,av,ho,i2,i3,Ga,Gb,r1,r2]
end
end Dk
namespace Cm
open PySem Mi PySem.NumText
theorem MB{e f p B:Int}{under:Bool}(h:Wd e f)(hB:0<B):Af e f p 0 B under 0 0:=by
  obtain⟨m1,m3,_,_,_⟩:=kH h;have s0:br f 0=0:=kI (aY f)
  have s1:0<br f 1:=by have:=rL (f:=f) (u:=0) (v:=1) (by decide) (by decide);omega
  have sS:0<br f (eS e f):=by have:=rL (f:=f) (u:=0) (v:=eS e f) (by decide) (by omega);omega
  have b1:=Xz s1 hB;have bS:=Xz sS hB
  have TJ:hz f 0=0:=VP rfl;refine .inr (.inr ⟨by omega,by omega,bS,.inl (by rw[s0,XD]),?_⟩);simp only[s0,TJ,XD,XE,Int.mul_zero];refine⟨fun _=>⟨fun _=>by omega,fun _=>by omega⟩,fun _=>⟨fun _=>by omega,fun _=>by omega⟩,fun _=>by omega,fun _=>⟨fun _=>⟨by omega,?_⟩,fun c=>absurd rfl c⟩,fun _=>⟨by omega,?_⟩,by simp⟩
  . omega
  . omega
section
variable {e f p:Int}{z:Str}{k:Nat}{l:List Nat}
theorem CP{b:Bool}{w:Nat}{t:Int}(h:Wd e f)(wk:fU p z k)(hl:l.length<=16000000)(hp:hG l=some (b,w,t))(t0 : -2300<=t)(t1:t<=2300)
    (wb:nb ((w:Int)*dI t)<=5000) (wc:nb w<=5000) (db:nb (dI (-t))<=3900) :
    ∃ sz mk,cA [e∣f,.str (tx l),.str z]=.ok (.tup [.int (sz+sg b*p2 (e+f)),.int mk])/\Af e f p ((w:Int)*dI t*p2 (-(lp e f))) (dI (-t)) b sz mk:=by
  obtain⟨l1,l2,l3,l4⟩:=jI h;have hd:=l7 (-t)
  by_cases w0:w=0
  . subst w0;refine⟨0,0,?_,?_⟩
    . rw[tQ h wk hl hp,XE]
    . have:((0:Nat):Int)*dI t*p2 (-(lp e f))=0:=by simp
      rw[this];exact MB h hd
  . have s0:0<(w:Int)*dI t:=Xz (by omega) (l7 t);obtain⟨T,q,a,c,st⟩:=Lk (s:=(w:Int)*dI t) (k:=0) (d:=dI (-t)) h s0 hd wb db (by decide) (by decide);have L:=Hz (M:=(w:Int)*dI t*p2 (-(lp e f))) (B:=dI (-t)) st hd hd (by
      rw[show lp e f - 0=lp e f by omega,show 0 - lp e f = -(lp e f) by omega,dW (a:=lp e f) (by omega),Xj])
    obtain⟨sz,mk,ek,V⟩:=Qn (under:=b) h wk st.t0 st.q0 st.q1 st.qt hd (yf a c) L;refine⟨sz,mk,?_,V⟩;refine vR h hl hp (by omega) t0 t1 wc ?_;rw[<- ek];cases b with
    | true =>
      have e1:(if true=true then -(w:Int) else w)*dI t = -((w:Int)*dI t):=by rw[VP rfl,Int.neg_mul]
      rw[e1];have tk:=sx (n:=-((w:Int)*dI t)) h wk (by omega) hd (by rw[rn];omega) db (by rw[Hu,Ae (by omega)];exact st)
      rw[VX (by omega)]at tk;exact tk
    | false =>
      have e1:(if false=true then -(w:Int) else w)*dI t=(w:Int)*dI t:=by rw[VQ (by decide)]
      rw[e1];have tk:=sx (n:=(w:Int)*dI t) h wk (by omega) hd (by omega) db (by rw[Ae (by omega)];exact st)
      rw[V3 (by omega)]at tk;exact tk
end
theorem HF{e f p M B sz mk u:Int}{under:Bool}(hB:0<B)(V:Af e f p M B under sz mk)(u0:0<=u)(u1:u<eS e f)(hM:br f u*B=M):sz=u/\mk=0:=by
  have sl:∀ x y:Int,0<=x->x<y->br f x*B<br f y*B:=fun x y hx tO=>Wq (rL hx tO) hB;have sle:∀ x y:Int,0<=x->x<=y->br f x*B<=br f y*B:=fun x y hx tO=>by
    by_cases c:x=y
    . rw[c];exact ZW _
    . exact Wn (sl x y hx (by omega))
  have a1:=sle u (eS e f - 1) u0 (by omega);have a2:=sl (eS e f - 1) (eS e f) (by omega) (by omega)
  have ad:∀ x y:Int,(x+y)*B=x*B+y*B:=fun x y=>XB x y B;rcases V with⟨x1,x2,x3⟩ | ⟨x1,x2,x3,x4⟩ | ⟨x1,x2,x3,x4,x5,x6,x7,x8,x9,JJ⟩
  . exfalso;by_cases c:p=0\/p=1
    . rw[VP c]at x3;have:=Wv x3
      rw[ad]at this;omega
    . rw[VQ c]at x3;by_cases c2:p=2
      . rw[VP c2]at x3;cases x3
      . rw[VQ c2]at x3;by_cases c3:p=3
        . rw[VP c3,VR]at x3;have:=Wv x3.2
          omega
        . rw[VQ c3,VR]at x3;have:=Wv x3.2
          omega
  . exfalso;omega
  . rcases x4 with x4 | ⟨x4,y1,y2⟩
    . have:sz=u:=by
        apply WC;intro c;rcases Int.lt_or_gt_of_ne c with d | d
        . have:=sl sz u x1 d;omega
        . have:=sl u sz u0 d;omega
      exact⟨this,by rw[JJ,VP x4]⟩
    . exfalso;rcases Int.lt_trichotomy u sz with d | d | d
      . have wY:hz f sz=br f (sz - 1):=VQ (by omega);rw[wY]at y1;have:=sle u (sz - 1) u0 (by omega)
        omega
      . subst d;exact x4 hM
      . have:=sle (sz+1) u (by omega) (by omega);omega
theorem Ah{e f p u:Int}{k:Nat}{l:List Nat}{b:Bool}{w:Nat}{t:Int}(h:Wd e f)(wk:fU p z k)(hl:l.length<=16000000)(hp:hG l=some (b,w,t))(t0 : -2300<=t)(t1:t<=2300)
    (wb:nb ((w:Int)*dI t)<=5000) (wc:nb w<=5000) (db:nb (dI (-t))<=3900) (u0:0<=u) (u1:u<eS e f) (hM:br f u*dI (-t)=(w:Int)*dI t*p2 (-(lp e f))) :
    cA [e∣f,.str (tx l),.str z]=.ok (.tup [.int (u+sg b*p2 (e+f)),.int 0]):=by
  obtain⟨sz,mk,er,V⟩:=CP h wk hl hp t0 t1 wb wc db;obtain⟨e1,e2⟩:=HF (l7 (-t)) V u0 u1 hM;rw[er,e1,e2]
end Cm
namespace K93
open PySem Mi Cm Dk
noncomputable def O6:R PV->Bool
  | .ok (.str _)=>true
  | _=>false
theorem MD:∀ n:Fin 32,O6 (z3 [.int (n.val:Int)])=true:=by decide +kernel
theorem vY{m:Int}(h0:0<=m)(h1:m<32):∃ y:Str,z3 [.int m]=.ok (.str y):=by
  have:=MD ⟨m.toNat,by omega⟩;have e:((m.toNat:Nat):Int)=m:=by omega
  simp only[e]at this;unfold O6 at this;split at this
  . next y q=>exact⟨y,q⟩
  . cases this
noncomputable def O7:R PV->Bool
  | .ok (.str y)=>y == "clean"
  | _=>false
theorem TK:O7 (z3 [.int 0])=true:=by decide +kernel
theorem clean:z3 [.int 0]=.ok (.str "clean"):=by
  have:=TK;unfold O7 at this;split at this
  . next y q=>rw[q,eq_of_beq this]
  . cases this
theorem Ey{m:Int}(h:0<=m):Builtin.bitOr 0 m=m:=by
  rw[qu (by decide) h];show((0 ||| m.toNat:Nat):Int)=m
  rw[Nat.zero_or];omega
theorem Qs{m:Int}(h:0<=m):Builtin.bitOr m 0=m:=by
  rw[qu h (by decide)];show((m.toNat ||| 0:Nat):Int)=m
  rw[Nat.or_zero];omega
theorem O8(i j:Nat)(ρ:ay)(x y:PV)(S:aI):E2 [i,j] ρ (.tup [x,y]) S=.next ((ρ.set i (some x)).set j (some y)) S:=rfl
theorem LD(h:Wu e f s u):0<=u+s*p2 (e+f)/\u+s*p2 (e+f)<p2 (1+e+f):=by
  obtain⟨⟨h1,h2,h3,h4⟩,hs,h5,h6⟩:=h;have pp:=aY (e+f)
  have e1:p2 (1+e+f)=2*p2 (e+f):=by rw[show 1+e+f=(e+f)+1 by omega,fq (by omega)]
  rcases hs with rfl | rfl<;>omega
noncomputable def Mx(c:Int):Int:=c*414213562373095048801689%1000000000000000000000007
theorem Aa(c:Int):c*414213562373095048801689%1000000000000000000000007=Mx c:=rfl
theorem HG{k:Nat} (h:Wd e f) (wk:fU p z k):∃ x,(0<=x/\x<p2 (1+e+f))/\∀{p:Int}{z:Str}{k:Nat},fU p z k->cA [e∣f,.str (tx [45,49]),.str z]=.ok (x∣0):=by
  obtain⟨m1,m3,p3,p4,p7⟩:=kH h;obtain⟨l1,l2,l3,l4⟩:=jI h;obtain⟨h1,h2,h3,h4⟩:=h;have hd:Wd e f:=⟨h1,h2,h3,h4⟩
  have pf:=aY f;generalize hB:p2 (e - 1) - 1=B at *;have eE:p2 e=2*p2 (e - 1):=by
    have:p2 e=p2 ((e - 1)+1):=by congr 1;omega
    rw[this,fq (by omega)]
  have u0:0<=B*p2 f:=WK (by omega) (by omega);have u1:B*p2 f<eS e f:=by
    have a1:p2 (e+f)=p2 e*p2 f:=gM (by omega) (by omega);have a2:eS e f=(2*B+1)*p2 f:=by
      have:p2 e*p2 f=eS e f+p2 f:=by rw[<- a1];exact m1
      rw[eE,show p2 (e - 1)=B+1 by omega]at this
      have:(2*(B+1))*p2 f=(2*B+1)*p2 f+p2 f:=by rw[show 2*(B+1)=2*B+1+1 by omega,XB (2*B+1) 1,W4]
      omega
    rw[a2];exact Wq (by omega) pf
  have st:br f (B*p2 f)=p2 (-(lp e f)):=by
    unfold br;have b1:1<=B:=by omega
    have:p2 f<=B*p2 f:=by
      have:=V7 b1 (show 0<=p2 f by omega);omega
    rw[VQ (by omega),Int.mul_emod_left,Int.mul_ediv_cancel _ (by omega),XE,<- gM (by omega) (by omega)];congr 1;unfold lp;omega
  have hw:Wu e f 1 (B*p2 f):=⟨hd,.inr rfl,u0,by omega⟩;have rd:∀{p:Int}{z:Str}{k:Nat},fU p z k->cA [e∣f,.str (tx [45,49]),.str z]=.ok (.tup [.int (B*p2 f+1*p2 (e+f)),.int 0]):=fun{p z k} wk=>by
    have:=Ah (u:=B*p2 f) (l:=[45,49]) (b:=true) (w:=1) (t:=0) hd wk (by decide) (by decide +kernel) (by decide) (by decide) (Wh (dP (k:=10) (by decide)) (by decide)) (Wh (dP (k:=10) (by decide)) (by decide)) (Wh (dP (k:=10) (by decide)) (by decide)) u0 u1 (by rw[st];simp[dI]);exact this
  exact⟨_,LD hw,rd⟩
section
variable {a b c g:List Nat}{e f r x y:Int}{k i d:Nat}{z:Str}{L:List (List Nat×Int)}{t1 t2 m:Str}{S:aI}
structure St(a b c g:List Nat)(e f r x y:Int)(z:Str)(L:List (List Nat×Int))(t1 t2 m:Str):Prop where
  N:NE a b c g
  wd:Wd e f
  wy:∃ v,bP [.str z]=.ok v
  ha:L.lookup a=some x
  hb:L.lookup b=some y
  hL:∀ w,w≠a->w≠b->(L.lookup w).isSome=false
  h1:eO [e∣f,.str (tx dj),.int x]=.ok (.str t1)
  h2:eO [e∣f,.str (tx dj),.int y]=.ok (.str t2)
  hm:z3 [.int r]=.ok (.str m)
theorem MH(H:St a b c g e f r x y z L t1 t2 m)(D:bX e f k i d z r L S)(hc:nb cell<=1048576)(x0 x1 x2 x4 x8 x9 jJ:Option PV):∃ y8 vZ T,zv [x0,x1,x2,some (cH a b c g),x4,some (aR k),some (.lst [.str t1,.str t2]),some (.int cell),x8,x9,some (.int r),jJ] S =
    .next [x0,x1,x2,some (cH a b c g),x4,some (aR k),some (.lst [.str t1,.str t2]),some (.int cell),y8,x9,some (.int r),vZ] T/\bX e f k i d z r L T:=by
  have om:=Mr hc;have eq:=Aa cell
  generalize Mx cell=M at *;obtain⟨t,xx,due,wr,rf,cl⟩:=mI (e:=e) (f:=f) (cell:=M) H.N H.wd;obtain⟨v,wy⟩:=H.wy;obtain⟨T,s1,D1,f1⟩:=rf D wy H.hL;have r1:=vT D rfl rfl s1 cl
  obtain⟨T2,ab,D2,f2⟩:=tS H.N D1 H.ha H.hb H.hL H.h1 H.h2 H.hm;refine⟨some (.str t),some (.str due),T2,?_,D2⟩;have av:bY (some (cH a b c g))=.ok (cH a b c g):=rfl
  have ho:eN (some (cH a b c g))=some (cH a b c g):=rfl;have wr:z9 [cH a b c g,.int M]=.ok (.tup [.str t,.str due]):=wr
  generalize cH a b c g=W at *;dsimp![zv,List.set,av,ho,om,FZ,F0,eq,wr,O8,r1,ab,W0]
theorem Gd(H:St a b c g e f r x y z L t1 t2 m)(x0 x1 x2 x4 x9:Option PV):∀(l:List Int)(x7 x8 jJ:Option PV){S:aI},bX e f k i d z r L S->(∀ n∈l,nb n<=1048576)->∃ y7 y8 vZ T,dB 7 zv (l.map PV.int) [x0,x1,x2,some (cH a b c g),x4,some (aR k),some (.lst [.str t1,.str t2]),x7,x8,x9,some (.int r),jJ] S =
    .next [x0,x1,x2,some (cH a b c g),x4,some (aR k),some (.lst [.str t1,.str t2]),y7,y8,x9,some (.int r),vZ] T/\bX e f k i d z r L T
  | [],x7,x8,jJ,S,D,_=>⟨x7,x8,jJ,S,rfl,D⟩
  | n::l,x7,x8,jJ,S,D,hl=>by
    obtain⟨y8,vZ,T,q,D1⟩:=MH H D (hl n Wf) x0 x1 x2 x4 x8 x9 jJ;obtain⟨z7,z8,TL,U,q2,D2⟩:=Gd H x0 x1 x2 x4 x9 l (some (.int n)) y8 vZ D1 fun j hj=>hl j (V6 _ hj);refine⟨z7,z8,TL,U,?_,D2⟩;rw[VZ,oM];show BZ 7 zv (l.map PV.int) (zv [x0,x1,x2,some (cH a b c g),x4,some (aR k),some (.lst [.str t1,.str t2]),some (.int n),x8,x9,some (.int r),jJ] S)=_
    rw[q];exact q2
theorem MJ(H:St a b c g e f r x y z L t1 t2 m)(D:bX e f k i d z r L S){v:PV}(av:bY (some v)=.ok v)(hv:eN (some v)=some v)(ht:dG v .str=some false)(x0 x1 x2 x4 x7 x9 jJ:Option PV):∃ T,zw [x0,x1,x2,some (cH a b c g),x4,some (aR k),some (.lst [.str t1,.str t2]),x7,some v,x9,some (.int r),jJ] S =
    .next [x0,x1,x2,some (cH a b c g),x4,some (aR k),some (.lst [.str t1,.str t2]),x7,some v,x9,some (.int r),jJ] T/\bX e f k i d z r L T:=by
  have r1:=vT (due:="row") D av hv (K7 av hv ht) (.inl ⟨rfl,rfl⟩);obtain⟨T2,ab,D2,f2⟩:=tS H.N D H.ha H.hb H.hL H.h1 H.h2 H.hm;refine⟨T2,?_,D2⟩;have aw:bY (some (cH a b c g))=.ok (cH a b c g):=rfl
  have ho:eN (some (cH a b c g))=some (cH a b c g):=rfl;generalize cH a b c g=W at *;dsimp![zw,List.set,av,hv,aw,ho,r1,ab,W0]
theorem Ge(H:St a b c g e f r x y z L t1 t2 m)(x0 x1 x2 x4 x7 x9 jJ:Option PV):∀(l:List PV)(x8:Option PV){S:aI},bX e f k i d z r L S->(∀ v∈l,bY (some v)=.ok v/\eN (some v)=some v/\dG v .str=some false)->∃ y8 T,dB 8 zw l [x0,x1,x2,some (cH a b c g),x4,some (aR k),some (.lst [.str t1,.str t2]),x7,x8,x9,some (.int r),jJ] S =
    .next [x0,x1,x2,some (cH a b c g),x4,some (aR k),some (.lst [.str t1,.str t2]),x7,y8,x9,some (.int r),jJ] T/\bX e f k i d z r L T
  | [],x8,S,D,_=>⟨x8,S,rfl,D⟩
  | v::l,x8,S,D,hl=>by
    obtain⟨a1,a2,a3⟩:=hl v Wf;obtain⟨T,q,D1⟩:=MJ H D a1 a2 a3 x0 x1 x2 x4 x7 x9 jJ;obtain⟨z8,U,q2,D2⟩:=Ge H x0 x1 x2 x4 x7 x9 jJ l (some v) D1 fun j hj=>hl j (V6 _ hj);refine⟨z8,U,?_,D2⟩;rw[oM];show BZ 8 zw l (zw [x0,x1,x2,some (cH a b c g),x4,some (aR k),some (.lst [.str t1,.str t2]),x7,some v,x9,some (.int r),jJ] S)=_
    rw[q];exact q2
theorem Ez{w t:List Nat}(lw:cn w=true)(w8:w.length<=8)(ht:32 ∉ t)(t8:t.length<=8):Row [cM,w,t]:=⟨fun x hw=>by
    have:x=cM\/x=w\/x=t:=by simpa using hw
    rcases this with rfl | rfl | rfl
    . decide
    . exact gb lw
    . exact ht,by
    show(cM++32::(w++32::t)).length<=_;rw[VV,VT,VV,VT];show 4+_<=_
    omega⟩
theorem qy(D:bX e f k i d z r L S)(wd:Wd e f){v:PV}(hy:bP [.str z]=.ok v){w t:List Nat}(lw:cn w=true)(w0:w≠[])(w8:w.length<=8)(ht:32 ∉ t)(t8:t.length<=8)(hl:L.length<900){x n:Int}(n0:0<=n)(hr:cA [e∣f,.str (tx t),.str z]=.ok (x∣n))
    {m:Str} (hm:z3 [.int n]=.ok (.str m)):∃ T,aS [aR k,.str (tx (jn [cM,w,t]))] S=.ok (.str m) T/\bX e f k i d z (Builtin.bitOr r n) (putL w x L) T:=by
  rw[qr D (Ez lw w8 ht t8) (show fG cM 3=false by decide +kernel) (by decide +kernel)];obtain⟨T,q,D1,_⟩:=Hl D wd hy (j9 lw w0 w8) (by omega) hl hr (by rw[Ey n0];exact hm);rw[Ey n0]at D1;exact⟨T,q,D1⟩
theorem qz{w t:List Nat}(w8:w.length<=8)(t8:t.length<=8):ar (.str (tx [107,101,101,112,32])) (.str (tx w))=.ok (.str (tx ([107,101,101,112,32]++w)))/\ar (.str (tx ([107,101,101,112,32]++w))) (.str (tx (32::t)))=.ok (.str (tx (jn [cM,w,t]))):=by
  refine⟨iD (by show 5+_<=_;omega),?_⟩;rw[iD (by simp;omega)];show R.ok (PV.str (tx _))=R.ok (PV.str (tx (cM++32::(w++32::t))))
  congr 3
theorem tT(w:List Nat):∀ L:List (List Nat×Int),((mG w L).lookup w).isSome=false
  | []=>rfl
  | (u,x)::L=>by
    unfold mG;rw[Yd];have ih:=tT w L
    by_cases q:u=w
    . rw[VQ (by simp[q])];exact ih
    . rw[VP (by simp[q]),Wa,Wr.mpr (Xb q)];exact ih
theorem Qt:Str.ofString "keep "=tx [107,101,101,112,32]/\Str.ofString " 0.1"=tx (32::[48,46,49])/\Str.ofString " -1"=tx (32::[45,49])/\Str.ofString " -0.1"=tx (32::[45,48,46,49])/\Str.ofString "way "=tx [119,97,121,32]/\Str.ofString "bits "=tx [98,105,116,115,32]/\Str.ofString "drop "=tx [100,114,111,112,32]/\Str.ofString "show "=tx [115,104,111,119,32] /\
    Str.ofString "0.1"=tx [48,46,49]/\Str.ofString "-1"=tx [45,49]/\Str.ofString "-0.1"=tx [45,48,46,49]:=by and_intros<;>decide +kernel
theorem MK{k:Nat} (wk:fU p z k):∃ l,z=tx l/\32 ∉ l/\l.length<=8:=by
  obtain⟨l1,l2,l3,l4,l5⟩:=CL;rcases wk with⟨_,rfl,_⟩ | ⟨_,rfl,_⟩ | ⟨_,rfl,_⟩ | ⟨_,rfl,_⟩ | ⟨_,rfl,_⟩
  . exact⟨_,l1,by decide,by decide⟩
  . exact⟨_,l2,by decide,by decide⟩
  . exact⟨_,l3,by decide,by decide⟩
  . exact⟨_,l4,by decide,by decide⟩
  . exact⟨_,l5,by decide,by decide⟩
theorem HH(D:bX e f k i d z r L S){w:List Nat}{v:PV}(hy:bP [.str (tx w)]=.ok v)(wf:32 ∉ w)(w8:w.length<=8):∃ T,aS [aR k,.str (tx (jn [dZ,w]))] S=.ok (.str "ok") T/\bX e f k i d (tx w) r L T:=by
  have R:Row [dZ,w]:=⟨fun x hw=>by
    have:x=dZ\/x=w:=by simpa using hw
    rcases this with rfl | rfl
    . decide
    . exact wf,by
    show(dZ++32::w).length<=_;rw[VV,VT];show 3+_<=_
    omega⟩
  refine⟨_,?_,D.sl (tx w) r⟩;rw[oo D R (show fG dZ 2=false by decide +kernel) (by decide +kernel) (by decide) (by decide +kernel),K9 D hy];rfl
theorem CQ(D:bX e f k i d z r L S){w:List Nat}(lw:cn w=true)(w8:w.length<=8)(hw:(L.lookup w).isSome=false):aS [aR k,.str (tx (jn [jv,w]))] S=.exc 8 S:=by
  have R:Row [jv,w]:=⟨fun x hw=>by
    have:x=jv\/x=w:=by simpa using hw
    rcases this with rfl | rfl
    . decide
    . exact gb lw,by
    show(jv++32::w).length<=_;rw[VV,VT];show 4+_<=_
    omega⟩
  exact oq D R (show fG jv 2=false by decide +kernel) (by decide +kernel) (by decide) (by decide +kernel) ⟨w,Wx.mpr rfl,hw⟩
end
theorem CS{k:Nat} (h:Wd e f) (wk:fU p z k) {l:List Nat}{b:Bool} (hl:l.length<=100) (hp:hG l=some (b,1,-1)):∃ x m,cA [e∣f,.str (tx l),.str z]=.ok (x∣m)/\(0<=x/\x<p2 (1+e+f))/\0<=m/\m<32:=by
  obtain⟨s,u,m,q,hw,m0,m1⟩:=An.HE h wk (by omega) hp (by decide) (by decide) (Wh (dP (k:=10) (by decide)) (by decide));exact⟨_,m,q,LD hw,m0,m1⟩
theorem TM:(∀ v∈([.aU,.int 5,.bl true,.lst [.str "wipe"],.tup [.str "marks"]]:List PV),bY (some v)=.ok v/\eN (some v)=some v/\dG v .str=some false):=by
  intro v hv;simp only[WD,Ye,or_false]at hv;rcases hv with rfl | rfl | rfl | rfl | rfl<;>exact⟨rfl,rfl,rfl⟩
theorem holds:∀ ns:List Int,ns.length<=63->(∀ x∈ns,nb x<=1048576)->∃ S,q_law_v93 [.lst (ns.map PV.int)] []=.ok (.bl true) S:=by
  intro ns hlen uK;have TN:=OK ns 0 (by decide)
  have TP:=OK ns 1 (by decide);have n1:nb (ns.getD (1:Int).toNat 0)<=1048576:=by
    by_cases q:(1:Int).toNat<ns.length
    . rw[XI,V9 q];exact uK _ (Zu q)
    . rw[XI,WQ (by omega)];exact Wh (dP (a:=0) (k:=10) (by decide)) (by decide)
  obtain⟨e,f,wd,hw⟩:=SF (ns.getD (0:Int).toNat 0);have wo:=OL hw
  obtain⟨M,n,A,Gf,n8,hA,nq⟩:=SU n1;generalize ns.getD (0:Int).toNat 0=c0 at *;generalize ns.getD (1:Int).toNat 0=c1 at *;have TQ:0<=c1%5:=Wy _ (by decide)
  have OV:c1%5<5:=WE _ (by decide);obtain⟨z,kk,wk⟩:=Ef TQ OV;obtain⟨wy,wi⟩:=uy wk;have we:fU 0 "even" 21:=.inl ⟨rfl,rfl,rfl⟩
  have TR:=(uy we).1;obtain⟨zl,rfl,z1,z2⟩:=MK wk;obtain⟨k1,k2,k3,k4,k5,k6,k7,k8,k9,TU,TV⟩:=Qt;have g0:=ux (M:=M) (A:=A) (k:=0) Gf n8
  have g1:=ux (M:=M) (A:=A) (k:=1) Gf n8;have g2:=ux (M:=M) (A:=A) (k:=2) Gf n8
  have g3:=ux (M:=M) (A:=A) (k:=3) Gf n8;have ne:∀{i j:Nat},i<4->j<4->i≠j->dH M n A i≠dH M n A j:=fun hi hj h=>Mn hA hi hj h
  have O9:=ne (i:=1) (j:=0) (by decide) (by decide) (by decide);have LF:=ne (i:=2) (j:=0) (by decide) (by decide) (by decide)
  have LG:=ne (i:=2) (j:=1) (by decide) (by decide) (by decide);have TX:=ne (i:=3) (j:=0) (by decide) (by decide) (by decide)
  have TY:=ne (i:=3) (j:=1) (by decide) (by decide) (by decide);clear ne;generalize dH M n A 0=a at *;generalize dH M n A 1=b at *;generalize dH M n A 2=c at *;generalize dH M n A 3=g at *;have nn:∀{w:List Nat},w.length=n->w≠[]:=fun h q=>by rw[q]at h;simp at h;omega
  have N:NE a b c g:=⟨g0.2.1,g1.2.1,g2.2.1,g3.2.1,by omega,by omega,by omega,by omega,nn g0.2.2,nn g1.2.2,nn g2.2.2,nn g3.2.2,LF,LG,TX,TY⟩;obtain⟨x,m,r1,xw,m0,m1⟩:=CS hw wk (l:=[48,46,49]) (b:=false) (by decide) (by decide +kernel);obtain⟨y,yw,r2⟩:=HG hw wk;obtain⟨x4,m4,r4,Pa,Pb,TZ⟩:=CS hw wk (l:=[45,48,46,49]) (b:=true) (by decide) (by decide +kernel);obtain⟨mm,hm⟩:=vY m0 m1;obtain⟨VM,Pc⟩:=vY Pb TZ;obtain⟨t1,b1,T7⟩:=ot hw xw.1 xw.2;obtain⟨t2,b2,T9⟩:=ot hw yw.1 yw.2;obtain⟨t4,b4,Ua⟩:=ot hw Pa.1 Pa.2;obtain⟨T0,di,D0,_⟩:=Hh (S:=[]) hw TR;have di:Ck [aR 0,e∣f] [.obj 31 []]=.ok .aU T0:=di
  have D0:bX e f 0 1 2 "even" 0 [] T0:=D0;have o0:=bO D0.o ij
  obtain⟨T1,s1,D1⟩:=HH D0 wy z1 z2;have o1:=bO D1.o ij
  obtain⟨T2,s2,D2⟩:=qy D1 hw wy N.la N.pa N.na (t:=[48,46,49]) (by decide) (by decide) (by decide) m0 r1 hm;rw[Ey m0]at D2;have o2:=bO D2.o ij
  have p1:putL a x []=[(a,x)]:=rfl;rw[p1]at D2;obtain⟨T3,s3,D3⟩:=qy D2 hw wy N.lb N.pb N.nb (t:=[45,49]) (by decide) (by decide) (by show 1<900;decide) (by decide) (r2 wk) clean;rw[Qs m0]at D3;have o3:=bO D3.o ij
  have Ub:([(a,x)]:List (List Nat×Int)).lookup b=none:=by rw[Wa,Wr.mpr O9];rfl
  have Uc:putL b y [(a,x)]=[(a,x),(b,y)]:=by unfold putL;rw[Ub];rfl
  rw[Uc]at D3;have H:St a b c g e f m x y (tx zl) [(a,x),(b,y)] t1 t2 mm:=by
    refine⟨N,hw,⟨_,wy⟩,?_,?_,fun w h1 h2=>?_,b1,b2,hm⟩
    . rw[Wa,WM]
    . rw[Wa,Wr.mpr O9,Wa,WM]
    . rw[Wa,Wr.mpr h1,Wa,Wr.mpr h2];rfl
  have Qu:∃ l:List Int,jM (ns.map PV.int) (some 2) (some 14)=l.map PV.int/\∀ x∈l,nb x<=1048576:=by
    unfold jM;refine⟨(ns.drop (fH (ns.map PV.int).length 0 (some 2))).take (fH (ns.map PV.int).length (ns.map PV.int).length (some 14) - fH (ns.map PV.int).length 0 (some 2)),by rw[List.map_take,List.map_drop],fun x hx=>uK x (List.mem_of_mem_drop (List.mem_of_mem_take hx))⟩
  obtain⟨l,ec,hl⟩:=Qu;obtain⟨y7,y8,vZ,T4,Ud,D4⟩:=Gd H (some (.lst (ns.map PV.int))) (some (e∣f)) (some (e∣f)) (some (.str (tx zl))) (some (.int x)) l none none none D3 hl;obtain⟨z8,T5,Ue,D5⟩:=Ge H (some (.lst (ns.map PV.int))) (some (e∣f)) (some (e∣f)) (some (.str (tx zl))) y7 (some (.int x)) vZ _ y8 D4 TM;have o5:=bO D5.o ij
  obtain⟨T6,s6,D6⟩:=qy D5 hw wy N.lc N.pc N.nc (t:=[45,48,46,49]) (by decide) (by decide) (by show 2<900;decide) Pb r4 Pc;have o6:=bO D6.o ij
  have pc:putL c x4 [(a,x),(b,y)]=[(a,x),(b,y),(c,x4)]:=by unfold putL;rw[H.hL c LF LG];rfl
  rw[pc]at D6;have lc:([(a,x),(b,y),(c,x4)]:List (List Nat×Int)).lookup c=some x4:=by rw[Wa,Wr.mpr LF,Wa,Wr.mpr LG,Wa,WM]
  have s7:=vW D6 N.lc N.nc lc b4;have D7:=D6.app (T:=[.gone])
  have o7:=bO D7.o ij;obtain⟨T8,s8,D8,_⟩:=Ex D7 N.lc N.nc lc;have rf:=vT (v:=.str (tx (jn [jv,c]))) D8 rfl rfl (CQ D8 N.lc N.nc (tT c _)) (.inr (.inl ⟨rfl,rfl⟩))
  have ka:=qz (t:=[48,46,49]) N.na (by decide);have kb:=qz (t:=[45,49]) N.nb (by decide)
  have kc:=qz (t:=[45,48,46,49]) N.nc (by decide);rw[<- k1,<- k2]at ka;rw[<- k1,<- k3]at kb;rw[<- k1,<- k4]at kc;have kw:ar (.str "way ") (.str (tx zl))=.ok (.str (tx (jn [dZ,zl]))):=by rw[k5,iD (by show 4+_<=_;omega)];rfl
  have Pd:=bits_add N.nc;rw[<- k6]at Pd;have Pe:=vV N.nc
  rw[<- k7]at Pe;have Ug:ar (.str "show ") (.str (tx c))=.ok (.str (tx (jn [jv,c]))):=by rw[k8,iD (by have:=N.nc;show 5+_<=_;omega)];rfl
  rw[<- k9]at r1;rw[<- TV]at r4;have Pf:=r2 we
  rw[<- TU]at Pf;have nq:Cg [.int c1]=.ok (cH a b c g):=nq
  obtain⟨i0,i1,i2,i3⟩:=rQ a b c g;have av:bY (some (cH a b c g))=.ok (cH a b c g):=rfl
  have ho:eN (some (cH a b c g))=some (cH a b c g):=rfl;refine⟨T8,?_⟩;have Uh:gW 5:=show(0:Int)<5 by decide
  have oc:lz (.lst (ns.map PV.int)) (some 2) (some 14)=.ok (.lst (l.map PV.int)):=by show R.ok (PV.lst (jM _ _ _))=_;rw[ec]
  have df:dflt cA [.str "even"] [e∣f,.str "-1"]=.ok (y∣0):=Pf;have Ui:gD [.aU,.int 5,.bl true,.lst [.str "wipe"],.tup [.str "marks"]]=.ok (.lst [.aU,.int 5,.bl true,.lst [.str "wipe"],.tup [.str "marks"]]):=fm _ (by show 5<=1000;decide)
  generalize cH a b c g=W at *;generalize jn [dZ,zl]=v1 at *;generalize jn [cM,a,[48,46,49]]=v2 at *;generalize jn [cM,b,[45,49]]=v3 at *;generalize jn [cM,c,[45,48,46,49]]=v4 at *;generalize jn [dj,c]=v5 at *;generalize jn [eI,c]=v6 at *;generalize jn [jv,c]=v7 at *;generalize [107,101,101,112,32]++a=u1 at *;generalize [107,101,101,112,32]++b=u2 at *;generalize [107,101,101,112,32]++c=u3 at *;generalize tx zl=Z at *;generalize ns.map PV.int=NS at *;dsimp![q_law_v93,OJ,List.replicate,List.set,TN,TP,wd,wo,nq,Uh,wi,Wj,Xa,Xn,Yl,di,r1,O8,kw,cQ o0,s1,cQ o1,cQ o2,cQ o5,cQ o6,cQ o7,LC,WM,W0,av,ho,i0,i1,i2,ka,kb,kc,s2,s3,hm,T7,df,T9,oc,ec,Ud,Ui,Ue,s6,r4,Pc,Pd,s7,Ua,Pe,s8,Ug,rf]
end K93
namespace K93
open PySem PySem.Spec PyProof.Rows L2 Mi Cm
noncomputable def names:List (Nat×Str):=[(0,"FloatError"),(1,"NoWidth"),(2,"NoWord"),(3,"NoWay"),(4,"NoNumber"),(5,"NoMatch"),(6,"NoText"),(7,"NoSpan"),(8,"NoName"),(9,"NoRow")]
noncomputable def CT:List (Nat×Str):=[(20,"Way"),(21,"Even"),(22,"Away"),(23,"Inward"),(24,"Upward"),(25,"Downward")]
noncomputable def onames:List (Nat×Str):=[(30,"Slate"),(31,"Desk")]
noncomputable def anames:List (Nat×Str):=names++CT++onames
noncomputable def top(i:Nat):Stmt:=PySem.Challenge.pw_floatforge_k93_desk_refusals.main.body.getD i (.Pass ⟨0,0,0,0⟩)
structure Tx(w:World)(K:PySem.W.Frag)(mg:Str->Option Value)(cl:Nat->Addr):Prop where
  inj:∀ c d,cl c=cl d->c=d
  cls:gd K mg cl names
  lI:DA K mg cl CT
  v8:mg "ValueError"=none
  Gg:mg "abs"=none
  Gh:mg "all"=none
  LH:mg "bool"=none
  rR:mg "int"=none
  bU:mg "isinstance"=none
  gX:mg "len"=none
  ML:mg "max"=none
  kd:mg "range"=none
  Gi:mg "str"=none
  HI:mg "tuple"=none
  HJ:∃ t,mg "GREAT"=some (.int 4 t)
  HK:∃ t,mg "SMALL"=some (.int 8 t)
  wa:∃ t,mg "NEAR"=some (.int 16 t)
  tV:∃ t,mg "LEAST_E"=some (.int 2 t)
  wg:∃ t,mg "MOST_E"=some (.int 11 t)
  tW:∃ t,mg "LEAST_F"=some (.int 1 t)
  wj:∃ t,mg "MOST_F"=some (.int 60 t)
  oy:∃ t,mg "MOST_SIGNS"=some (.int 1200 t)
  i5:∃ t,mg "MOST_POWER_FIGURES"=some (.int 3 t)
  l8:∃ t,mg "MOST_LETTERS"=some (.int 8 t)
  ff:qg K mg cl 30 "Slate"
  eJ:qg K mg cl 31 "Desk"
  eZ:fN K (cl 30) "raised"
  lx:fN K (cl 30) "way"
  pJ:fN K (cl 30) "width"
  i6:fN K (cl 31) "kept"
  gs:fN K (cl 31) "slate"
  lJ:fN K (cl 31) "width"
  gk:mg "read_texts"=mg "read"
  yp:∃ u,mg "NAMES"=some u/\iA K u (.tup [.str "wrong",.str "pole",.str "great",.str "small",.str "near"])
  EA:∃ u,mg "MAKING"=some u/\iA K u (.tup [.str "keep",.str "plus",.str "minus",.str "times",.str "over",.str "left",.str "root",.str "whole",.str "turn",.str "fused",.str "total"])
  zd:∀{b:Heap},K.In b->b.NoDigits
  CU:∃ u,mg "LENGTHS"=some u/\∀ P,uq P w K u Ce
  d65_0:∃ f fd,MethAt K cl 21 "grows" "Even.grows" (inClass (top 65) 0) f fd
  d66_0:∃ f fd,MethAt K cl 22 "grows" "Away.grows" (inClass (top 66) 0) f fd
  d67_0:∃ f fd,MethAt K cl 23 "grows" "Inward.grows" (inClass (top 67) 0) f fd
  d68_0:∃ f fd,MethAt K cl 24 "grows" "Upward.grows" (inClass (top 68) 0) f fd
  d69_0:∃ f fd,MethAt K cl 25 "grows" "Downward.grows" (inClass (top 69) 0) f fd
  d138_1:∃ f fd,MethAt K cl 30 "noted" "Slate.noted" (inClass (top 138) 1) f fd
  d138_14:∃ f fd,MethAt K cl 30 "wipe" "Slate.wipe" (inClass (top 138) 14) f fd
  d148_2:∃ f fd,MethAt K cl 31 "words_kept" "Desk.words_kept" (inClass (top 148) 2) f fd
  Uj:∃ f fd,bc K mg "marks_named" (top 18) f fd
  Uk:∃ f fd,bc K mg "is_whole" (top 24) f fd
  Ul:∃ f fd,bc K mg "all_ones" (top 32) f fd
  Um:∃ f fd,bc K mg "highest_of_fraction" (top 40) f fd
  Uo:∃ f fd,bc K mg "sign_bit" (top 41) f fd
  Up:∃ f fd,bc K mg "bits_told" (top 47) f fd
  Uq:∃ f fd,bc K mg "as_quotient" (top 60) f fd
  Ur:∃ f fd,bc K mg "way_of" (top 70) f fd
  Qv:∃ f fd,bc K mg "check_figures" (top 117) f fd
  Qw:∃ f fd,bc K mg "ten_power" (top 119) f fd
  Qx:∃ f fd,bc K mg "words_of_row" (top 143) f fd
  Qy:∃ f fd,bc K mg "check_name" (top 144) f fd
  Qz:∃ f fd,bc K mg "_law_cell_at" (top 150) f fd
  QA:∃ f fd,bc K mg "_law_wide" (top 151) f fd
  QB:∃ f fd,bc K mg "_law_names" (top 152) f fd
  QC:∃ f fd,bc K mg "_law_no_rows" (top 153) f fd
  QD:∃ f fd,bc K mg "_law_no_news" (top 154) f fd
  QE:∃ f fd,bc K mg "_law_no_names" (top 155) f fd
  d138_13:∃ f fd,MethAt K cl 30 "turn_to" "Slate.turn_to" (inClass (top 138) 13) f fd
  Us:∃ f fd,bc K mg "is_within" (top 25) f fd
  Ut:∃ f fd,bc K mg "height_of" (top 61) f fd
  Uu:∃ f fd,bc K mg "in_steps" (top 62) f fd
  Uv:∃ f fd,bc K mg "steps_taken" (top 74) f fd
  QF:∃ f fd,bc K mg "power_written" (top 118) f fd
  QG:∃ f fd,bc K mg "_law_wrong_row" (top 156) f fd
  d148_4:∃ f fd,MethAt K cl 31 "change" "Desk.change" (inClass (top 148) 4) f fd
  Uw:∃ f fd,bc K mg "width_of" (top 26) f fd
  Ux:∃ f fd,bc K mg "check_part" (top 34) f fd
  QH:∃ f fd,bc K mg "parts_of" (top 116) f fd
  Uy:∃ f fd,bc K mg "check_width" (top 27) f fd
  d138_0:∃ f fd,MethAtD K cl 30 "__init__" "Slate.__init__" (inClass (top 138) 0) f fd "even"
  Uz:∃ f fd,bc K mg "many_words" (top 28) f fd
  UA:∃ f fd,bc K mg "bias_of" (top 29) f fd
  UB:∃ f fd,bc K mg "joined" (top 36) f fd
  UC:∃ f fd,bc K mg "least_power" (top 30) f fd
  UD:∃ f fd,bc K mg "check_word" (top 33) f fd
  UE:∃ f fd,bc K mg "none_of" (top 38) f fd
  UG:∃ f fd,bc K mg "endless_of" (top 39) f fd
  UH:∃ f fd,bc K mg "marks_of" (top 76) f fd
  d148_0:∃ f fd,MethAt K cl 31 "__init__" "Desk.__init__" (inClass (top 148) 0) f fd
  UI:∃ f fd,bc K mg "cut" (top 35) f fd
  UJ:∃ f fd,bc K mg "turned" (top 42) f fd
  UK:∃ f fd,bc K mg "step_power" (top 73) f fd
  UL:∃ f fd,bc K mg "with_sign" (top 45) f fd
  UM:∃ f fd,bc K mg "bits_of" (top 46) f fd
  UN:∃ f fd,bc K mg "settled" (top 75) f fd
  QI:∃ f fd,bc K mg "named_word" (top 123) f fd
  QJ:∃ f fd,bc K mg "_law_bits" (top 159) f fd
  d72:∃ f fd,lS K mg "taken" (top 72) f fd "even"
  QK:∃ f fd,bc K mg "decimal_taken" (top 124) f fd
  d121:∃ f fd,lS K mg "read" (top 121) f fd "even"
  d138_11:∃ f fd,MethAt K cl 30 "read" "Slate.read" (inClass (top 138) 11) f fd
  QL:∃ f fd,bc K mg "told" (top 147) f fd
  QM:∃ f fd,bc K mg "done" (top 145) f fd
  d148_3:∃ f fd,MethAt K cl 31 "make" "Desk.make" (inClass (top 148) 3) f fd
  d148_1:∃ f fd,MethAt K cl 31 "say" "Desk.say" (inClass (top 148) 1) f fd
  QN:∃ f fd,bc K mg "_law_refused" (top 157) f fd
  QO:∃ f fd,bc K mg "_law_as_before" (top 158) f fd
  QP:∃ f fd,bc K mg "law" (top 160) f fd
section
variable {P:Program}{w:World}{K:PySem.W.Frag}{mg:Str->Option Value}{base:Heap}{cl:Nat->Addr} (T:Tx w K mg cl) (KX:K.In base)
include T
theorem UO:MG P w K mg base cl 1 21 "grows" 3 Oi:=BQ (N:=["self","odd","side","below"]) T.d65_0 (T.lI.cls 21 "Even" (at_mem 1 rfl)).cls fun hr nd=>aE (aM (LY (fP (cE (bN hr)) (mv 2) (aj) (aX _)) (lN (lO (fP (cE (bN hr)) (mv 2) (aj) (aX _)) (lN (mv 1))))))
theorem UP:MG P w K mg base cl 1 22 "grows" 3 Oj:=BQ (N:=["self","odd","side","below"]) T.d66_0 (T.lI.cls 22 "Away" (at_mem 2 rfl)).cls fun hr nd=>aE (aM (fP ID (mv 2) (aj) (aX _)))
theorem UQ:MG P w K mg base cl 1 23 "grows" 3 Ol:=BQ (N:=["self","odd","side","below"]) T.d67_0 (T.lI.cls 23 "Inward" (at_mem 3 rfl)).cls fun hr nd=>aE (aM (iq))
theorem UR:MG P w K mg base cl 1 24 "grows" 3 Om:=BQ (N:=["self","odd","side","below"]) T.d68_0 (T.lI.cls 24 "Upward" (at_mem 4 rfl)).cls fun hr nd=>aE (aM (qL (mv 3)))
theorem US:MG P w K mg base cl 1 25 "grows" 3 Oo:=BQ (N:=["self","odd","side","below"]) T.d69_0 (T.lI.cls 25 "Downward" (at_mem 5 rfl)).cls fun hr nd=>aE (aM (mv 3))
theorem Pg:ky P w K mg base cl 1 30 "noted" 1 Cd:=nZ (N:=["self","answer"]) T.d138_1 T.ff.cls fun hr nd=>aW (gU T.ff.cls T.eZ (sv 0) (JS PT (c5 T.ff.cls T.eZ (sv 0)) (aG (aC (mv 1) (aj))))) (bz (c9 (aG (aC (mv 1) (aj)))))
theorem UT:ky P w K mg base cl 1 30 "wipe" 0 Ox:=nZ (N:=["self"]) T.d138_14 T.ff.cls fun hr nd=>bz (gU T.ff.cls T.eZ (sv 0) (aG (aj)))
theorem LI:ky P w K mg base cl 1 31 "words_kept" 1 za:=nZ (N:=["self","names","name"]) T.d148_2 T.eJ.cls fun hr nd=>aW (vy (i:=2) cP rfl nd rfl (Or.inl rfl) (qN (mv 1)) (bz (fK (G3 (aG (mv 2)) (c5 T.eJ.cls T.i6 (sv 0))) (bz (DG (c:=8) (T.cls.cls 8 "NoName" (at_mem 8 rfl)) cP (by rfl) hr.hd (c8 28))) (ez)))) (bz (c9 (Kc (Ns:=["self","names","'name"]) (by decide +kernel) (by decide +kernel) rfl (qN (mv 1)) (fun _ _ _ _=>DO (c5 T.eJ.cls T.i6 (sv 0)) (aG (mv 3))))))
theorem CV:FG P w K mg base cl 1 "marks_named" 1 z3:=cS (N:=["marks","raised"]) T.Uj fun hr nd=>au (RL (i:=1) nd rfl (Or.inl rfl) (by decide +kernel) rfl (jg (by rfl) T.kd (aa (cK gO (by rfl) T.gX WS (aa (qb (by rfl) T.yp) (aq))) (aq))) (fun _ _ _ _=>MC.one (cW (ah uf (ah ue (mv 0) (mv 2)) (aj)))) (fun _ _ _ _=>aC (qb (by rfl) T.yp) (mv 2))) (aE (aM (gN (cW (mv 1)) (gm oG qV (ai) (aa (mv 1) (aq))) (ai))))
theorem UU:FG P w K mg base cl 1 "is_whole" 1 Ky:=cS (N:=["value"]) T.Uk fun hr nd=>aE (aM (lO (jB .int (mv 0) (by rfl) T.bU (by rfl) T.rR) (lN (qL (jB .bool (mv 0) (by rfl) T.bU (by rfl) T.LH)))))
theorem CW:FG P w K mg base cl 1 "all_ones" 1 zi:=cS (N:=["count"]) T.Ul fun hr nd=>aE (aM (ah fv (ah jt (aj) (mv 0)) (aj)))
theorem UW:FG P w K mg base cl 1 "highest_of_fraction" 1 Ob:=cS (N:=["width"]) T.Um fun hr nd=>aE (aM (ah jt (aj) (ah fv (aC (mv 0) (aj)) (aj))))
theorem UX:FG P w K mg base cl 1 "sign_bit" 1 Fs:=cS (N:=["width"]) T.Uo fun hr nd=>aE (aM (ah jt (aj) (ah ak (aC (mv 0) (aj)) (aC (mv 0) (aj)))))
theorem LJ:FG P w K mg base cl 1 "bits_told" 2 xI:=cS (N:=["part","count"]) T.Up fun hr nd=>aE (aM (gm oG qV (ai) (aa (zA nd (by decide +kernel) rfl (jg (by rfl) T.kd (aa (ah fv (mv 1) (aj)) (aa (kj mq (aj)) (aa (kj mq (aj)) (aq))))) (fun _ _ _ _=>MC.nil) (fun _ _ _ _=>gN (cW (ah uf (ah ue (mv 0) (mv 2)) (aj))) (ai) (ai))) (aq))))
theorem Ph:FG P w K mg base cl 1 "as_quotient" 3 xJ:=cS (N:=["n","k","d"]) T.Uq fun hr nd=>aE (aM (gN (bq ID (mv 1) (aj) (aX _)) (dy (aa (ah jt (mv 0) (mv 1)) (aa (mv 2) (aq)))) (dy (aa (mv 0) (aa (ah jt (mv 2) (kj mq (mv 1))) (aq))))))
theorem CY:FG P w K mg base cl 1 "way_of" 1 bP:=cS (N:=["name"]) T.Ur fun hr nd=>au (bV (bq (cE (bN hr)) (mv 0) (ai) (aX _)) (aE (aM (Bm T.lI (at_mem 1 rfl)))) (bu)) (au (bV (bq (cE (bN hr)) (mv 0) (ai) (aX _)) (aE (aM (Bm T.lI (at_mem 2 rfl)))) (bu)) (au (bV (bq (cE (bN hr)) (mv 0) (ai) (aX _)) (aE (aM (Bm T.lI (at_mem 3 rfl)))) (bu)) (au (bV (bq (cE (bN hr)) (mv 0) (ai) (aX _)) (aE (aM (Bm T.lI (at_mem 4 rfl)))) (bu)) (au (bV (bq (cE (bN hr)) (mv 0) (ai) (aX _)) (aE (aM (Bm T.lI (at_mem 5 rfl)))) (bu)) (aE (dq (c:=3) (T.cls.cls 3 "NoWay" (at_mem 3 rfl)) cP (by rfl) hr.hd (c8 40)))))))
theorem LK:FG P w K mg base cl 1 "check_figures" 1 zj:=cS (N:=["text"]) T.Qv fun hr nd=>aE (bV ((kM (bq (cE (bN hr)) (mv 0) (ai) (aX _)) (km (hW (cW (cK (EZ rfl) (by rfl) T.Gh boot_all (aa (zA nd (by decide +kernel) rfl (BF (mv 0)) (fun _ _ _ _=>MC.nil) (fun _ _ _ _=>fP Dd (mv 1) (ai) (by with_unfolding_all rfl))) (aq))))))).mt) (aE (dq (c:=6) (T.cls.cls 6 "NoText" (at_mem 6 rfl)) cP (by rfl) hr.hd (c8 86))) (bu))
theorem Pj:FG P w K mg base cl 1 "ten_power" 1 Cb:=cS (N:=["count","power","square"]) T.Qw fun hr nd=>au (aQ (i:=1) nd rfl (Or.inl rfl) (aj)) (au (aQ (i:=2) nd rfl (Or.inl rfl) (aj)) (au (Dm cP (bq yN (mv 0) (aj) (aX _)) (au (bV (bq (cE (bN hr)) (ah ey (mv 0) (aj)) (aj) (aX _)) (aE (aQ (i:=1) nd rfl (Or.inl rfl) (ah js (mv 1) (mv 2)))) (bu)) (au (aQ (i:=2) nd rfl (Or.inl rfl) (ah js (mv 2) (mv 2))) (aE (aQ (i:=0) nd rfl (Or.inl rfl) (ah mn (mv 0) (aj))))))) (aE (aM (mv 1)))))
theorem UY:FG P w K mg base cl 1 "words_of_row" 1 z5:=cS (N:=["row","words","length"]) T.Qx fun hr nd=>au (bV (hW (cW (jB .str (mv 0) (by rfl) T.bU (by rfl) T.Gi))) (aE (dq (c:=9) (T.cls.cls 9 "NoRow" (at_mem 9 rfl)) cP (by rfl) hr.hd (c8 15))) (bu)) (au (aQ (i:=1) nd rfl (Or.inl rfl) (gm vt xq (mv 0) (aa (ai) (aq)))) (au (aQ (i:=2) nd rfl (Or.inl rfl) (G0 (by rfl) (T.CU.imp fun _ h=>⟨h.1,h.2 _⟩) (aC (mv 1) (aj)) NN)) (au (bV (Q8 (mv 2)) (aE (dq (c:=9) (T.cls.cls 9 "NoRow" (at_mem 9 rfl)) cP (by rfl) hr.hd (c8 49))) (bu)) (au (bV ((kM (bq nE (cK gO (by rfl) T.gX WS (aa (mv 1) (aq))) (mv 2) (aX _)) (km ((IE (bq yN (cK gO (by rfl) T.gX WS (aa (mv 1) (aq))) (mv 2) (aX _)) (GC (bq (ko (bN hr)) (aC (mv 1) (aj)) (ai) (aX _)))).mt))).mt) (aE (dq (c:=9) (T.cls.cls 9 "NoRow" (at_mem 9 rfl)) cP (by rfl) hr.hd (c8 53))) (bu)) (aE (aM (mv 1)))))))
theorem UZ:FG P w K mg base cl 1 "check_name" 1 xQ:=cS (N:=["name"]) T.Qy fun hr nd=>aE (bV ((kM (hW (Dc yM yM (aj) (cK gO (by rfl) T.gX WS (aa (mv 0) (aq))) (cF (by rfl) T.l8))) (km (hW (cW (cK (EZ rfl) (by rfl) T.Gh boot_all (aa (zA nd (by decide +kernel) rfl (BF (mv 0)) (fun _ _ _ _=>MC.nil) (fun _ _ _ _=>uV Fd Fd (ai) (mv 1) (ai))) (aq))))))).mt) (aE (dq (c:=8) (T.cls.cls 8 "NoName" (at_mem 8 rfl)) cP (by rfl) hr.hd (j6 (cz (c8 17) (cz (jC (cF (by rfl) T.l8)) (cz (c8 20) (j5))))))) (bu))
theorem LL:FG P w K mg base cl 1 "_law_cell_at" 2 zr:=cS (N:=["_law_script","_law_k"]) T.Qz fun hr nd=>au (bV (bq nE (mv 1) (cK gO (by rfl) T.gX WS (aa (mv 0) (aq))) (aX _)) (aE (aM (aC (mv 0) (mv 1)))) (bu)) (aE (aM (aj)))
theorem U0:FG P w K mg base cl 1 "_law_wide" 1 Fp:=cS (N:=["_law_cell","_law_mixed"]) T.QA fun hr nd=>au (aQ (i:=1) nd rfl (Or.inl rfl) (ah ey (ah js (mv 0) (aj)) (aj))) (aE (aM (dy (aa (ah ak (aj) (ah ey (mv 1) (aj))) (aa (ah ak (aj) (ah ey (ah mn (mv 1) (aj)) (aj))) (aq))))))
theorem U1:FG P w K mg base cl 1 "_law_names" 1 Cg:=cS (N:=["_law_cell","_law_letters","_law_mixed","_law_base","_law_at","_law_names_here","_law_k","_law_name","_law_j"]) T.QB fun hr nd=>au (aQ (i:=1) nd rfl (Or.inl rfl) (ai)) (au (aQ (i:=2) nd rfl (Or.inr rfl) (ah ey (ah js (mv 0) (aj)) (ah ak (ah EO (aj) (aj)) (aj)))) (au (P0 (i:=3) (Ns:=["_law_cell","_law_letters","_law_mixed","_law_base","_law_at","_law_names_here","'_law_k","_law_name","_law_j"]) nd rfl (Or.inl rfl) (by decide +kernel) (by decide +kernel) rfl (jg (by rfl) T.kd (aa (ah ak (aj) (ah ey (mv 2) (aj))) (aq))) (fun _ _ _ _=>MC.nil) (fun _ _ _ _=>ah ey (ah mn (mv 2) (ah ak (ah js (mv 9) (mv 9)) (aj))) (aj))) (au (aQ (i:=4) nd rfl (Or.inl rfl) (ah ey (ah mn (mv 2) (aj)) (cK gO (by rfl) T.gX WS (aa (mv 3) (aq))))) (au (Jn (i:=5) nd rfl (Or.inl rfl) (Jm (aq))) (au (AZ (i:=6) cP rfl nd rfl (Or.inl rfl) (jg (by rfl) T.kd (aa (aj) (aq))) (au (aQ (i:=7) nd rfl (Or.inl rfl) (ai)) (au (AZ (i:=8) cP rfl nd rfl (Or.inl rfl) (jg (by rfl) T.kd (aa (cK gO (by rfl) T.gX WS (aa (mv 3) (aq))) (aq))) (aE (aQ (i:=7) nd rfl (Or.inl rfl) (ah ak (mv 7) (aC (mv 1) (ah ey (ah ak (aC (mv 3) (mv 8)) (ah js (mv 6) (kP L5 (by rfl) T.rR boot_int (aa (fP (cE (bN hr)) (mv 8) (mv 4) (aX _)) (aq))))) (aj))))))) (aE (Bk (i:=5) rfl (by first | exact Or.inl rfl | exact Or.inr (Or.inl rfl) | exact Or.inr (Or.inr rfl)) (aa (mv 7) (aq))))))) (yV 5 (aE (aM (mv 5)))))))))
theorem U2:FG P w K mg base cl 1 "_law_no_rows" 2 Fy:=cS (N:=["_law_one","_law_two","_law_rows"]) T.QC fun hr nd=>au (aQ (i:=2) nd rfl (Or.inl rfl) (bJ (aa (ai) (aa (ai) (aa (ai) (aa (ah ak (ai) (mv 0)) (aa (ah ak (ah ak (ai) (mv 0)) (ai)) (aa (ah ak (ah ak (ai) (mv 0)) (ai)) (aa (ah ak (ah ak (ai) (mv 0)) (ai)) (aq)))))))))) (au (aQ (i:=2) nd rfl (Or.inl rfl) (ah ak (mv 2) (bJ (aa (ah ak (ah ak (ah ak (ai) (mv 0)) (ai)) (mv 0)) (aa (ah ak (ah ak (ah ak (ah ak (ah ak (ah ak (ah ak (ai) (mv 0)) (ai)) (mv 0)) (ai)) (mv 1)) (ai)) (mv 0)) (aa (ah ak (ai) (mv 0)) (aq))))))) (au (aQ (i:=2) nd rfl (Or.inl rfl) (ah ak (mv 2) (bJ (aa (ah ak (ai) (mv 0)) (aa (ai) (aa (ah ak (ah ak (ah ak (ah ak (ah ak (ah ak (ai) (mv 0)) (ai)) (mv 0)) (ai)) (mv 0)) (ai)) (aa (ah ak (ah ak (ah ak (ai) (mv 0)) (ai)) (mv 0)) (aq)))))))) (au (aQ (i:=2) nd rfl (Or.inl rfl) (ah ak (mv 2) (bJ (aa (ah ak (ai) (mv 0)) (aa (ah ak (ah ak (ah ak (ah ak (ah ak (ai) (mv 0)) (ai)) (mv 0)) (ai)) (mv 0)) (aa (ah ak (ai) (mv 0)) (aa (ah ak (ai) (mv 0)) (aa (ai) (aq))))))))) (au (aQ (i:=2) nd rfl (Or.inl rfl) (ah ak (mv 2) (bJ (aa (ah ak (ah ak (ah ak (ah ak (ah ak (ai) (mv 0)) (ai)) (mv 0)) (ai)) (mv 0)) (aa (ai) (aa (ah ak (ai) (mv 0)) (aa (ai) (aq)))))))) (au (aQ (i:=2) nd rfl (Or.inl rfl) (ah ak (mv 2) (bJ (aa (ah ak (ah ak (ah ak (ai) (mv 0)) (ai)) (mv 1)) (aa (ai) (aa (ai) (aa (ai) (aa (ai) (aa (ah ak (ai) (mv 0)) (aa (ai) (aq))))))))))) (au (aQ (i:=2) nd rfl (Or.inl rfl) (ah ak (mv 2) (bJ (aa (ai) (aa (ah ak (ah ak (ai) (mv 0)) (ai)) (aa (ai) (aa (ah ak (ah ak (ah ak (ai) (mv 0)) (ai)) (mv 0)) (aa (ai) (aa (ah ak (ai) (mv 0)) (aq)))))))))) (au (aQ (i:=2) nd rfl (Or.inl rfl) (ah ak (mv 2) (bJ (aa (ah ak (ah ak (ah ak (ah ak (ah ak (ai) (mv 0)) (ai)) (mv 0)) (ai)) (mv 0)) (aa (ah ak (ai) (mv 0)) (aa (ah ak (ai) (mv 0)) (aa (ah ak (ai) (mv 0)) (aq)))))))) (aE (aM (ah ak (mv 2) (bJ (aa (ah ak (ai) (mv 0)) (aa (ah ak (ah ak (ah ak (ah ak (ah ak (ai) (mv 0)) (ai)) (mv 0)) (ai)) (mv 0)) (aa (ah ak (ah ak (qd qe si (mv 0)) (ai)) (mv 1)) (aq)))))))))))))))
theorem U3:FG P w K mg base cl 1 "_law_no_news" 2 Fz:=cS (N:=["_law_one","_law_two","_law_rows"]) T.QD fun hr nd=>au (aQ (i:=2) nd rfl (Or.inl rfl) (bJ (aa (ah ak (ah ak (ah ak (ai) (mv 0)) (ai)) (mv 1)) (aa (ah ak (ah ak (ah ak (ah ak (ah ak (ai) (mv 0)) (ai)) (mv 1)) (ai)) (mv 0)) (aa (ah ak (ai) (mv 1)) (aq)))))) (au (aQ (i:=2) nd rfl (Or.inl rfl) (ah ak (mv 2) (bJ (aa (ah ak (ah ak (ah ak (ah ak (ah ak (ai) (qd qe si (mv 0))) (ai)) (mv 1)) (ai)) (mv 1)) (aa (ah ak (ah ak (ah ak (ai) (mv 0)) (ai)) (mv 1)) (aq)))))) (au (aQ (i:=2) nd rfl (Or.inl rfl) (ah ak (mv 2) (bJ (aa (ah ak (ai) (mv 0)) (aa (ah ak (ah ak (ah ak (ai) (mv 0)) (ai)) (mv 1)) (aa (ah ak (ah ak (ah ak (ah ak (ah ak (ai) (mv 0)) (ai)) (mv 0)) (ai)) (mv 1)) (aq))))))) (au (aQ (i:=2) nd rfl (Or.inl rfl) (ah ak (mv 2) (bJ (aa (ah ak (ai) (mv 1)) (aa (ah ak (ai) (mv 1)) (aa (ah ak (ah ak (ah ak (ai) (mv 1)) (ai)) (mv 0)) (aa (ah ak (ai) (mv 0)) (aq)))))))) (aE (aM (ah ak (mv 2) (bJ (aa (ah ak (ah ak (ah ak (ah ak (ah ak (ai) (mv 0)) (ai)) (mv 0)) (ai)) (mv 1)) (aa (ah ak (ai) (mv 1)) (aa (ah ak (ah ak (ah ak (ai) (mv 0)) (ai)) (mv 0)) (aq)))))))))))
theorem U4:FG P w K mg base cl 1 "_law_no_names" 3 FC:=cS (N:=["_law_one","_law_miss","_law_less","_law_rows"]) T.QE fun hr nd=>au (aQ (i:=3) nd rfl (Or.inl rfl) (bJ (aa (ah ak (ai) (mv 1)) (aa (ah ak (ai) (mv 1)) (aa (ah ak (ai) (mv 1)) (aa (ah ak (ai) (mv 1)) (aa (ah ak (ai) (mv 1)) (aq)))))))) (au (aQ (i:=3) nd rfl (Or.inl rfl) (ah ak (mv 3) (bJ (aa (ah ak (ah ak (ah ak (ai) (mv 0)) (ai)) (mv 1)) (aa (ah ak (ah ak (ah ak (ai) (mv 1)) (ai)) (mv 0)) (aa (ah ak (ah ak (ah ak (ah ak (ah ak (ai) (mv 0)) (ai)) (mv 1)) (ai)) (mv 0)) (aq))))))) (au (aQ (i:=3) nd rfl (Or.inl rfl) (ah ak (mv 3) (bJ (aa (ah ak (ah ak (ai) (mv 0)) (ai)) (aa (ai) (aa (ah ak (ah ak (ah ak (ah ak (ah ak (ai) (mv 0)) (ai)) (mv 0)) (ai)) (mv 1)) (aa (ai) (aa (ai) (aq))))))))) (au (aQ (i:=3) nd rfl (Or.inl rfl) (ah ak (mv 3) (bJ (aa (ah ak (ah ak (ah ak (ah ak (ah ak (ai) (mv 1)) (ai)) (mv 2)) (ai)) (mv 0)) (aa (ah ak (ah ak (ah ak (ah ak (ah ak (ai) (mv 1)) (ai)) (mv 0)) (ai)) (mv 2)) (aq)))))) (au (aQ (i:=3) nd rfl (Or.inl rfl) (ah ak (mv 3) (bJ (aa (ah ak (ah ak (ah ak (ah ak (ah ak (ai) (mv 0)) (ai)) (mv 0)) (ai)) (mv 0)) (aa (ah ak (ah ak (ah ak (ai) (mv 1)) (ai)) (mv 2)) (aq)))))) (au (aQ (i:=3) nd rfl (Or.inl rfl) (ah ak (mv 3) (bJ (aa (ah ak (ah ak (ah ak (ai) (mv 2)) (ai)) (mv 1)) (aa (ah ak (ah ak (ah ak (ai) (mv 0)) (ai)) (mv 2)) (aa (ai) (aq))))))) (au (aQ (i:=3) nd rfl (Or.inl rfl) (ah ak (mv 3) (bJ (aa (ah ak (ah ak (ah ak (ah ak (ah ak (ah ak (ah ak (ai) (mv 0)) (ai)) (mv 0)) (ai)) (mv 0)) (ai)) (mv 1)) (aa (ah ak (ah ak (ah ak (ah ak (ah ak (ai) (mv 1)) (ai)) (mv 0)) (ai)) (mv 2)) (aq)))))) (au (aQ (i:=3) nd rfl (Or.inl rfl) (ah ak (mv 3) (bJ (aa (ah ak (ah ak (ah ak (ai) (mv 0)) (ai)) (mv 1)) (aa (ah ak (ah ak (ai) (qd qe si (mv 0))) (ai)) (aa (ah ak (ai) (mv 0)) (aq))))))) (au (aQ (i:=3) nd rfl (Or.inl rfl) (ah ak (mv 3) (bJ (aa (ai) (aa (ah ak (ah ak (ai) (mv 0)) (ai)) (aa (ah ak (ah ak (ai) (mv 0)) (ai)) (aq))))))) (aE (aM (ah ak (mv 3) (bJ (aa (ah ak (ah ak (ah ak (ah ak (ah ak (ai) (mv 0)) (ai)) (mv 0)) (ai)) (mv 0)) (aq))))))))))))))
theorem U5:ky P w K mg base cl 2 30 "turn_to" 1 eA:=nZ (N:=["self","way"]) T.d138_13 T.ff.cls fun hr nd=>aW (gn (aG (mc (CY T) hr T.inj (aa (mv 1) (aq))))) (bz (gU T.ff.cls T.lx (sv 0) (aG (mv 1))))
theorem Gj:FG P w K mg base cl 2 "is_within" 3 fF:=cS (N:=["value","low","high"]) T.Us fun hr nd=>aE (aM (lO (mc (UU T) hr T.inj (aa (mv 0) (aq))) (lN (uV yM yM (mv 1) (mv 0) (mv 2)))))
theorem U6:FG P w K mg base cl 2 "height_of" 3 xK:=cS (N:=["n","k","d","size","height","parts"]) T.Ut fun hr nd=>au (bV (bq (cE (bN hr)) (mv 0) (aj) (aX _)) (aE (dq (c:=4) (T.cls.cls 4 "NoNumber" (at_mem 4 rfl)) cP (by rfl) hr.hd (c8 20))) (bu)) (au (aQ (i:=3) nd rfl (Or.inl rfl) (cK ER (by rfl) T.Gg boot_abs (aa (mv 0) (aq)))) (au (aQ (i:=4) nd rfl (Or.inl rfl) (ah fv (sZ (mv 3)) (sZ (mv 2)))) (au (aQ (i:=5) nd rfl (Or.inl rfl) (mc (Ph T) hr T.inj (aa (mv 3) (aa (kj mq (mv 4)) (aa (mv 2) (aq)))))) (au (bV (bq nE (aC (mv 5) (aj)) (aC (mv 5) (aj)) (aX _)) (aE (aQ (i:=4) nd rfl (Or.inl rfl) (ah fv (mv 4) (aj)))) (bu)) (aE (aM (ah ak (mv 4) (mv 1))))))))
theorem U7:FG P w K mg base cl 2 "in_steps" 4 zk:=cS (N:=["n","k","d","g","parts","m","twice_the_rest"]) T.Uu fun hr nd=>au (aQ (i:=4) nd rfl (Or.inl rfl) (mc (Ph T) hr T.inj (aa (cK ER (by rfl) T.Gg boot_abs (aa (mv 0) (aq))) (aa (ah fv (mv 1) (mv 3)) (aa (mv 2) (aq)))))) (au (aQ (i:=5) nd rfl (Or.inl rfl) (ah mn (aC (mv 4) (aj)) (aC (mv 4) (aj)))) (au (aQ (i:=6) nd rfl (Or.inl rfl) (ah js (aj) (ah fv (aC (mv 4) (aj)) (ah js (mv 5) (aC (mv 4) (aj)))))) (au (bV (bq (cE (bN hr)) (mv 6) (aj) (aX _)) (aE (aM (dy (aa (mv 5) (aa (aj) (aq)))))) (bu)) (au (bV (bq nE (mv 6) (aC (mv 4) (aj)) (aX _)) (aE (aM (dy (aa (mv 5) (aa (aj) (aq)))))) (bu)) (aE (aM (dy (aa (mv 5) (aa (gN (bq (cE (bN hr)) (mv 6) (aC (mv 4) (aj)) (aX _)) (aj) (aj)) (aq))))))))))
theorem yq:FM P w K mg base cl 1 "grows" 3 B9:=lT (UO T) (lT (UP T) (lT (UQ T) (lT (UR T) (lT (US T) (Ju)))))
theorem U8:FG P w K mg base cl 2 "steps_taken" 3 Ca:=cS (N:=["chosen","place","below","grown"]) T.Uv fun hr nd=>au (aQ (i:=3) nd rfl (Or.inl rfl) (lO (fP (ko (bN hr)) (aC (mv 1) (aj)) (aj) (aX _)) (lN (mm (yq T) hr T.inj (mv 0) (aa (fP (cE (bN hr)) (ah ey (aC (mv 1) (aj)) (aj)) (aj) (aX _)) (aa (aC (mv 1) (aj)) (aa (mv 2) (aq)))))))) (aE (aM (gN (cW (mv 3)) (ah ak (aC (mv 1) (aj)) (aj)) (aC (mv 1) (aj)))))
include KX in
theorem U9:FG P w K mg base cl 2 "power_written" 1 ze:=cS (N:=["text","below","figures"]) T.QF fun hr nd=>au (aQ (i:=1) nd rfl (Or.inl rfl) (gm mX nV (mv 0) (aa (ai) (aq)))) (au (aQ (i:=2) nd rfl (Or.inl rfl) (gN (cW (mv 1)) (nF (mv 0) (j4 (aj)) (oE)) (mv 0))) (au (cZ (mc (LK T) hr T.inj (aa (mv 2) (aq)))) (au (bV (bq yN (cK gO (by rfl) T.gX WS (aa (mv 2) (aq))) (cF (by rfl) T.i5) (aX _)) (aE (dq (c:=6) (T.cls.cls 6 "NoText" (at_mem 6 rfl)) cP (by rfl) hr.hd (j6 (cz (c8 32) (cz (jC (cF (by rfl) T.i5)) (cz (c8 8) (j5))))))) (bu)) (aE (aM (gN (cW (mv 1)) (kj mq (kP (vp (T.zd KX)) (by rfl) T.rR boot_int (aa (mv 2) (aq)))) (kP (vp (T.zd KX)) (by rfl) T.rR boot_int (aa (mv 2) (aq)))))))))
theorem Va:FG P w K mg base cl 2 "_law_wrong_row" 2 z9:=cS (N:=["_law_names_here","_law_cell","_law_at","_law_some","_law_rows"]) T.QG fun hr nd=>au (aQ (i:=2) nd rfl (Or.inl rfl) (ah mn (mv 1) (aj))) (au (bV (bq (cE (bN hr)) (ah ey (mv 1) (aj)) (aj) (aX _)) (au (aQ (i:=4) nd rfl (Or.inl rfl) (mc (U2 T) hr T.inj (aa (aC (mv 0) (aj)) (aa (aC (mv 0) (aj)) (aq))))) (aE (aM (dy (aa (aC (mv 4) (ah ey (mv 2) (cK gO (by rfl) T.gX WS (aa (mv 4) (aq))))) (aa (ai) (aq))))))) (bu)) (au (bV (bq (cE (bN hr)) (ah ey (mv 1) (aj)) (aj) (aX _)) (au (aQ (i:=4) nd rfl (Or.inl rfl) (ah ak (mc (U4 T) hr T.inj (aa (aC (mv 0) (aj)) (aa (aC (mv 0) (aj)) (aa (aC (mv 0) (aj)) (aq))))) (mc (U3 T) hr T.inj (aa (aC (mv 0) (aj)) (aa (aC (mv 0) (aj)) (aq)))))) (aE (aM (dy (aa (aC (mv 4) (ah ey (mv 2) (cK gO (by rfl) T.gX WS (aa (mv 4) (aq))))) (aa (ai) (aq))))))) (bu)) (au (bV (bq (cE (bN hr)) (ah ey (mv 1) (aj)) (aj) (aX _)) (au (aQ (i:=3) nd rfl (Or.inl rfl) (bJ (aa (ai) (aa (ai) (aa (ai) (aa (ai) (aa (ai) (aa (ai) (aa (ai) (aa (ai) (aa (ai) (aa (ai) (aa (ai) (aa (ai) (aa (ai) (aa (ai) (aq))))))))))))))))) (aE (aM (dy (aa (ah ak (ah ak (ah ak (ai) (aC (mv 0) (ah ey (ah mn (mv 2) (aj)) (aj)))) (ai)) (aC (mv 3) (ah ey (mv 2) (aj)))) (aa (ai) (aq))))))) (bu)) (au (aQ (i:=3) nd rfl (Or.inl rfl) (bJ (aa (ai) (aa (ai) (aa (ai) (aa (ai) (aa (ai) (aa (ai) (aa (ai) (aa (ai) (aq))))))))))) (aE (aM (dy (aa (ah ak (ai) (aC (mv 3) (ah ey (mv 2) (aj)))) (aa (ai) (aq))))))))))
theorem Vb:ky P w K mg base cl 3 31 "change" 1 cf:=nZ (N:=["self","words"]) T.d148_4 T.eJ.cls fun hr nd=>bz (fK (gS (bq (cE (bN hr)) (aC (mv 1) (aj)) (ai) (aX _))) (bz (gn (P5 (UT T) hr T.inj (c5 T.eJ.cls T.gs (sv 0))))) (bz (fK (gS (bq (cE (bN hr)) (aC (mv 1) (aj)) (ai) (aX _))) (bz (gn (jG (U5 T) hr T.inj (c5 T.eJ.cls T.gs (sv 0)) (aL (aG (aC (mv 1) (aj))) (bL))))) (aW (gn (jG (LI T) hr T.inj (sv 0) (aL (aG (bJ (aa (aC (mv 1) (aj)) (aq)))) (bL)))) (bz (gn (GZ (c5 T.eJ.cls T.i6 (sv 0)) (aG (aC (mv 1) (aj))) NN)))))))
theorem Pk:FG P w K mg base cl 3 "width_of" 2 B0:=cS (N:=["e","f"]) T.Uw fun hr nd=>au (bV (hW (cW (mc (Gj T) hr T.inj (aa (mv 0) (aa (cF (by rfl) T.tV) (aa (cF (by rfl) T.wg) (aq))))))) (aE (dq (c:=1) (T.cls.cls 1 "NoWidth" (at_mem 1 rfl)) cP (by rfl) hr.hd (j6 (cz (c8 44) (cz (jC (cF (by rfl) T.tV)) (cz (c8 4) (cz (jC (cF (by rfl) T.wg)) (j5)))))))) (bu)) (au (bV (hW (cW (mc (Gj T) hr T.inj (aa (mv 1) (aa (cF (by rfl) T.tW) (aa (cF (by rfl) T.wj) (aq))))))) (aE (dq (c:=1) (T.cls.cls 1 "NoWidth" (at_mem 1 rfl)) cP (by rfl) hr.hd (j6 (cz (c8 44) (cz (jC (cF (by rfl) T.tW)) (cz (c8 4) (cz (jC (cF (by rfl) T.wj)) (j5)))))))) (bu)) (aE (aM (dy (aa (mv 0) (aa (mv 1) (aq)))))))
theorem LM:FG P w K mg base cl 3 "check_part" 2 xH:=cS (N:=["part","count"]) T.Ux fun hr nd=>aE (bV (hW (cW (mc (Gj T) hr T.inj (aa (mv 0) (aa (aj) (aa (mc (CW T) hr T.inj (aa (mv 1) (aq))) (aq))))))) (aE (dq (c:=2) (T.cls.cls 2 "NoWord" (at_mem 2 rfl)) cP (by rfl) hr.hd (j6 (cz (c8 59) (cz (jC (mv 1)) (cz (c8 5) (j5))))))) (bu))
include KX in
theorem Vc:FG P w K mg base cl 3 "parts_of" 1 z4:=cS (N:=["text","below","halves","rows","power"]) T.QH fun hr nd=>au (bV ((kM (hW (cW (jB .str (mv 0) (by rfl) T.bU (by rfl) T.Gi))) (km (bq yN (cK gO (by rfl) T.gX WS (aa (mv 0) (aq))) (cF (by rfl) T.oy) (aX _)))).mt) (aE (dq (c:=6) (T.cls.cls 6 "NoText" (at_mem 6 rfl)) cP (by rfl) hr.hd (j6 (cz (c8 41) (cz (jC (cF (by rfl) T.oy)) (cz (c8 6) (j5))))))) (bu)) (au (aQ (i:=1) nd rfl (Or.inl rfl) (gm mX nV (mv 0) (aa (ai) (aq)))) (au (aQ (i:=2) nd rfl (Or.inl rfl) (gm nW pH (gN (cW (mv 1)) (nF (mv 0) (j4 (aj)) (oE)) (mv 0)) (aa (ai) (aq)))) (au (aQ (i:=3) nd rfl (Or.inl rfl) (gm nW pH (aC (mv 2) (aj)) (aa (ai) (aq)))) (au (cZ (mc (LK T) hr T.inj (aa (aC (mv 3) (aj)) (aq)))) (au (bV (bq (cE (bN hr)) (aC (mv 3) (aj)) (ai) (aX _)) (aE (cZ (mc (LK T) hr T.inj (aa (aC (mv 3) (aj)) (aq))))) (bu)) (au (aQ (i:=4) nd rfl (Or.inl rfl) (gN (bq (cE (bN hr)) (aC (mv 2) (aj)) (ai) (aX _)) (mc (U9 T KX) hr T.inj (aa (aC (mv 2) (aj)) (aq))) (aj))) (aE (aM (dy (aa (mv 1) (aa (kP (vp (T.zd KX)) (by rfl) T.rR boot_int (aa (ah ak (aC (mv 3) (aj)) (aC (mv 3) (aj))) (aq))) (aa (ah fv (mv 4) (cK gO (by rfl) T.gX WS (aa (aC (mv 3) (aj)) (aq)))) (aq)))))))))))))
theorem zg:FG P w K mg base cl 4 "check_width" 1 zb:=cS (N:=["width"]) T.Uy fun hr nd=>au (bV ((kM (hW (cW (jB .tuple (mv 0) (by rfl) T.bU (by rfl) T.HI))) (km (bq (ko (bN hr)) (cK gO (by rfl) T.gX WS (aa (mv 0) (aq))) (aj) (aX _)))).mt) (aE (dq (c:=1) (T.cls.cls 1 "NoWidth" (at_mem 1 rfl)) cP (by rfl) hr.hd (c8 39))) (bu)) (aE (cZ (mc (Pk T) hr T.inj (aa (aC (mv 0) (aj)) (aa (aC (mv 0) (aj)) (aq))))))
theorem Pl:nY P w K mg base cl 5 30 "Slate" 2 dY []/\nY P w K mg base cl 5 30 "Slate" 1 dY [.str "even"]:=Qa (N:=["self","width","way"]) T.d138_0 T.ff (fun _ _ _ _ _ _ _ _=>vB fun _ _ _=>⟨_,rfl,rfl⟩) (fun _ _ _ _ _ _ _ _=>NA fun _ _=>⟨_,rfl,rfl⟩) fun hr nd=>aW (gn (aG (mc (zg T) hr T.inj (aa (mv 1) (aq))))) (aW (gn (aG (mc (CY T) hr T.inj (aa (mv 2) (aq))))) (aW (gU T.ff.cls T.pJ (sv 0) (aG (mv 1))) (aW (gU T.ff.cls T.lx (sv 0) (aG (mv 2))) (bz (gU T.ff.cls T.eZ (sv 0) (aG (aj)))))))
theorem Vd:FG P w K mg base cl 5 "many_words" 1 Fo:=cS (N:=["width"]) T.Uz fun hr nd=>au (cZ (mc (zg T) hr T.inj (aa (mv 0) (aq)))) (aE (aM (ah jt (aj) (ah ak (ah ak (aj) (aC (mv 0) (aj))) (aC (mv 0) (aj))))))
theorem Pn:FG P w K mg base cl 5 "bias_of" 1 B1:=cS (N:=["width"]) T.UA fun hr nd=>au (cZ (mc (zg T) hr T.inj (aa (mv 0) (aq)))) (aE (aM (ah fv (ah jt (aj) (ah fv (aC (mv 0) (aj)) (aj))) (aj))))
theorem Po:FG P w K mg base cl 5 "joined" 4 B3:=cS (N:=["width","sign","exponent","fraction"]) T.UB fun hr nd=>au (cZ (mc (zg T) hr T.inj (aa (mv 0) (aq)))) (au (cZ (mc (LM T) hr T.inj (aa (mv 1) (aa (aj) (aq))))) (au (cZ (mc (LM T) hr T.inj (aa (mv 2) (aa (aC (mv 0) (aj)) (aq))))) (au (cZ (mc (LM T) hr T.inj (aa (mv 3) (aa (aC (mv 0) (aj)) (aq))))) (aE (aM (ah ak (ah ak (ah jt (mv 1) (ah ak (aC (mv 0) (aj)) (aC (mv 0) (aj)))) (ah jt (mv 2) (aC (mv 0) (aj)))) (mv 3)))))))
theorem Pp:FG P w K mg base cl 6 "least_power" 1 B2:=cS (N:=["width"]) T.UC fun hr nd=>aE (aM (ah fv (ah fv (aj) (mc (Pn T) hr T.inj (aa (mv 0) (aq)))) (aC (mv 0) (aj))))
theorem Pq:FG P w K mg base cl 6 "check_word" 2 B4:=cS (N:=["width","word"]) T.UD fun hr nd=>aE (bV (hW (cW (mc (Gj T) hr T.inj (aa (mv 1) (aa (aj) (aa (ah fv (mc (Vd T) hr T.inj (aa (mv 0) (aq))) (aj)) (aq))))))) (aE (dq (c:=2) (T.cls.cls 2 "NoWord" (at_mem 2 rfl)) cP (by rfl) hr.hd (c8 71))) (bu))
theorem Ve:FG P w K mg base cl 6 "none_of" 1 Oc:=cS (N:=["width"]) T.UE fun hr nd=>au (cZ (mc (zg T) hr T.inj (aa (mv 0) (aq)))) (aE (aM (mc (Po T) hr T.inj (aa (mv 0) (aa (aj) (aa (mc (CW T) hr T.inj (aa (aC (mv 0) (aj)) (aq))) (aa (mc (UW T) hr T.inj (aa (mv 0) (aq))) (aq))))))))
theorem Pr:FG P w K mg base cl 6 "endless_of" 1 B8:=cS (N:=["width"]) T.UG fun hr nd=>au (cZ (mc (zg T) hr T.inj (aa (mv 0) (aq)))) (aE (aM (mc (Po T) hr T.inj (aa (mv 0) (aa (aj) (aa (mc (CW T) hr T.inj (aa (aC (mv 0) (aj)) (aq))) (aa (aj) (aq))))))))
theorem Vf:FG P w K mg base cl 6 "marks_of" 3 xM:=cS (N:=["width","height","side"]) T.UH fun hr nd=>au (bV (bq (cE (bN hr)) (mv 2) (aj) (aX _)) (aE (aM (aj))) (bu)) (aE (aM (gN (bq nE (mv 1) (ah fv (aj) (mc (Pn T) hr T.inj (aa (mv 0) (aq)))) (aX _)) (ah ak (cF (by rfl) T.wa) (cF (by rfl) T.HK)) (cF (by rfl) T.wa))))
theorem Vg:nY P w K mg base cl 7 31 "Desk" 1 Ck []:=P9 (N:=["self","width"]) T.d148_0 T.eJ fun hr nd=>aW (gU T.eJ.cls T.lJ (sv 0) (aG (mv 1))) (aW (gU T.eJ.cls T.gs (sv 0) (J1 (Pl T).2 hr T.inj (aL (aG (mv 1)) (bL)))) (bz (gU T.eJ.cls T.i6 (sv 0) (GX))))
theorem Vh:FG P w K mg base cl 7 "cut" 2 Fq:=cS (N:=["width","word","sign","exponent","fraction"]) T.UI fun hr nd=>au (cZ (mc (Pq T) hr T.inj (aa (mv 0) (aa (mv 1) (aq))))) (au (aQ (i:=2) nd rfl (Or.inl rfl) (ah ue (mv 1) (ah ak (aC (mv 0) (aj)) (aC (mv 0) (aj))))) (au (aQ (i:=3) nd rfl (Or.inl rfl) (ah uf (ah ue (mv 1) (aC (mv 0) (aj))) (mc (CW T) hr T.inj (aa (aC (mv 0) (aj)) (aq))))) (au (aQ (i:=4) nd rfl (Or.inl rfl) (ah uf (mv 1) (mc (CW T) hr T.inj (aa (aC (mv 0) (aj)) (aq))))) (aE (aM (dy (aa (mv 2) (aa (mv 3) (aa (mv 4) (aq))))))))))
theorem Vi:FG P w K mg base cl 7 "turned" 2 B5:=cS (N:=["width","word"]) T.UJ fun hr nd=>au (cZ (mc (Pq T) hr T.inj (aa (mv 0) (aa (mv 1) (aq))))) (aE (aM (ah LX (mv 1) (mc (UX T) hr T.inj (aa (mv 0) (aq))))))
theorem Pt:FG P w K mg base cl 7 "step_power" 2 zt:=cS (N:=["width","height"]) T.UK fun hr nd=>aE (aM (cK (LZ rfl) (by rfl) T.ML boot_max (aa (ah fv (mv 1) (aC (mv 0) (aj))) (aa (mc (Pp T) hr T.inj (aa (mv 0) (aq))) (aq)))))
theorem Gk:FG P w K mg base cl 8 "with_sign" 3 zm:=cS (N:=["width","word","below"]) T.UL fun hr nd=>aE (aM (gN (cW (mv 2)) (mc (Vi T) hr T.inj (aa (mv 0) (aa (mv 1) (aq)))) (mv 1)))
theorem Pu:FG P w K mg base cl 8 "bits_of" 2 B6:=cS (N:=["width","word","parts"]) T.UM fun hr nd=>au (aQ (i:=2) nd rfl (Or.inl rfl) (mc (Vh T) hr T.inj (aa (mv 0) (aa (mv 1) (aq))))) (aE (aM (gm oG qV (ai) (aa (bJ (aa (mc (LJ T) hr T.inj (aa (aC (mv 2) (aj)) (aa (aj) (aq)))) (aa (mc (LJ T) hr T.inj (aa (aC (mv 2) (aj)) (aa (aC (mv 0) (aj)) (aq)))) (aa (mc (LJ T) hr T.inj (aa (aC (mv 2) (aj)) (aa (aC (mv 0) (aj)) (aq)))) (aq))))) (aq)))))
theorem Vj:FG P w K mg base cl 9 "settled" 5 xN:=cS (N:=["width","chosen","below","height","place","endless","above_least","size"]) T.UN fun hr nd=>au (aQ (i:=5) nd rfl (Or.inl rfl) (mc (Pr T) hr T.inj (aa (mv 0) (aq)))) (au (aQ (i:=6) nd rfl (Or.inl rfl) (ah fv (mc (Pt T) hr T.inj (aa (mv 0) (aa (mv 3) (aq)))) (mc (Pp T) hr T.inj (aa (mv 0) (aq))))) (au (aQ (i:=7) nd rfl (Or.inl rfl) (ah ak (ah jt (mv 6) (aC (mv 0) (aj))) (mc (U8 T) hr T.inj (aa (mv 1) (aa (mv 4) (aa (mv 2) (aq))))))) (au (bV (bq nE (mv 7) (mv 5) (aX _)) (aE (aM (dy (aa (mc (Gk T) hr T.inj (aa (mv 0) (aa (mv 7) (aa (mv 2) (aq))))) (aa (mc (Vf T) hr T.inj (aa (mv 0) (aa (mv 3) (aa (aC (mv 4) (aj)) (aq))))) (aq)))))) (bu)) (au (aQ (i:=7) nd rfl (Or.inl rfl) (gN (cW (mm (yq T) hr T.inj (mv 1) (aa (iq) (aa (aj) (aa (mv 2) (aq)))))) (mv 5) (ah fv (mv 5) (aj)))) (aE (aM (dy (aa (mc (Gk T) hr T.inj (aa (mv 0) (aa (mv 7) (aa (mv 2) (aq))))) (aa (ah ak (cF (by rfl) T.HJ) (cF (by rfl) T.wa)) (aq))))))))))
theorem Vk:FG P w K mg base cl 9 "named_word" 2 Fw:=cS (N:=["width","text"]) T.QI fun hr nd=>au (bV (bq (cE (bN hr)) (mv 1) (ai) (aX _)) (aE (aM (mc (Ve T) hr T.inj (aa (mv 0) (aq))))) (bu)) (au (bV ((kM (bq (cE (bN hr)) (mv 1) (ai) (aX _)) (km (bq (cE (bN hr)) (mv 1) (ai) (aX _)))).mt) (aE (aM (mc (Gk T) hr T.inj (aa (mv 0) (aa (mc (Pr T) hr T.inj (aa (mv 0) (aq))) (aa (fP (cE (bN hr)) (mv 1) (ai) (aX _)) (aq))))))) (bu)) (aE (aM (uT))))
theorem LN:FG P w K mg base cl 9 "_law_bits" 2 zy:=cS (N:=["_law_width","_law_word"]) T.QJ fun hr nd=>aE (aM (gm oG qV (ai) (aa (gm vt xq (mc (Pu T) hr T.inj (aa (mv 0) (aa (mv 1) (aq)))) (aa (ai) (aq))) (aq))))
theorem Pw:nQ P w K mg base cl 10 "taken" 5 iM "even":=J2 (N:=["width","n","k","d","way","chosen","height","place"]) T.d72 (fun _ _ _ _ _ _ _ _=>xB fun _ _ _ _ _=>⟨_,rfl,rfl⟩) (fun _ _ _ _ _ _ _ _=>R3 fun _ _ _ _=>⟨_,rfl,rfl⟩) fun hr nd=>au (cZ (mc (zg T) hr T.inj (aa (mv 0) (aq)))) (au (aQ (i:=5) nd rfl (Or.inl rfl) (mc (CY T) hr T.inj (aa (mv 4) (aq)))) (au (bV (bq (cE (bN hr)) (mv 1) (aj) (aX _)) (aE (aM (dy (aa (aj) (aa (aj) (aq)))))) (bu)) (au (aQ (i:=6) nd rfl (Or.inl rfl) (mc (U6 T) hr T.inj (aa (mv 1) (aa (mv 2) (aa (mv 3) (aq)))))) (au (aQ (i:=7) nd rfl (Or.inl rfl) (mc (U7 T) hr T.inj (aa (mv 1) (aa (mv 2) (aa (mv 3) (aa (mc (Pt T) hr T.inj (aa (mv 0) (aa (mv 6) (aq)))) (aq))))))) (aE (aM (mc (Vj T) hr T.inj (aa (mv 0) (aa (mv 5) (aa (fP nE (mv 1) (aj) (aX _)) (aa (mv 6) (aa (mv 7) (aq)))))))))))))
theorem Vl:FG P w K mg base cl 11 "decimal_taken" 4 xO:=cS (N:=["width","whole","ten","way"]) T.QK fun hr nd=>au (bV (bq nE (mv 2) (aj) (aX _)) (aE (aM (mc (Pw T).fg hr T.inj (aa (mv 0) (aa (mv 1) (aa (aj) (aa (mc (Pj T) hr T.inj (aa (kj mq (mv 2)) (aq))) (aa (mv 3) (aq))))))))) (bu)) (aE (aM (mc (Pw T).fg hr T.inj (aa (mv 0) (aa (ah js (mv 1) (mc (Pj T) hr T.inj (aa (mv 2) (aq)))) (aa (aj) (aa (aj) (aa (mv 3) (aq)))))))))
include KX in
theorem CZ:nQ P w K mg base cl 12 "read" 3 cA "even":=J2 (N:=["width","text","way","word","parts"]) T.d121 (fun _ _ _ _ _ _ _ _=>vB fun _ _ _=>⟨_,rfl,rfl⟩) (fun _ _ _ _ _ _ _ _=>NA fun _ _=>⟨_,rfl,rfl⟩) fun hr nd=>au (cZ (mc (zg T) hr T.inj (aa (mv 0) (aq)))) (au (aQ (i:=3) nd rfl (Or.inl rfl) (mc (Vk T) hr T.inj (aa (mv 0) (aa (mv 1) (aq))))) (au (bV (Q9 (mv 3)) (au (cZ (mc (CY T) hr T.inj (aa (mv 2) (aq)))) (aE (aM (dy (aa (mv 3) (aa (aj) (aq))))))) (bu)) (au (aQ (i:=4) nd rfl (Or.inl rfl) (mc (Vc T KX) hr T.inj (aa (mv 1) (aq)))) (au (bV (bq (cE (bN hr)) (aC (mv 4) (aj)) (aj) (aX _)) (au (cZ (mc (CY T) hr T.inj (aa (mv 2) (aq)))) (aE (aM (dy (aa (mc (Gk T) hr T.inj (aa (mv 0) (aa (aj) (aa (aC (mv 4) (aj)) (aq))))) (aa (aj) (aq))))))) (bu)) (aE (aM (mc (Vl T) hr T.inj (aa (mv 0) (aa (gN (cW (aC (mv 4) (aj))) (kj mq (aC (mv 4) (aj))) (aC (mv 4) (aj))) (aa (aC (mv 4) (aj)) (aa (mv 2) (aq))))))))))))
include KX in
theorem Vm:ky P w K mg base cl 13 30 "read" 1 xP:=nZ (N:=["self","text"]) T.d138_11 T.ff.cls fun hr nd=>bz (c9 (jG (Pg T) hr T.inj (sv 0) (aL (E7 ((CZ T KX).alias T.gk).fg hr T.inj (aL (c5 T.ff.cls T.pJ (sv 0)) (aL (aG (mv 1)) (aL (c5 T.ff.cls T.lx (sv 0)) (bL))))) (bL))))
include KX in
theorem Vn:FG P w K mg base cl 15 "told" 3 eO:=cS (N:=["width","deed","word"]) T.QL fun hr nd=>au (bV (bq (cE (bN hr)) (mv 1) (ai) (aX _)) (aE (aM (qa))) (bu)) (au (bV (bq (cE (bN hr)) (mv 1) (ai) (aX _)) (aE (aM (qa))) (bu)) (au (Ka (G1 (cE (bN hr)) (mv 1) (aX _)) (DR (DS (mc (Pu T) hr T.inj (aa (mv 0) (aa (mv 2) (aq)))) zF)) (bu)) (aE (aM (qa)))))
theorem Vo:vA P w K mg base cl 16 "done" 3 OG:=DM (N:=["slate","deed","words"]) T.QM fun hr nd=>BV
include KX in
theorem Vp:ky P w K mg base cl 17 31 "make" 3 cR:=nZ (N:=["self","deed","new","behind","own","word"]) T.d148_3 T.eJ.cls fun hr nd=>aW (gn (aG (mc (UZ T) hr T.inj (aa (mv 2) (aq))))) (aW (fS (i:=4) nd rfl (Or.inl rfl) (J1 (Pl T).1 hr T.inj (aL (c5 T.eJ.cls T.lJ (sv 0)) (aL (c5 T.ff.cls T.lx (c5 T.eJ.cls T.gs (sv 0))) (bL))))) (aW (fS (i:=5) nd rfl (Or.inl rfl) (Ma (gS (bq (cE (bN hr)) (mv 1) (ai) (aX _))) (jG (Vm T KX) hr T.inj (sv 4) (aL (aG (aC (mv 3) (aj))) (bL))) (tF (Vo T) hr T.inj (aL (sv 4) (aL (aG (mv 1)) (aL (jG (LI T) hr T.inj (sv 0) (aL (aG (mv 3)) (bL))) (bL))))))) (aW (DP (c5 T.eJ.cls T.i6 (sv 0)) (aG (mv 2)) (jG (Pg T) hr T.inj (c5 T.eJ.cls T.gs (sv 0)) (aL (J8 (aL (aG (mv 5)) (aL (c5 T.ff.cls T.eZ (sv 4)) (bL)))) (bL)))) (bz (c9 (E7 (CV T) hr T.inj (aL (c5 T.ff.cls T.eZ (sv 4)) (bL))))))))
include KX in
theorem eK:ky P w K mg base cl 18 31 "say" 1 aS:=nZ (N:=["self","row","words","deed","found"]) T.d148_1 T.eJ.cls fun hr nd=>aW (fS (i:=2) nd rfl (Or.inl rfl) (aG (mc (UY T) hr T.inj (aa (mv 1) (aq))))) (aW (fS (i:=3) nd rfl (Or.inl rfl) (aG (aC (mv 2) (aj)))) (aW (fK (gS (bq Dd (mv 3) (qb (by rfl) T.EA) (by with_unfolding_all rfl))) (bz (c9 (jG (Vp T KX) hr T.inj (sv 0) (aL (aG (mv 3)) (aL (aG (aC (mv 2) (aj))) (aL (aG (nF (mv 2) (j4 (aj)) (oE))) (bL))))))) (ez)) (aW (fK (gS (bq (cE (bN hr)) (mv 3) (ai) (aX _))) (bz (c9 (E7 (CV T) hr T.inj (aL (c5 T.ff.cls T.eZ (c5 T.eJ.cls T.gs (sv 0))) (bL))))) (ez)) (aW (fK (gS (bq Dd (mv 3) (dy (aa (ai) (aa (ai) (aa (ai) (aq))))) (by with_unfolding_all rfl))) (aW (gn (jG (Vb T) hr T.inj (sv 0) (aL (aG (mv 2)) (bL)))) (bz (c9 (aG (ai))))) (ez)) (aW (fS (i:=4) nd rfl (Or.inl rfl) (jG (LI T) hr T.inj (sv 0) (aL (aG (nF (mv 2) (j4 (aj)) (oE))) (bL)))) (aW (fK (gS (bq (cE (bN hr)) (mv 3) (ai) (aX _))) (bz (c9 (DL))) (ez)) (bz (c9 (E7 (Vn T KX) hr T.inj (aL (c5 T.eJ.cls T.lJ (sv 0)) (aL (aG (mv 3)) (aL (aG (aC (mv 4) (aj))) (bL)))))))))))))
include KX in
theorem C0:vA P w K mg base cl 19 "_law_refused" 3 zh:=DM (N:=["_law_desk","_law_row","_law_word","_law_found","error","_law_some"]) T.QN fun hr nd=>aW (fS (i:=3) nd rfl (Or.inl rfl) (aG (uT))) (aW (JW (names:=names) (d:=0) (n:=4) (x:=3) T.cls cP (at_mem 0 rfl) (bz (gn (jG (eK T KX) hr T.inj (sv 0) (aL (aG (mv 1)) (bL))))) nd rfl rfl rfl (Or.inl rfl) (by rfl) (by decide)) (aW (fS (i:=5) nd rfl (Or.inl rfl) (aG (bJ (aa (fZ (names:=names) (d:=9) T.cls (at_mem 9 rfl) (mv 3) (by rfl) T.bU (by rfl)) (aa (fZ (names:=names) (d:=8) T.cls (at_mem 8 rfl) (mv 3) (by rfl) T.bU (by rfl)) (aa (fZ (names:=names) (d:=6) T.cls (at_mem 6 rfl) (mv 3) (by rfl) T.bU (by rfl)) (aa (fZ (names:=names) (d:=3) T.cls (at_mem 3 rfl) (mv 3) (by rfl) T.bU (by rfl)) (aq)))))))) (aW (fK (gS (bq (ko (bN hr)) (mv 5) (bJ (aa (fP (cE (bN hr)) (mv 2) (ai) (aX _)) (aa (fP (cE (bN hr)) (mv 2) (ai) (aX _)) (aa (fP (cE (bN hr)) (mv 2) (ai) (aX _)) (aa (fP (cE (bN hr)) (mv 2) (ai) (aX _)) (aq)))))) (aX _))) (bz (c9 (aG (iq)))) (ez)) (aW (fK (gS ((kM (cW (fZ (names:=names) (d:=5) T.cls (at_mem 5 rfl) (mv 3) (by rfl) T.bU (by rfl))) (kM (cW (fZ (names:=names) (d:=4) T.cls (at_mem 4 rfl) (mv 3) (by rfl) T.bU (by rfl))) (km (cW (fZ (names:=names) (d:=7) T.cls (at_mem 7 rfl) (mv 3) (by rfl) T.bU (by rfl)))))).mt)) (bz (c9 (aG (iq)))) (ez)) (bz (c9 (aG (lO (Dv (names:=names) T.cls (mv 3) (by rfl) T.bU (by rfl) T.v8) (lO (qL (fZ (names:=names) (d:=1) T.cls (at_mem 1 rfl) (mv 3) (by rfl) T.bU (by rfl))) (lN (qL (fZ (names:=names) (d:=2) T.cls (at_mem 2 rfl) (mv 3) (by rfl) T.bU (by rfl)))))))))))))
include KX in
theorem Px:vA P w K mg base cl 20 "_law_as_before" 4 Co:=DM (N:=["_law_desk","_law_names_here","_law_kept","_law_marks"]) T.QO fun hr nd=>aW (fK ((uo (kz (ko (bN hr)) (Mc nd (by decide +kernel) rfl (jg (by rfl) T.kd (aa (aj) (aq))) (fun _ _ _ _=>Qf (eK T KX) hr (sv 0) (aL (aG (ah ak (ai) (aC (mv 1) (mv 4)))) (bL)))) (aG (mv 2))) (rh (kz (ko (bN hr)) (jG (eK T KX) hr T.inj (sv 0) (aL (aG (ai)) (bL))) (aG (mc (CV T) hr T.inj (aa (mv 3) (aq))))))).st) (bz (c9 (aG (iq)))) (ez)) (bz (c9 (BJ (tF (C0 T KX) hr T.inj (aL (sv 0) (aL (aG (ah ak (ai) (aC (mv 1) (aj)))) (aL (aG (ai)) (bL))))) (BI (tF (C0 T KX) hr T.inj (aL (sv 0) (aL (aG (ah ak (ai) (aC (mv 1) (aj)))) (aL (aG (ai)) (bL)))))))))
end
theorem fin{K:PySem.W.Frag}{mg:Str->Option Value}{cl:Nat->Addr}{fa:Addr} (mW:mg "law"=some (.ref fa)) (T:Tx w K mg cl):∃ fd:FuncData,(∀(s:Shared)(v:Value),BindsTo s fd ⟨[v],[]⟩ [("_law_script",v)])/\∀ base:Heap,K.In base->base.Ns mainGlobals mg->d9 P w K mg base (hZ cl P w) 21 fa fd ["_law_script"] (spS K cl 1 q_law_v93) :=
  Qb (N:=["_law_script","_law_wide_here","_law_width","_law_names_here","_law_way","_law_desk","_law_kept","_law_cell","_law_row","_law_word","_law_marks","_law_due"]) T.QP mW rfl (fun _ _ _ _ _ _ _ _=>.of_eq rfl) fun base KX f aK A outer s H E hr nd=>aW (fS (i:=1) nd rfl (Or.inl rfl) (aG (mc (U0 T) hr T.inj (aa (mc (LL T) hr T.inj (aa (mv 0) (aa (aj) (aq)))) (aq))))) (aW (fS (i:=2) nd rfl (Or.inl rfl) (aG (mc (Pk T) hr T.inj (aa (aC (mv 1) (aj)) (aa (aC (mv 1) (aj)) (aq)))))) (aW (fS (i:=3) nd rfl (Or.inl rfl) (aG (mc (U1 T) hr T.inj (aa (mc (LL T) hr T.inj (aa (mv 0) (aa (aj) (aq)))) (aq))))) (aW (fS (i:=4) nd rfl (Or.inl rfl) (aG (aC (bJ (aa (ai) (aa (ai) (aa (ai) (aa (ai) (aa (ai) (aq))))))) (ah ey (mc (LL T) hr T.inj (aa (mv 0) (aa (aj) (aq)))) (aj))))) (aW (fS (i:=5) nd rfl (Or.inl rfl) (J1 (Vg T) hr T.inj (aL (aG (mv 2)) (bL)))) (aW (tE rfl (aG (mc ((CZ T KX).alias T.gk).fg hr T.inj (aa (mv 2) (aa (ai) (aa (mv 4) (aq)))))) (mx (i:=9) nd rfl (Or.inl rfl) (mx (i:=10) nd rfl (Or.inl rfl) (xc))) (show ∀ i∈([9,10]:List Nat),i<12 by decide)) (aW (fK ((uo (kz (ko (bN hr)) (jG (eK T KX) hr T.inj (sv 5) (aL (aG (ah ak (ai) (mv 4))) (bL))) (aG (ai))) (rh (kz (ko (bN hr)) (jG (eK T KX) hr T.inj (sv 5) (aL (aG (ah ak (ah ak (ai) (aC (mv 3) (aj))) (ai))) (bL))) (aG (mc (CV T) hr T.inj (aa (mv 10) (aq))))))).st) (bz (c9 (aG (iq)))) (ez)) (aW (fK (kz (ko (bN hr)) (jG (eK T KX) hr T.inj (sv 5) (aL (aG (ah ak (ah ak (ai) (aC (mv 3) (aj))) (ai))) (bL))) (aG (ai))) (bz (c9 (aG (iq)))) (ez)) (aW (fS (i:=6) nd rfl (Or.inl rfl) (aG (bJ (aa (mc (LN T) hr T.inj (aa (mv 2) (aa (mv 9) (aq)))) (aa (mc (LN T) hr T.inj (aa (mv 2) (aa (aC (Rt ((CZ T KX).alias T.gk) hr T.inj (aa (mv 2) (aa (ai) (aq)))) (aj)) (aq)))) (aq)))))) (aW (vy (i:=7) cP rfl nd rfl (Or.inl rfl) (qN (nF (mv 0) (j4 (aj)) (j4 (aj)))) (aW (tE rfl (aG (mc (Va T) hr T.inj (aa (mv 3) (aa (ah ey (ah js (mv 7) (aj)) (ah ak (ah EO (aj) (aj)) (aj))) (aq))))) (mx (i:=8) nd rfl (Or.inl rfl) (mx (i:=11) nd rfl (Or.inl rfl) (xc))) (show ∀ i∈([8,11]:List Nat),i<12 by decide)) (bz (fK ((uo (qZ (qY (tF (C0 T KX) hr T.inj (aL (sv 5) (aL (aG (mv 8)) (aL (aG (mv 11)) (bL))))))) (rh (qZ (qY (tF (Px T KX) hr T.inj (aL (sv 5) (aL (aG (mv 3)) (aL (aG (mv 6)) (aL (aG (mv 10)) (bL)))))))))).st) (bz (c9 (aG (iq)))) (ez))))) (aW (vy (i:=8) cP rfl nd rfl (Or.inl rfl) (qN (bJ (aa (uT) (aa (aj) (aa (iq) (aa (bJ (aa (ai) (aq))) (aa (dy (aa (ai) (aq))) (aq)))))))) (bz (fK ((uo (qZ (qY (tF (C0 T KX) hr T.inj (aL (sv 5) (aL (aG (mv 8)) (aL (aG (ai)) (bL))))))) (rh (qZ (qY (tF (Px T KX) hr T.inj (aL (sv 5) (aL (aG (mv 3)) (aL (aG (mv 6)) (aL (aG (mv 10)) (bL)))))))))).st) (bz (c9 (aG (iq)))) (ez)))) (aW (fK (kz (ko (bN hr)) (jG (eK T KX) hr T.inj (sv 5) (aL (aG (ah ak (ah ak (ai) (aC (mv 3) (aj))) (ai))) (bL))) (aG (mc (CV T) hr T.inj (aa (aC (mc ((CZ T KX).alias T.gk).fg hr T.inj (aa (mv 2) (aa (ai) (aa (mv 4) (aq))))) (aj)) (aq))))) (bz (c9 (aG (iq)))) (ez)) (aW (fK (kz (ko (bN hr)) (jG (eK T KX) hr T.inj (sv 5) (aL (aG (ah ak (ai) (aC (mv 3) (aj)))) (bL))) (aG (mc (LN T) hr T.inj (aa (mv 2) (aa (aC (mc ((CZ T KX).alias T.gk).fg hr T.inj (aa (mv 2) (aa (ai) (aa (mv 4) (aq))))) (aj)) (aq)))))) (bz (c9 (aG (iq)))) (ez)) (bz (c9 (BJ (JT (cE (bN hr)) (jG (eK T KX) hr T.inj (sv 5) (aL (aG (ah ak (ai) (aC (mv 3) (aj)))) (bL))) (aG (ai))) (BI (tF (C0 T KX) hr T.inj (aL (sv 5) (aL (aG (ah ak (ai) (aC (mv 3) (aj)))) (aL (aG (ai)) (bL)))))))))))))))))))))
end K93
namespace PySem.W.Fast
local macro_rules|`(command|#check[$l,*])=>do return Lean.mkNullNode (←l.getElems.mapM fun x=>`(command|def $(Lean.mkIdent (.mkSimple s!"tw{x.raw.isNatLit?.get!}")):ident:=Nat))
#check[2146060774489203668,2834833335728902314,122217510940094706,17705895566270243034,14473210264625947643,5378084707393192797,4508782562270664088,9946653869976237486,16099781695876897287,14758158748007705243,1103190820893841297,8378414732967839387,9573815010218579489,3688129559561505722,9787355974091462705,4758468423148197556,10951601767663659722,5639350161242228704,18045564471173910485,4283842757587748991,2275232168477858417,11702206050746556280,4549517171318052347,14916244970411789429,15626915348465449622,5770539721962706517,6812690677041646974,17500782567841525688,18284249576863074848,7991272613373224895,13270786639095974840,16178940280099587226,2063885109094150665,17694223693948542435,1670531706983695602,16089308331644295854,8517371872503323428,15752979830319346777,17655239686324544134,16276053164018437864,9930265087864105358,7677054969621071110,10672411002859530632,7477784457729204656,6054341910170477458,6733348139119804992,14416092588728272701,3033483963065830178,14251862020581696208,6360013387461250758,6833999494412314684,9960536899090218551,11495323346169682088,11490572031038042596,12533188368213993745,17927512523383361303,5566439158142463826,440336200040118755,13045027381159157505,4056711069319290753,13973112794220740369,7389947794946332457,1946410322080795826,17204816202898440420,18144800861141885305,8742808851403136856,2232831804417717855,1777480068310012996,6684250119745554151,808998009150564485,12484287483662295234,708914251083818854,895152679845584582,11488826975653639411,2444621878499655779,4508342099614940400,15480639011533280852,15487927890384866304,12180545700888973398,9009105613720467468,5640522866810358346,1804052137911804110,16907763513482793413,12675478163200856260,10702640908180595859,16480647794743104361,15132505660973187459,164964312042499714,17680024322308561248,8194214390437344862,18033032553714026437,9719432081886936890,16332352140406531943,3169293113622543329,17403280571545323673,10071471596709585391,9385973123964723231,10770982204211062516,8069601355351714534,7443312932802610066,17195579521429744721,6477736702960945637,16598569351727817104,2318443122014445317,7521716644219769966,9676981720982493200,3650667200908141005,2844422896415170492,2484517779253708374,3125102611968472715,2937995380821453348,10306116953711494594,18195029757175162545,15237354634432782215,12879926191380177966,13068748826064580764,3108017571004981364,3172548687619345171,10150509575679782380,9730537799965993523,10678289517458499918,14820921963022665612,6311660169848965372,16348373359597455598,6897721280868851425,3823521407148290278,824191121543581518,13414754783669623345,16104211121502254047,9211912092556187174,7350074350638750660,538572121270272713,1970292096662663617,8332486160975672146,2983391818598817855,15838225607804497534,7063632293673376059,14565634039712354664,8528096794202933618,8152557190389903554,12808378991722128382,9418498609576450425,16426871010931430726,17846905708881770590,3342257317307030193,1649028273608161909,14671037850938452713,17187032479149201313,6368257695812841513,15446309019984949821,6042809123294846916,10610183097963877771,6806344233177198330,3849659154010098678,2691159054054282202,913996553445022986,13587329457515760009,8147710608577130608,15271434183859172422,17746392632028219608,17014872431636822151,12476409224909599939,4956085697257171799,8880971770074172663,116201414082025762,16292896288496009844,6551828550231085944,11912948172315602289,16039532398381178170,9095207920919227539,5325041899799144862,3288542973643014178,723295058070077763,14969697168854532190,4611770854959735154,15904719968235466533,18267228262709465763,13898834196373318187,5267211252990896768,3044520597658512763,1688909912481359199,10900960196750735508,10190242105639155863,11062659396164326414,8079168143866203946,7082562212892835501,17483965386032585876,1445244288929496824,7870054869642818366,13072759246995264538,10774468581247255351,16561554162271952793,10385933802335253102,14156853346995945078,14101248917132403231,12712479118631102818,10531784288067716635,1668965993931765898,17486325970130219335,9949217745608377082,8341301071578019984,15428911942491659204,8068732549801901394,2180123819877762030,14033831504802419870,12538734020838168114,13801091994204403637,12289444012183650774,18250335452489557055,2543332914548908410,812222755828726853,15012150351753713511,1282391395958424241,14084500998993504433,6187669799734334223,5466768528944659092,2390282395579558230,16986912986244025703,1169585142116534232,11651783582130139486,15378367223697064269,18346348512138703148,16897428607350110103,11791391070566813902,9287387549830817166,10628196418129736004,125580622066892502,18411330744631119430,18060486791225902653,6122460946566832759,15912002966251491815,3641551877435952295,6582670701758464354,5217297313011455507,10049542640793002082,11021830171237627545,17483717407499293982,14914088334068714163,696521327175898712,2330160517083308571,9311655599972777183,17606387011068012623,5889784583429998545,7461198503259886911,14337139269556751017,6215937392158963525,15928356695130500206,9347402527680548013,12559472187913405521,10144349109346278430,15198318546173649368,5649011505996301005,12550308836902175569,14029131907621423998,7582005850129592537,13897988179728465613,5505982810828924282,18139158443377950370,8518402092748942619,3768958966985056684,7891895109737965642,13191780981530760283,7986289610879191953,588482535019661871,3832788405347978524,15456326786602392398,14896253938763349795,12216625186972529961,17496095609185173758,5715405022130243670,11267085051826654489,1941446393632132136,2630329961882752885,10638116451625092291,6780517036767647098,14665431272417352801,8840947220628436245,17797278307352759543,4606175235436504993,4726285909193570599,7679522556870730875,11400094150728597896,6633469594556165694,9106073441092058380,8008067099174437860,9868940718138085441,1621423159535514835,12830112242361920921,17903110944881294708,15609964153500816007,12048698729397826649,15642333889311447944,9011031041453198402,174852736402378038,10682426559235585002,14353902365813468910,9521994982457084959,15010983073706268331,16538882578692891840,12613732574521513692,16536451877709297319,10340113943560389717,14260729749145911618,17357111541524552308,1776685350485010527,16248420182638632098,8061821500541076519,14785022009328233820,16096393881270879312,884390862064370624,3543691107721578495,16393488546257656749,4676133421501129546,10612301847993290957,2088482427550525605,7693401317280983330,7361107824392742314,14217664123660458618,11658027544469155310,16790317744037150042,15369992652298556199,696305077888692279,7352255968840696666,3794021757846752159,2658200403824709984,5006803064816068252,12712891078758743183,2421301650508792115,15512272961717653996,6079856338527414351,1075711985926786346,375920929261973086,10529467135102078481,10829573966494408492,14975637658919218419,8529248768759485048,8023139083253724151,7751258602924180809,3914971887604863363,17896979331800825733,16928495421088830928,14544827904112244529,11076923484027027572,11325004520443022937,2476699040474752109,7031981025021146657,1007037065938896491,2043228279901888290,4293946660356102969,17239617848220493627,2887345635391774864,17834212459697318324,1542231390849836464,9548493933274367371,6619132887326513243,6490910537063998286,14500818549489708424,17606062218762931483,16455057578150934014,15081392350177784977,2344342874712760157,16754943943165543004,6605253933938126044,16996820709921946697,14927325654483494226,242682614697007245,15507519618085972241,2954229747394328602,13738982622428692057,457996013454723562,4532917645583635963,15285677136364964655,9532925651964358395,1339264962302014205,10876199790762971829,18374741927995609532,5233452061692583220,340996388429126652,11793590850498529321,1072820033140400150,9174829697747858559,6857643655393851986,8738245261771708163,14085158204951735061,16210354249307407953,18033827567364146928,3044402703205840520,5234904611181847305,14985046577061786871,11706109834001738289,5004429073294572101,2184381513742542072,4989346715679913215,15120628137131474200,18412630764146237798,12074757071933879464,18269950691475937563,5314608471772861037,13095607263017347653,11351604646386339202,2081259529513379106,12983300611118721980,8309105296102173974,7433697436361258093,4833169928084092180,2327821928647616461,15664414980046009884,8319252212898865195,6818167340030891015,11944185625261778215,3163301292427871440,17486041127723101902,1149473446897920709,13103665596363302197,7220273593365013030,804065901822246958,411920173315861438,9276816242355047056,13107686357398745991,14255335227407068984,3696123451893906212,3296792685516344014,15006853924209289412,4078058307393725660,15192933952538938282,9525784006473429479,3589395681632513313,2402183087765273915,333255712433941639,13192950172318902848,17342940727671292764,16284440494167500135,8226086810843817572,10788506317500456360,4109511613389591128,11366271924767172615,13106064228454848948,4972566718314751653,2487871163135940248,14813995856023409582,16145352255650581542,7455492841638853586,8471939737181188104,18169819200445207230,4734628920957366725,17158567509090315902,6089801408710094421,6261526859268443879,6341303982090891005,14062917403901643937,15917924241454541598,259467271389989826,3264992214445600411,7939608511507396097,15745471652594011862,5486431634146472865,3464688901418734517,8512810426068361691,9941997743256441670,3109513442173205778,11235570395812369228,2020416818260026435,6063222878014201817,8570582859632912542,10715142255536704295,2149914615709985245,10458051484500750905,6045513147127547024,3253997995793707272,11512716702862736758,10880176047055577144,263824824467277645,17949878392451302242,2194481787230570011,1257216065758228052,15147598340460524844,6608445596782584602,16266385165494216910,4979439310373112351,3412090526139565447,8900915691550390407,1068593927366322413,3130252503118453145,3147704089534374361,3269308240565935911,11540586674753618307,426566639967788201,5523313906101963698,598107235509043324,7820394031715773006,18002691040563160358,4462285905309648070,9797966100138208833,16853279561139659638,4521826074916079233,12088842903035379005,17357033551790196278,5276478507823296208,15448529763124648591,12527948908876718916,10356399131232445570,83687723828699419,7150690568574072757,16404795183106370150,11567441525857906716,574026236566399771,18289115247723029717,13746881074236473315,8405811742156471602,7457129123978400370,6776845531028336343,278479066903911502,8198116710109412645,6090927293605833132,12227106621207249921,11271655944999971230,1201745057506265558,6572998974965238427,3520101193059183429,6247114603628340054,11641127719851846678,15752234263988164545,15731603420582742612,14134649490928298893,7959926049819542453,18352240545907469023,10405710605859355191,14065771150637975774,14743538159634901863,9840862130931205380,15330611564603206550,3979442877844624299,1650326401599109017,10679972973428757606,2232508639611668842,14189551421995885540,4549386755430836657,14162503661577980055,6594114299753253180,1261938694131659343,11708486779724687673,8564299476165731086,14816262096214378958,40627789022521727,17053330764114684102,18340586157706091288,10638247574975115579,15688139919898413349,14433052489517372664,7830238213439647598,7357519747351307619,2396031703629971613,12567929391772388249,4313791231850815498,4430747993260553274,2230411617808215863,17905006836359462475,14566801174747463523,13254957787929279153,12606797241579733660,5010886064466308545,6624669014189497722,12366280823036810515,7553798667944105784,17899043672470290278,10644426427492424347,16428392327440716521,3081953377959612417,16566772214637972275,1181602897928301238,11002802690819428402,14199269927576418864,14393824271415859712,11733097485614949733,3583368425607793839,2742770189234891761,1447564041839415163,16702701173322850194,14287148136283655791,952431784099194439,11116713733142889880,15221117590985059740,13358434445336375309,13458667866175130048,236375163551990319,7820711812296555257,1887374419239606855,6165626757525066671,2021633964905597842,845451816284275838,1320875633179986186,10170789524985868807,14640175726189910319,12272654619651194687,12889393726401964695,15261474114524075600,3390381608290667236,12173272581180668487,10989736551246617130,14650677205630243317,1479135639477165241,7713986098280600946,7134457666197193818,11054499137708138048,12699683261058074464,16386986367323848800,6614228671015080705,16143974794435276935,1717626502096169515,7292938470493231219,1850257962264799239,14721688657433289886,2867723160517181907,5889436633401437285,9746069807850841106,13973452638435916836,2997826160354935972,18054224096131450032,6102554159867667126,554139449318621846,13563764499946703040,5453941022452135537,15188637625411218149,10262737121383886231,6364020569019443136,6502011411295246476,6471410687483075576,10570492981271844924,18413753474258225947,11870259468378501202,11711389815897247808,3477483619032042391,11432953799617202942,3673292088357834482,1085255216199026451,14470985063350438937,1010404216692832538,13092105985186413207,2459670901260509244,11443490317764488657,5651142939615340500,9327512119370044905,17249104763367679005,12567888105414681794,5645930483047688258,16341691936127855138,15606989781895408218,12373742115562965306,11803865765192269623,4772271479008896078,16526848675528061021,16518878903914190599,3220645759050259391,3569096106573336908,9041410178260190035,13723451862732318953,4009551317754736920,11030605514035968418,14129399531473789112,5348518657002264295,9493246135222021929,4714178793340948652,11107167169252955310,9711639619487259487,15232025781466560278,13793622125332273205,3126074359452613138,6243241223173664950,2922210849917417874,1626581106425442498,15042002217615306064,7873820714270230564,6566105046559901662,13512817673514878416,13068361984468259202,13317842572220868140,14334088190811259391,1727819051864689042,7659073252324865598,13941763956693182973,11880940293829235532,10178123437285224503,7807498749188006642,1434284644527164591,4894779620089510710,12289496604412141414,10608543306043141034,15750199779984105220,1570364763223867308,8229276332699825923,11528766771367140978,5004364507741890918,4247365217203949641,13386077044046325297,2368141181418203515,3344016542232122735,3644383129409678762,3710231237548755287,4912899274932863391,7978777296526342572,14067713966156958376,3529666302797635472,14685579654444294265,4623375294498368342,901333711158464088,2516627148946493475,15402339791490623113,16368836826192408784,13922261499665764294,8296387337966787633,7487436312891422259,16160625128249841953,1047173835551507839,9834834635655996410,15888759053716807259,385293207905828943,6822129150097329349,671213197827984838,8945517787477163985,7532066043994213569,12793103275951107456,9074825891081303857,8032996351717205053,9857356765674249947,15812138408120407812,11239982751827637080,5493114392928011749,11945076741573520939,17207677308279368575,10388078802305100223,3008319605281433226,7101627028379969164,1493236268216020518,9972749128592889834,15064430228506836164,12791336766460645618,8850291297350742340,7181316041784836264,13248427106552895695,9692091829284650606,17182632219887623403,8817634871752382181,2524992141459384982,17447599953244246424,13559708051725667365,141105427951485193,5460064322934416620,12748581054152799950,18433845409581728019,516448290535987133,13911746742229420719,16066852910759370947,8950591213150452207,1283819589045736288,3659243268655812650,382115808794296740,5350819090301706464,10706427545308426843,16940068015684444457,13758919895116153220,5536490775445615517,355518353737495650,15337396899775026597,17672355894671660914,885663611526750833,2882045211236461428,12470762861651285648,3094530884399910568,2622921600028060842,2655814242187265939,8607869571360381909,13371011991643540439,9269369426977416197,17308807158525699212,12498712845656103839,8148090667894709034,11881532799043382226,6653963140831529862,10850759265767804632,14787478337115308320,14768462116818268648,16541913530095749065,182494509438608061,14814549204174664136,1732047293961064697,10168023885295959537,2034745520890194375,8960661983544895961,8286726366594148491,13902849767936596595,587084252657283903,10777788534157485036,4203465628975712460,15366578481563195587,15265433375013626547,7592128300364879413,8747343788967337138,6769349713747024397,9397198933141455096,14133465157716255238,4361212797563783361,10418684337784418518,189744812717017789,10616895641056392593,4424849275586572476,11167667243425748544,7072571093497124836,12421376411392934848,14444038609174478450,2054671104856534165,7715963798709082594,17175141283615290111,5807910295577681931,18413390423193989296,3313082832009361816,2651085835809643474,214136657099071002,1157355369751101199,1378325764775573464,14145830847870890554,17417944893603380418,11814474965197338163,12313124666745678508,572472693957486656,756665472946634598,6665948396588474898,12555713180655231025,14995915322978362779,6392506922025102956,9772492715206438593,12911482785799377703,10244688151591560234,2300566962535169285,4553223510806581441,1384886199275449412,10710240386484615129,15621806023693286481,5965871999854828323,11386486578068626514,2100428019638228784,2994872132663200835,5829705593775522057,16158754449228738861,1277945285795783811,10994957878701872670,6367836949853065767,1098064292426788386,3814301261914148130,1208658460086761899,5902505157357417208,5336551176066444660,18210766721809646551,11866518014839713304,1107540842866624372,7250808092541023584,8387629778764485824,13967994436161063781,15142944077047688621,7662708473776892207,5786072761136117188,14918849397286484424,14880272941895874886,6539807916726486118,8644951000469453901,715805824221321984,8963622119351989932,4076801833540837043,17958072967083727757,15069205292692157347,15992629630415799150,1641771169566316459,7386548591761491435,2446614610921836195,7895810500916416756,4206000557404322801,176128261677314060,2900966603004987680,10349211034869222139,10384182173202251489,2197078849494314466,14983167880406071235,11607371471045746071,2702258527836040002,4439701156685731865,946664149790320388,11997391394178791034,11596822637018057991,12554306177534609808,6425155516192414879,16395828449505059164,17686183483291121049,2607844048684132355,10436468506286776868,2789694390926171907,13122855550564950451,9198485626964069998,4532575432956455383,16913863345116353534,9711207363203536034,11142078473144988278,8277424444569983372,7523637895715388262,12842966089196947895,17859632360669989918,16253027441691037885,3615432163683575386,7918509151449881479,12940001633702251728,12967890898140617488,16014311299502116354,18344436234925693194,13681879118830667780,12868872364386885808,4107435965720232533,2259680556525714086,9154551931770541423,9600109908153095087,18088628339480930517,9466645229427316094,2424704802237835953,17610897676813095054,4800418658402287496,11661769986224831701,3002641617798626173,3842304078602980440,15952501686759888457,321297155705149085,13557043741906785868,13865066099294376800,8458881206762217031,15260919911656932791,6102579999785091335,1502927396747311104,6229658578003765371,9896192559589447850,11966333399125610582,7257115931189455685,11540584199543244495,7546763849688876637,13863942695115978447,9232479698730357084,4901567140758120478,8731082920585744704,1099180164354690723,7543612535886475325,10534125719527756706,9331673095739985799,13301529673683949189,14631971951687171319,17524367863341316853,15925432525148781889,11128056791427408664,2047436433620932562,9049825813177647368,3279497002670267869,9729929083414084797,7210280993599484989,5908332664810284912,4534255720395884191,8652171837391415852,14571422691820618596,377149609672488235,8465166228872329670,12591984430641161596,2337790581221834274,7503627775023813089,7995389542343227485,8135686517416642329,8766008375098207764,2718958221562866015,18083080155444439409,14221755673952854704,12935089486814183308,15024924373023509329,5664237669852234246,10099508498608613688,13955537760450366741,6831100629852933302,4851756484534863982,8649793422670962596,1152009960335836873,11790002539059004325,17975584036704490249,907282113868488818,9405415711615651801,13254170682063505860,7705891523630183431,13308603332960858789,8246235605066068513,16653403213610595406,14376580345215264694,9083409085234542641,1716853819656369251,2176626782956385678,542740781864287809,8285130215948874016,772849374581818427,10793785874078191218,16746424388722289946,10504912720616858391,14535312692765316146,15458384987963666505,4439754765207346400,16160174730256537220,14794800456016738035,7761517242121299038,14785928227602280117,11964378520621220243,18119851289416404705,9824129463166707544,13387587821199355619,16133928451833980760,5092867718578123143,10041362709855314009,7845084149392737932,13875224943760100045,8130042171760701891,18212624564656591766,4448861510246215091,2243608739576858309,15164783146224594168,18007362020910537630,17658823058110256269,9186848500959911047,13701573080421701810,15240622246407747185,8683683111459584292,96359153458795025,17975622359551714477,856085345829221393,5804113064508761145,9424016325508971296,4120839031618951920,1244791041178396453,10368856983718170781,9223212090073798563,15655176747222426909,4960552816202196522,11454992202844132492,16209140684206433111,16670035226177354365,15855999569430356851,11585175714096129520,8800146367151155303,13356009900080045058,16968197752668676811,175923208196542462,3624005710066196135,15133176790074337545,11983993344894114826,9600980836050855401,14433447413567094103,13391186987805825564,3092736332753113275,7928353698638082813,15370311827991774441,5862774589857274947,14298276483781462507,8252591328997773652,18219599631602680120,13042069326624938027,17232842475660393938,12394306512885698290,16872928277225329106,3903645863505510169,11106750431615302960,7205848965691287825,18368836509277392332,4675737248594096177,974089759521622153,18174493970362595623,8391454600429744134,1002918991064252953,13597825904493041947,18082866140879460886,14405406531085743151,16643455765807399967,11891735033221493717,9574168008009372102,4754967897087385425,14329908900775069095,7626424957309832394,15986883306785485071,13326243493712072168,8626502501232034549,9700205754028133891,9972995577807272342,10708731029858793862,17943197064726958797,17376589283556116715,6973313449903519559,18102542549327135506,7355596431649649057,8405379571331288775,14557180012830117728,13657368521401857447,18364992904031779444,11955334969594404857,9509022373916260091,1095240294490450191,14386761346590233446,16465344541806666700,18223168888684719130,17854800211984566711,18058395268660902017,2968071346051793482,7848633706436912428,17921384349366171760,656332344139620290,16669836292055308712,13811313602324495992,11868547196693063258,17153570155452395909,4846322786441896583,9125308151309571268,5771570187935462942,6415105346465401993,14502430692384461120,2045575410343691436,5262456497866522488,9867801009640966917,16875074571089295873,4156087086203034869,4701794126674666103,15683205423634736061,17355906789628407406,14008089230621800286,16733668548433525535,10221598854671052488,12718928700296377026,17640408245495798521,11158864004060857685,13218040730817531517,11717966788611311005,3176975227254369573,6508962968181000423,4555075764046945906,4231521005915802428,5715621438072548848,6642501981644158761,811431772790289302,2717229625573718471,2105375542867501040,5730285861346684476,14765104798186311409,6866120822086954030,7500553074274189992,5472634919204248443,9095367974495427558,295520483725257767,9144122919656719710,13350582320321210686,2230123066188724658,12955725993599016886,5593725523646404447,8049620383350870843,6328767408353478556,4537508024899855025,15652529022363113697,9969168993886694495,17903516597560641806,14984776130263597800,8245992808512766860,14937045662974668662,13774681080860342019,2569077908554681136,5667517448094177802,5542639716215401696,16398867204652380450,7801051844482216022,14090683531173631745,10126003770430126924,15451588300636904233,13959724505805996660,15143973978780887263,4164578942112247873,12305898524029312040,5416980385511936273,12738781376896246928,15021035300548242354,16732548731950408330,5072288325212560819,1137919780169998874,11677363935292538173,10371694597696568507,12159879133040857064,13649477355623277974,12705197648440129957,18145738261091077471,8767421726725364483,17278264765328761047,1365832202489945952,2314175715210897007,3517546783724351036,2638072318815660565,16065355461404206521,1725659625023813245,15977228713082303750,11946688703121181563,16910506806439708508,6155607013159429869,16128177229423574834,11714888332876010223,9003152463250031846,5724276232870735172,2076320206888493394,4497547842313080608,16477939942440318715,13081630600430675341,4323627313899833713,1552344252703102860,12265276738970044236,14640512112980180144,4641169983762060601,13237591993996057058,6036144424818291140,15718415837374865221,9973118661479044071,15670973364225633081,10229509188384285448,1948454383399647613,6114365405907463767,5228153102358190405,16471813883190232035,11493867297142661353,633244213589111919,8610281786518403332,12998967946850096986,8728727550997663218,15672254252425401912,10255917907803379400,7308031461853754529,15226035517130122625,13066321587247692801,211531852673651510,14440610317032441844,10805178260617112187,6952779522636225435,17321644357138411543,17403658347979006238,4560023380848658388,16787378190970841563,14240487668826174348,17209545916898605545,12184747718390761454,1924967090582457527,12899443227830205282,2223536818716649239,9383522957412845892,16515054415664909257,9442877052593550452,10604493452445994181,18060297065849033539,8415827544025032721,11499389401912877918,17741742472941890842,6842047702427059760,11730153102284637806,17725967277180688724,17015089412033195931,14293323797058272718,3558475624195224686,7736301898804050700,12607664626244375740,17906528688932325960,15879333443446548713,9362128360906379525,6324480161784789534,1135968140661416502,16371210370717529522,15736705514684300684,13656760961108648424,13114124444357678159,10729633775912016780,1880125853929240567,18319893675677590744,11472897623440468797,14186788950989480477,16311582502583425562,4840284918853324423,672426326401299483,17384097672023805802,1577523035788224841,378635893038284257,5538601008318614583,12019326174191735195,17174674490755370108]
end PySem.W.Fast
open PySem PySem.W PyProof.Rows Mi
set_option maxRecDepth 100000 in
set_option maxHeartbeats 0 in
theorem PySem.Challenge.cw_floatforge_k93_desk_refusals_holds : PySem.Challenge.rw_floatforge_k93_desk_refusals.Holds := by
  w_on;o_law;k_head;(case hw=>w_witness2)
  k_fill
  refine Mi.law_ofS (l:=PySem.Challenge.rw_floatforge_k93_desk_refusals) (k:=21) (x:="_law_script") (G:=Cm.q_law_v93) (names:=K93.anames) rfl rfl ⟨rfl,by decide,by decide⟩ (fun w h Y=>PySem.W.kIn_of Y) ?F K93.holds
  case F =>
    intro w mg fa h KX G hmg
    refine' K93.fin hmg ⟨cls_inj2 ?hcls,cls_of2 KX G (by decide) (fun p h=>List.mem_append_left _ (List.mem_append_left _ h)) ?hcls,ways_of KX G (by decide) (fun p h=>List.mem_append_left _ (List.mem_append_right _ h)) ?hways,mg_none_of KX G ?z_ValueError,mg_none_of KX G ?z_abs,mg_none_of KX G ?z_all,mg_none_of KX G ?z_bool,mg_none_of KX G ?z_int,mg_none_of KX G ?z_isinstance,mg_none_of KX G ?z_len,mg_none_of KX G ?z_max,mg_none_of KX G ?z_range,mg_none_of KX G ?z_str,mg_none_of KX G ?z_tuple,int_of KX G ?y_GREAT,int_of KX G ?y_SMALL,int_of KX G ?y_NEAR,int_of KX G ?y_LEAST_E,int_of KX G ?y_MOST_E,int_of KX G ?y_LEAST_F,int_of KX G ?y_MOST_F,int_of KX G ?y_MOST_SIGNS,int_of KX G ?y_MOST_POWER_FIGURES,int_of KX G ?y_MOST_LETTERS,obj_of KX G (by decide) (at_mem 16 rfl) ?ho_30,obj_of KX G (by decide) (at_mem 17 rfl) ?ho_31,noattr_of (by decide) (at_mem 16 rfl) ?hn_30_raised,noattr_of (by decide) (at_mem 16 rfl) ?hn_30_way,noattr_of (by decide) (at_mem 16 rfl) ?hn_30_width,noattr_of (by decide) (at_mem 17 rfl) ?hn_31_kept,noattr_of (by decide) (at_mem 17 rfl) ?hn_31_slate,noattr_of (by decide) (at_mem 17 rfl) ?hn_31_width,alias_of KX G ?ya_read_texts ?yb_read_texts,kc_of KX G ?y_NAMES ?k_NAMES,kc_of KX G ?y_MAKING ?k_MAKING,fun X=>nodig_of X ?zdo ?zdn,kd_of KX G ?y_LENGTHS ?lk_LENGTHS ?kb_LENGTHS ?kh_LENGTHS ?ks_LENGTHS ?kn_LENGTHS,meth_mk (x:="Even") (by decide) (at_mem 11 rfl) ?a65_0 ?b65_0 ?i65_0 ?l65_0 ?d65_0 ?k65_0,meth_mk (x:="Away") (by decide) (at_mem 12 rfl) ?a66_0 ?b66_0 ?i66_0 ?l66_0 ?d66_0 ?k66_0,meth_mk (x:="Inward") (by decide) (at_mem 13 rfl) ?a67_0 ?b67_0 ?i67_0 ?l67_0 ?d67_0 ?k67_0,meth_mk (x:="Upward") (by decide) (at_mem 14 rfl) ?a68_0 ?b68_0 ?i68_0 ?l68_0 ?d68_0 ?k68_0,meth_mk (x:="Downward") (by decide) (at_mem 15 rfl) ?a69_0 ?b69_0 ?i69_0 ?l69_0 ?d69_0 ?k69_0,meth_mk (x:="Slate") (by decide) (at_mem 16 rfl) ?a138_1 ?b138_1 ?i138_1 ?l138_1 ?d138_1 ?k138_1,meth_mk (x:="Slate") (by decide) (at_mem 16 rfl) ?a138_14 ?b138_14 ?i138_14 ?l138_14 ?d138_14 ?k138_14,meth_mk (x:="Desk") (by decide) (at_mem 17 rfl) ?a148_2 ?b148_2 ?i148_2 ?l148_2 ?d148_2 ?k148_2,def_mk KX G ?a18 ?l18 ?c18 ?k18,def_mk KX G ?a24 ?l24 ?c24 ?k24,def_mk KX G ?a32 ?l32 ?c32 ?k32,def_mk KX G ?a40 ?l40 ?c40 ?k40,def_mk KX G ?a41 ?l41 ?c41 ?k41,def_mk KX G ?a47 ?l47 ?c47 ?k47,def_mk KX G ?a60 ?l60 ?c60 ?k60,def_mk KX G ?a70 ?l70 ?c70 ?k70,def_mk KX G ?a117 ?l117 ?c117 ?k117,def_mk KX G ?a119 ?l119 ?c119 ?k119,def_mk KX G ?a143 ?l143 ?c143 ?k143,def_mk KX G ?a144 ?l144 ?c144 ?k144,def_mk KX G ?a150 ?l150 ?c150 ?k150,def_mk KX G ?a151 ?l151 ?c151 ?k151,def_mk KX G ?a152 ?l152 ?c152 ?k152,def_mk KX G ?a153 ?l153 ?c153 ?k153,def_mk KX G ?a154 ?l154 ?c154 ?k154,def_mk KX G ?a155 ?l155 ?c155 ?k155,meth_mk (x:="Slate") (by decide) (at_mem 16 rfl) ?a138_13 ?b138_13 ?i138_13 ?l138_13 ?d138_13 ?k138_13,def_mk KX G ?a25 ?l25 ?c25 ?k25,def_mk KX G ?a61 ?l61 ?c61 ?k61,def_mk KX G ?a62 ?l62 ?c62 ?k62,def_mk KX G ?a74 ?l74 ?c74 ?k74,def_mk KX G ?a118 ?l118 ?c118 ?k118,def_mk KX G ?a156 ?l156 ?c156 ?k156,meth_mk (x:="Desk") (by decide) (at_mem 17 rfl) ?a148_4 ?b148_4 ?i148_4 ?l148_4 ?d148_4 ?k148_4,def_mk KX G ?a26 ?l26 ?c26 ?k26,def_mk KX G ?a34 ?l34 ?c34 ?k34,def_mk KX G ?a116 ?l116 ?c116 ?k116,def_mk KX G ?a27 ?l27 ?c27 ?k27,meth_mkD (x:="Slate") (by decide) (at_mem 16 rfl) ?a138_0 ?b138_0 ?i138_0 ?l138_0 ?d138_0 ?k138_0 ?e138_0,def_mk KX G ?a28 ?l28 ?c28 ?k28,def_mk KX G ?a29 ?l29 ?c29 ?k29,def_mk KX G ?a36 ?l36 ?c36 ?k36,def_mk KX G ?a30 ?l30 ?c30 ?k30,def_mk KX G ?a33 ?l33 ?c33 ?k33,def_mk KX G ?a38 ?l38 ?c38 ?k38,def_mk KX G ?a39 ?l39 ?c39 ?k39,def_mk KX G ?a76 ?l76 ?c76 ?k76,meth_mk (x:="Desk") (by decide) (at_mem 17 rfl) ?a148_0 ?b148_0 ?i148_0 ?l148_0 ?d148_0 ?k148_0,def_mk KX G ?a35 ?l35 ?c35 ?k35,def_mk KX G ?a42 ?l42 ?c42 ?k42,def_mk KX G ?a73 ?l73 ?c73 ?k73,def_mk KX G ?a45 ?l45 ?c45 ?k45,def_mk KX G ?a46 ?l46 ?c46 ?k46,def_mk KX G ?a75 ?l75 ?c75 ?k75,def_mk KX G ?a123 ?l123 ?c123 ?k123,def_mk KX G ?a159 ?l159 ?c159 ?k159,def_mkD KX G ?a72 ?l72 ?c72 ?k72 ?d72,def_mk KX G ?a124 ?l124 ?c124 ?k124,def_mkD KX G ?a121 ?l121 ?c121 ?k121 ?d121,meth_mk (x:="Slate") (by decide) (at_mem 16 rfl) ?a138_11 ?b138_11 ?i138_11 ?l138_11 ?d138_11 ?k138_11,def_mk KX G ?a147 ?l147 ?c147 ?k147,def_mk KX G ?a145 ?l145 ?c145 ?k145,meth_mk (x:="Desk") (by decide) (at_mem 17 rfl) ?a148_3 ?b148_3 ?i148_3 ?l148_3 ?d148_3 ?k148_3,meth_mk (x:="Desk") (by decide) (at_mem 17 rfl) ?a148_1 ?b148_1 ?i148_1 ?l148_1 ?d148_1 ?k148_1,def_mk KX G ?a157 ?l157 ?c157 ?k157,def_mk KX G ?a158 ?l158 ?c158 ?k158,def_mk KX G ?a160 ?l160 ?c160 ?k160⟩
    (case hcls=>kernel_rfl);(case hways=>kernel_rfl);(case zdo=>kernel_rfl);(case ho_30=>kernel_rfl);(case ho_31=>kernel_rfl);(case hn_30_raised=>kernel_rfl);(case hn_30_way=>kernel_rfl);(case hn_30_width=>kernel_rfl);(case hn_31_kept=>kernel_rfl);(case hn_31_slate=>kernel_rfl);(case hn_31_width=>kernel_rfl)
    (case y_NAMES=>k_is);(case k_NAMES=>kernel_rfl);(case y_MAKING=>k_is);(case k_MAKING=>kernel_rfl)
    (case y_LENGTHS=>k_is);(case lk_LENGTHS=>k_is);(case kb_LENGTHS=>kernel_rfl);(case kh_LENGTHS=>rfl);(case ks_LENGTHS=>rfl);(case kn_LENGTHS=>decide)
    all_goals try k_is
