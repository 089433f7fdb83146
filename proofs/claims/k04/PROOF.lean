import PyProof.Rows.All
import Wide.All
import OpenK.AllK
import Wide.FinOn
import Lean
import PyProof.EqAt
import PyProof.EqKinds
import PyProof.TupleCall
import PyProof.SetScanFacts
import PyProof.TupleKey
import PyProof.SetKind
import PyProof.IsRules
import PyProof.Rules
import PyProof.Rows.SetFrom
import PyProof.SetRoads
import KE.KDictOf
import KE.KEqDict
import PyProof.NeKinds
import PyProof.Rows.MinMaxN
import PyProof.ListRange
import PyProof.TupleOfGen
import PyProof.EnumMake
import PyProof.ZipIter
import PyProof.Rows.ZipGen
import PyProof.CollectWalk
import PyProof.ForAny
import PyProof.Rows.SortWalk
import PyProof.CollectIter
import PySem.Challenge.RW_mapwright_k04_things_led_and_renumbered
set_option Elab.async false
set_option linter.all false
set_option tactic.hygienic false
set_option genSizeOf false
set_option genInjectivity false
set_option maxRecDepth 100000
def Ea:=@Array.forIn_toList
def jd:=@Array.getElem?_eq_some_iff
def Ej:=@Array.getElem?_replicate
def lg:=@Array.getElem?_toList
def qe:=@Array.length_toList
def Bk:=@Array.toList_filterMap
def Es:=@Array.toList_push
def aq:=@Bool.and_eq_true
def Hf:=@Bool.and_false
def Ii:=@Bool.and_self
def Gq:=@Bool.beq_eq_decide_eq
def Dd:=@Bool.eq_iff_iff
def Ek:=@Bool.false_and
def cg:=@Bool.false_eq_true
def ir:=@Bool.false_ne_true
def Br:=@Bool.not_eq_true'
def yd:=@Bool.not_false
def nq:=@Bool.not_true
def wg:=@Classical.byContradiction
def yu:=@Int.emod_lt_of_pos
def Ar:=@Int.emod_nonneg
def qg:=@Int.toNat_natCast
def Gr:=@List.Perm.append_left
def ye:=@List.Perm.refl
def jg:=@List.all_eq_true
def Cr:=@List.any_cons
def Cj:=@List.any_eq_true
def Gy:=@List.any_map
def w6:=@List.append_assoc
def wk:=@List.append_nil
def Af:=@List.cons_append
def Gu:=@List.contains_iff_mem
def Et:=@List.eraseIdx_cons_succ
def Cy:=@List.exists_cons_of_ne_nil
def Bs:=@List.ext_getElem?
def De:=@List.filterMap_cons
def Fw:=@List.filterMap_eq_map'
def Hz:=@List.filterMap_map
def Ia:=@List.filter_append
def t7:=@List.find?_cons
def Eb:=@List.find?_eq_none
def Ec:=@List.findIdx?_cons
def um:=@List.findIdx?_eq_none_iff
def m8:=@List.findIdx?_eq_some_iff_getElem
def Df:=@List.foldl_cons
def Dg:=@List.forIn_cons
def Hg:=@List.forIn_nil
def dh:=@List.getD_eq_getElem?_getD
def dq:=@List.getElem?_append_left
def je:=@List.getElem?_append_right
def Eu:=@List.getElem?_cons_succ
def cz:=@List.getElem?_eq_getElem
def qm:=@List.getElem?_eq_none
def ak:=@List.getElem?_eq_some_iff
def jk:=@List.getElem?_map
def yf:=@List.getElem?_range
def Av:=@List.getElem?_replicate
def uz:=@List.getElem?_set_ne
def Bl:=@List.getElem?_set_self
def zq:=@List.getElem?_zipIdx
def Ab:=@List.getElem?_zip_eq_some
def Fy:=@List.getElem_cons_succ
def qz:=@List.getElem_inj
def q9:=@List.getElem_mem
def uc:=@List.getElem_of_mem
def o8:=@List.isEmpty_iff
def qx:=@List.length_append
def gf:=@List.length_cons
def rm:=@List.length_eq_zero_iff
def za:=@List.length_filter_le
def fc:=@List.length_map
def Dh:=@List.length_nil
def Ce:=@List.length_replicate
def G5:=@List.length_set
def Gg:=@List.length_take
def mq:=@List.lookup_cons
def ud:=@List.map_append
def qi:=@List.map_congr_left
def gq:=@List.map_cons
def Ad:=@List.map_map
def Jq:=@List.map_nil
def dw:=@List.mem_append
def xf:=@List.mem_append_left
def gw:=@List.mem_append_right
def bw:=@List.mem_cons
def bh:=@List.mem_cons_of_mem
def cj:=@List.mem_cons_self
def G9:=@List.mem_erase_of_ne
def wu:=@List.mem_filter
def Ed:=@List.mem_filterMap
def uq:=@List.mem_iff_getElem?
def bu:=@List.mem_map
def Dp:=@List.mem_of_find?_eq_some
def az:=@List.mem_of_getElem?
def jw:=@List.mem_range
def v7:=@List.mem_singleton
def Aw:=@List.nil_append
def zm:=@List.nodup_append
def ue:=@List.nodup_cons
def Bt:=@List.nodup_nil
def my:=@List.not_mem_nil
def Di:=@List.of_mem_zip
def yw:=@List.pairwise_cons
def Cz:=@List.perm_ext_iff_of_nodup
def Gh:=@List.range'_succ
def G6:=@List.range_succ
def Dj:=@List.set_append
def du:=@List.size_toArray
def Fp:=@List.sum_cons
def Ew:=@List.take_add_one
def Gi:=@List.take_length
def vz:=@List.take_of_length_le
def Hh:=@List.take_succ
def Hi:=@Nat.add_le_add_left
def Fz:=@Nat.div_div_eq_div_mul
def Ef:=@Nat.eq_zero_or_pos
def Ag:=@Nat.le_add_right
def Gz:=@Nat.le_of_eq
def Ae:=@Nat.le_of_lt
def Bu:=@Nat.le_of_lt_succ
def Gj:=@Nat.le_of_not_lt
def bc:=@Nat.le_refl
def qj:=@Nat.le_succ
def Jr:=@Nat.le_total
def ig:=@Nat.le_trans
def qd:=@Nat.lt_irrefl
def Eg:=@Nat.lt_of_le_of_lt
def gh:=@Nat.lt_of_lt_of_le
def Bo:=@Nat.lt_or_ge
def Ey:=@Nat.lt_succ_of_lt
def ph:=@Nat.lt_succ_self
def Js:=@Nat.lt_trans
def Bv:=@Nat.lt_trichotomy
def G7:=@Nat.min_eq_left
def Gk:=@Nat.min_eq_right
def Jg:=@Nat.mod_lt
def El:=@Nat.mul_le_mul
def Ha:=@Nat.mul_le_mul_right
def vf:=@Nat.ne_of_gt
def dj:=@Nat.ne_of_lt
def Gv:=@Nat.not_lt
def wy:=@Nat.not_lt_zero
def Jt:=@Nat.succ_mul
def Ju:=@Nat.succ_pos
def vg:=@Nat.zero_add
def jr:=@Nat.zero_le
def jz:=@Ne.symm
def dg:=@Option.bind_eq_some_iff
def pq:=@Option.bind_some
def ym:=@Option.getD_some
def Dq:=@Option.isNone_iff_eq_none
def m9:=@Option.isSome_iff_exists
def Ez:=@Option.isSome_map
def bx:=@Option.map_eq_some_iff
def wz:=@Option.map_some
def ie:=@Option.some.inj
def Eh:=@PyProof.Rows.Call_
def p7:=@PyProof.Rows.F.entry_set_update_loop
def j9:=@PyProof.Rows.F.plain_set_update_loop
def xr:=@PyProof.Rows.callWith_builtin1
def iw:=@PyProof.Rows.callWith_type1
def w5:=@PyProof.Rows.slot_tuple_getitem
def jx:=@PySem.Around.under_plainId
def Am:=@PySem.Calls.Name_function_global
def qt:=@PySem.Calls.spliced_cons
def u5:=@PySem.Calls.spliced_nil
def Fb:=@PySem.F.args_dict_get_3
def Em:=@PySem.F.args_tuple_add_2
def zr:=@PySem.F.args_tuple_iterator_next_1
def qy:=@PySem.F.called_set
def Cu:=@PySem.F.called_tuple
def Ga:=@PySem.F.entry_dict_get
def Fe:=@PySem.F.entry_tuple_add
def Ah:=@PySem.F.entry_tuple_iterator_next
def Ax:=@PySem.F.plainAttrs_list
def yg:=@PySem.F.plain_list_iadd
def Hb:=@PySem.F.slot_dict_eq
def Cg:=@PySem.F.slot_dict_get
def vh:=@PySem.F.slot_enumerate_next
def Eo:=@PySem.F.slot_list_append
def Gb:=@PySem.F.slot_tuple_add
def Ep:=@PySem.F.slot_tuple_index
def su:=@PySem.F.slot_tuple_iterator_next
def zb:=@PySem.F.slot_zip_next
def Ay:=@PySem.Heap.SameBut.refl
def j7:=@PySem.Heap.SameBut.update
def ao:=@PySem.Heap.get?_push_of_some
def bf:=@PySem.Heap.get?_push_size
def qw:=@PySem.Heap.get?_update_other
def mj:=@PySem.Heap.get?_update_self
def au:=@PySem.Heap.lt_size
def iz:=@PySem.Heap.size_push
def zc:=@PySem.SeqAt.EqAt.same
def Bg:=@PySem.SeqAt.RcAt.lists_lengths
def Ei:=@PySem.W.callWith_K
def Gd:=@PySem.W.cellsFrom_some
def o5:=@PySem.W.kia_one
def Gw:=@PySem.W.methodCall_KW
def jh:=@PySem.W.mg_none_of
def dz:=@PySem.W.mg_of
def Dk:=@PySem.W.plainGet_of
def Be:=@PySem.call_meetsIn
def lq:=@PySem.codeAny_builtin
def uv:=@PySem.codeAny_mono
def Cv:=@PySem.entryFor_alias
def Bh:=@PySem.filterMap_getElem?_range
def Cw:=@PySem.isSubtype_stop
def xg:=@PySem.isSubtype_type
def yh:=@PySem.mem_of_lookup
def vm:=@PySem.plainId_quiet
def mz:=@PySem.sizeLine_eq
def zf:=@PySem.size_of_entries
def ux:=@PySem.tupleKind_room_in1
def ik:=@PySem.wpAny_Call_Name_kw
def yt:=@PySem.wpAny_askSetting
def vo:=@PySem.wpAny_attempt
def aa:=@PySem.wpAny_bind
def jn:=@PySem.wpAny_callSpecial?_slot
def il:=@PySem.wpAny_call_entry
def Bj:=@PySem.wpAny_comprehension_free
def jo:=@PySem.wpAny_dictEntries
def v8:=@PySem.wpAny_dictEpoch
def Ci:=@PySem.wpAny_execs_nil
def fu:=@PySem.wpAny_field
def p8:=@PySem.wpAny_forIn_list
def gm:=@PySem.wpAny_holding
def km:=@PySem.wpAny_isInstance
def Bw:=@PySem.wpAny_letGo
def Cm:=@PySem.wpAny_load
def zg:=@PySem.wpAny_loadPart'
def jt:=@PySem.wpAny_mono
def jb:=@PySem.wpAny_newObj_type
def Bx:=@PySem.wpAny_of_eq
def Ak:=@PySem.wpAny_onRaise
def qp:=@PySem.wpAny_passesOwn
def aj:=@PySem.wpAny_pure
def yj:=@PySem.wpAny_pyIter_list
def xq:=@PySem.wpAny_pyIter_tuple
def Ai:=@PySem.wpAny_richCompare_same_room
def ur:=@PySem.wpAny_rule
def zu:=@PySem.wpAny_runValue
def lz:=@PySem.wpAny_seqItems
def j8:=@PySem.wpAny_setEntries_of
def Az:=@PySem.wpAny_setEpoch_of
def gr:=@PySem.wpAny_setField_rec
def ji:=@PySem.wpAny_setState_of
def v9:=@PySem.wpAny_specialOf
def yl:=@PySem.wpAny_storeSet_of
def j0:=@PySem.wpAny_truthy_bool
def o7:=@PySem.wpAny_typeOf
def zp:=@PySem.wpAny_updateSeq_pair
def uo:=@Std.Legacy.Range.forIn_eq_forIn_range'
def ql:=@beq_eq_false_iff_ne
def Gx:=@beq_iff_eq
def yo:=@beq_self_eq_true
def u9:=@bne_self_eq_false
def m6:=@congrArg
def yx:=@decide_eq_false
def Er:=@decide_eq_true
def di:=@decide_eq_true_eq
def jf:=@if_false
def bz:=@if_neg
def cu:=@if_pos
def jq:=@if_true
def Ko:=@not_or
def jy:=@of_decide_eq_true
def yp:=@or_false
abbrev Fg:=PySem.W.Frag
theorem a_{a b c:Nat}(h:a<=b)(k:b<=c):a<=c:=ig h k
theorem b_{a b c:Nat}(h:a<b)(k:b<=c):a<c:=gh h k
theorem c_{a b c:Nat}(h:a<=b)(k:b<c):a<c:=Eg h k
theorem d_{a b c:Nat}(h:a<b)(k:b<c):a<c:=Js h k
theorem e_{a b:Nat}(h:a<b):a<=b:=Ae h
theorem f_{a b:Nat}(h:a=b):a<=b:=Gz h
theorem g_{a b:Nat}(h:a=b):b<=a:=Gz h.symm
theorem h_{a b:Nat}(h:a<b):a≠b:=dj h
theorem i_{a b:Nat}(h:b<a):a≠b:=vf h
theorem j_{a b:Nat}(h:b<=a):¬a<b:=Nat.not_lt_of_le h
theorem l_{p:Prop}{a b:Nat}(h:a<b)(k:b<=a):p:=absurd h (Nat.not_lt_of_le k)
theorem m_{a b:Nat}(h:a<b):(a:Int)<(b:Int):=Int.ofNat_lt.mpr h
theorem n_{a b:Nat}(h:a<=b):(a:Int)<=(b:Int):=Int.ofNat_le.mpr h
theorem o_{a b:Nat}(h:(a:Int)<(b:Int)):a<b:=Int.ofNat_lt.mp h
theorem q_{a:Nat}:(0:Int)<=(a:Int):=Int.natCast_nonneg a
theorem r_{a b c:Nat}(h:a+c<=b):a<=b-c:=Nat.le_sub_of_add_le h
theorem s_{a b:Nat}(h:¬a<b):b<=a:=Gj h
theorem t_{a b:Nat}(h:¬a<=b):b<a:=Nat.lt_of_not_le h
theorem u_{a b:Nat}(h:a<=b)(k:b<=a):a=b:=Nat.le_antisymm h k
theorem v_{a b c:Nat}(h:a<=b):a+c<=b+c:=Nat.add_le_add_right h c
theorem w_{a b c:Nat}(h:a<=b):c+a<=c+b:=Hi h c
theorem x_{a b:Nat}:a<=a+b:=Ag a b
theorem z_{a b:Nat}(h:a<b+1):a<=b:=Bu h
theorem A_{a b:Nat}(h:a<=b):a<b+1:=Nat.lt_succ_of_le h
theorem B_{a:Nat}:a<a+1:=ph a
theorem C_{a b:Nat}:a-b<=a:=Nat.sub_le a b
theorem D_{a b:Nat}(h:(a:Int)=(b:Int)):a=b:=Int.ofNat_inj.mp h
theorem G_{a b c:Nat}(h:a<b):a+c<b+c:=Nat.add_lt_add_right h c
theorem H_{a b c:Nat}(h:a<b):c+a<c+b:=Nat.add_lt_add_left h c
namespace L2
open PySem PySem.Spec PyProof.Rows
abbrev Key:=Sum Int Str
def Xf:Key->Value->Bool
 |.inl k,v=>Value.isInt k v|.inr x,v=>Value.isStrOf x v
def a73(w:World):Key->Int
 |.inl k=>hashInt k|.inr x=>hashStr w x
theorem An:∀{k:Key}{v:Value},Xf k v=true->(∃i t,k=Sum.inl i/\v=Value.int i t)\/(∃x t,k=Sum.inr x/\v=Value.str x t)
 |.inl i,v,h=>by
  obtain⟨t,e⟩:=Value.isInt_shape (k:=i) (v:=v) h;exact .inl ⟨i,t,rfl,e⟩
 |.inr x,v,h=>by
  obtain⟨t,e⟩:=Value.isStrOf_shape (x:=x) (v:=v) h;exact .inr ⟨x,t,rfl,e⟩
theorem ai5(i:Int)(t:Tok):Xf (.inl i) (.int i t)=true:=by simp[Xf,Value.isInt]
theorem ai6(x:Str)(t:Tok):Xf (.inr x) (.str x t)=true:=by simp[Xf,Value.isStrOf]
theorem awn(a b:Int):decide ((Sum.inl a:Key)=Sum.inl b)=(a==b):=by
 by_cases e:a=b
 . subst e;simp
 . have h:¬(Sum.inl a:Key)=Sum.inl b:=λq=>e (Sum.inl.inj q)
   rw[yx h];exact(ql.mpr e).symm
theorem awo(a b:Str):decide ((Sum.inr a:Key)=Sum.inr b)=decide (a=b):=by
 by_cases e:a=b
 . subst e;simp
 . have h:¬(Sum.inr a:Key)=Sum.inr b:=λq=>e (Sum.inr.inj q)
   rw[yx h,yx e]
theorem awp(a:Int)(b:Str):decide ((Sum.inl a:Key)=Sum.inr b)=false:=yx (λq=>nomatch q)
theorem awq(a:Str)(b:Int):decide ((Sum.inr a:Key)=Sum.inl b)=false:=yx (λq=>nomatch q)
def iu(prog:Program)(w:World):PySem.KeyKind prog w Key where
 is:=Xf
 hash:=a73 w
 inj:=λv a b ha hb=>by
  rcases An ha with⟨i,t,rfl,rfl⟩|⟨x,t,rfl,rfl⟩
  . rcases An hb with⟨j,u,rfl,e⟩|⟨y,u,rfl,e⟩
    . injection e with e1 _;rw[e1]
    . exact nomatch e
  . rcases An hb with⟨j,u,rfl,e⟩|⟨y,u,rfl,e⟩
    . exact nomatch e
    . injection e with e1 _;rw[e1]
 byValue:=λk v h=>by rcases An h with⟨i,t,rfl,rfl⟩|⟨x,t,rfl,rfl⟩<;>rfl
 pyHash:=λhv h=>by
  rcases An hv with⟨i,t,rfl,rfl⟩|⟨x,t,rfl,rfl⟩
  . exact wpAny_pyHash_int h
  . exact wpAny_pyHash_str h
 eqBool:=λhu hv h=>by
  rcases An hu with⟨i,t,rfl,rfl⟩|⟨x,t,rfl,rfl⟩
  . rcases An hv with⟨j,u,rfl,rfl⟩|⟨y,u,rfl,rfl⟩
    . rw[awn] at h;exact wpAny_eqBool_int h
    . rw[awp] at h;exact SeqAt.EqAt.int_str i t y u _ _ _ _ h
  . rcases An hv with⟨j,u,rfl,rfl⟩|⟨y,u,rfl,rfl⟩
    . rw[awq] at h;exact SeqAt.EqAt.str_int x t j u _ _ _ _ h
    . rw[awo] at h;exact wpAny_eqBool_str h
 «strs»:=λk x t v h=>by
  rcases An h with⟨i,u,rfl,e⟩|⟨y,u,rfl,e⟩
  . exact nomatch e
  . injection e with e1 _
    subst e1;cases v<;>rfl
theorem ac9(prog:Program)(w:World)(i:Int)(t:Tok):(iu prog w).is (.inl i) (.int i t)=true:=ai5 i t
theorem ada(prog:Program)(w:World)(x:Str)(t:Tok):(iu prog w).is (.inr x) (.str x t)=true:=ai6 x t
end L2
namespace L2
open PySem PySem.Spec PyProof.Rows
set_option genInjectivity true in
inductive V where
 |non|bl (b:Bool)|int (i:Int)|str (x:Str)|byt (b:Array UInt8)|flt (b:UInt64)|ref (a:Addr)|ty (n:String)
 deriving DecidableEq
def RelV:V->Value->Prop
 |.non,u=>u=Value.none|.bl b,u=>u=Value.bool b|.int i,u=>∃t,u=Value.int i t|.str x,u=>∃t,u=Value.str x t|.byt b,u=>∃t,u=Value.bytes b t|.flt b,u=>∃t,u=Value.float b t|.ref a,u=>u=Value.ref a|.ty n,u=>u=Value.type n
abbrev Vals:List V->List Value->Prop:=Paired RelV
theorem Vals.length(r:Vals xs us):xs.length=us.length:=Paired.length r
theorem Vals.get:∀{xs:List V}{us:List Value}{i:Nat}{x:V},Vals xs us->xs[i]?=some x->∃u,us[i]?=some u/\RelV x u
 |_,_,_,_,.nil,e=>by simp at e|_,_,0,_,.cons r _,e=>by simp at e;subst e;exact⟨_,rfl,r⟩
 |_,_,i+1,x,.cons _ t,e=>by
  obtain⟨u,h1,h2⟩:=Vals.get (i:=i) (x:=x) t (by simpa using e);exact⟨u,by simpa using h1,h2⟩
theorem Vals.set{x:V}{u:Value}(r:RelV x u):∀{xs:List V}{us:List Value}(i:Nat),Vals xs us->Vals (xs.set i x) (us.set i u)
 |_,_,_,.nil=>.nil|_,_,0,.cons _ t=>.cons r t|_,_,i+1,.cons q t=>.cons q (Vals.set r i t)
theorem Vals.append:∀{xs ys:List V}{us ws:List Value},Vals xs us->Vals ys ws->Vals (xs++ys) (us++ws)
 |_,_,_,_,.nil,s=>s|_,_,_,_,.cons r t,s=>.cons r (Vals.append t s)
theorem Vals.take:∀{xs:List V}{us:List Value}(n:Nat),Vals xs us->Vals (xs.take n) (us.take n)
 |_,_,0,_=>.nil|_,_,_+1,.nil=>.nil|_,_,n+1,.cons r t=>.cons r (Vals.take n t)
theorem Vals.drop:∀{xs:List V}{us:List Value}(n:Nat),Vals xs us->Vals (xs.drop n) (us.drop n)
 |_,_,0,r=>r|_,_,_+1,.nil=>.nil|_,_,n+1,.cons _ t=>Vals.drop n t
def Pq:Option V->Option Value->Prop
 |some v,some u=>RelV v u|none,none=>True|_,_=>False
def KV{κ:Type}:List (κ×V)->List (κ×Value)->Prop:=Paired λ(p:κ×V) (q:κ×Value)=>p.1=q.1/\RelV p.2 q.2
def kV:Key->V
 |.inl i=>.int i|.inr x=>.str x
inductive HO where
 |lst (xs:List V)
 |tup (xs:List V)
 |dK (kvs:List (Key×V))|dT (kvs:List (List Key×V))
 |set (S:Int->Bool) (n:Nat)
 |ins (C dx:Addr) (fs:List (Str×V))
 |own (x:Addr)
 |xd (fs:List (Str×V))
 |met (f x:Addr)
 |Px (lo hi:Int)
 |Py (o:Obj) (u:HO)
 |tbl (ps:Array Value)
 |ext (φ:Heap->Prop)
abbrev Hp:=Addr->Option HO
def upd(H:Hp)(a:Addr)(o:HO):Hp:=λb=>if b=a then some o else H b
theorem uy:upd H a o a=some o:=by unfold upd;rw[cu rfl]
theorem j4(h:b≠a):upd H a o b=H b:=by unfold upd;rw[bz h]
theorem alc{H:Hp}(h:H a=some o)(h':H b=some u)(d:o≠u):a≠b:=by intro e;subst e;rw[h] at h';exact d (ie h')
theorem j5{H:Hp}(h:H a=some o)(h':H b=none):a≠b:=by intro e;subst e;rw[h] at h';cases h'
section
variable(P:Program)(w:World)
def Xg(h:Heap)(a:Addr)(items:Array Value):Prop:=∃o,h.get? a=some o/\o.cls=.type "tuple"/\∃n,o.data=.seq items n/\o.dict=none
theorem Xg.is(x:Xg h a items):IsTup h a items:=let ⟨o,h1,h2,n,h3,_⟩:=x;⟨o,h1,h2,n,h3⟩
theorem Xg.new(h:Heap)(items:Array Value):Xg (h.push { cls:=.type "tuple",data:=.seq items }) h.objs.size items:=⟨_,bf _ rfl,rfl,_,rfl,rfl⟩
def zx(H:Hp)(h:Heap)(a:Addr):HO->Prop
 |.lst xs=>xs.length<=sizeLine/\∃(its:List Value)(n:Nat),Vals xs its/\h.get? a=some { cls:=.type "list",data:=.seq its.toArray n }|.tup xs=>xs.length<=sizeLine/\∃its:List Value,Vals xs its/\Xg h a its.toArray|.dK kvs=>kvs.length<=sizeLine/\(a==sysModules)=false/\∃vs,KV kvs vs/\h.DictOf (iu P w) a vs
 |.dT kvs=>kvs.length<=sizeLine/\(a==sysModules)=false/\∃xs:List (List Key×Addr×Value),
  Paired (λ(p:List Key×V) (q:List Key×Addr×Value)=>p.1=q.1/\H q.2.1=some (.tup (p.1.map kV))/\RelV p.2 q.2.2) kvs xs /\
  ∃o es ep,h.get? a=some o/\o.ExactDict/\o.data=.dict es ep/\es.toList=xs.map (entryOfKey (tupleKind (iu P w)))/\(xs.map (·.1)).Nodup
 |.set S n=>h.SetOf (intKind P w) a S n
 |.ins C dx fs=>H dx=some (.own a)/\fs.length<=1000/\dx≠a/\h.get? a=some (PySem.W.instObj C dx) /\
  ∃mA,h.Ns1 dx mA/\(∀f,Pq (fs.lookup f) (mA f))/\PySem.Within mA (fs.map (·.1))
 |.own _=>∃o,h.get? a=some o|.xd fs=>∃mA,h.Ns1 a mA/\∀f,Pq (fs.lookup f) (mA f)|.Px lo hi=>∃t u v,h.get? a=some { cls:=.type "range",data:=.fields #[.int lo t,.int hi u,.int 1 v] }|.Py o u=>h.get? a=some o/\zx H h a u|.tbl ps=>h.get? a=some { cls:=.none,data:=.fields ps }|.met f x=>h.get? a=some (PySem.W.methodObj (.ref f) (.ref x))|.ext φ=>φ h/\(∃o,h.get? a=some o)/\∀h1 h2:Heap,φ h1->(∀o,h1.get? a=some o->h2.get? a=some o)->φ h2
def Rx(H:Hp)(h:Heap):Prop:=∀a o,H a=some o->zx P w H h a o
end
section
variable{P:Program}{w:World}{H H':Hp}{h h':Heap}{a:Addr}{o:HO}
theorem zx.lt(x:zx P w H h a o):a<h.objs.size:=by
 cases o with
 |lst xs=>obtain⟨_,_,_,_,e⟩:=x;exact au e
 |tup xs=>obtain⟨_,_,_,p⟩:=x;exact(Xg.is p).lt
 |dK kvs=>obtain⟨_,_,_,_,o,_,_,e,_⟩:=x;exact au e
 |dT kvs=>obtain⟨_,_,_,_,o,_,_,e,_⟩:=x;exact au e
 |set S n=>obtain⟨o,_,_,_,e,_⟩:=x;exact au e
 |ins C dx fs=>obtain⟨_,_,_,e,_⟩:=x;exact au e
 |own y=>obtain⟨_,e⟩:=x;exact au e
 |xd fs=>obtain⟨_,⟨_,_,_,e,_⟩,_⟩:=x;exact au e
 |Px lo hi=>obtain⟨_,_,_,e⟩:=x;exact au e
 |Py ob u=>obtain⟨e,_⟩:=x;exact au e
 |tbl ps=>exact au (show h.get? a=some _ from x)
 |met f y=>exact au (show h.get? a=some _ from x)
 |ext φ=>obtain⟨_,⟨_,e⟩,_⟩:=x;exact au e
theorem Paired.aws{α β:Type}{F G:α->β->Prop}:∀{l₁:List α}{l₂:List β},Paired F l₁ l₂->(∀a b,F a b->G a b)->Paired G l₁ l₂
 |_,_,.nil,_=>.nil|_,_,.cons r t,f=>.cons (f _ _ r) (Paired.aws t f)
theorem zx.stay(x:zx P w H h a o)(k:∀b u,(b=a\/H b=some (.own a))->h.get? b=some u->h'.get? b=some u)
 (ho:∀b,H b=some (.own a)->H' b=some (.own a)) (ht:∀b xs,H b=some (.tup xs)->H' b=some (.tup xs)):zx P w H' h' a o:=by
 induction o with
 |lst xs=>obtain⟨z,its,n,r,e⟩:=x;exact⟨z,its,n,r,k _ _ (.inl rfl) e⟩
 |tup xs=>obtain⟨z,its,r,ob,e,c⟩:=x;exact⟨z,its,r,ob,k _ _ (.inl rfl) e,c⟩
 |dK kvs=>obtain⟨z,y,vs,r,ob,es,ep,e,c⟩:=x;exact⟨z,y,vs,r,ob,es,ep,k _ _ (.inl rfl) e,c⟩
 |dT kvs =>
  obtain⟨z,y,xs,r,ob,es,ep,e,c⟩:=x;exact⟨z,y,xs,Paired.aws r λp q z=>⟨z.1,ht _ _ z.2.1,z.2.2⟩,ob,es,ep,k _ _ (.inl rfl) e,c⟩
 |set S n=>obtain⟨ob,es,ep,t,e,c⟩:=x;exact⟨ob,es,ep,t,k _ _ (.inl rfl) e,c⟩
 |ins C dx fs =>
  obtain⟨d,z,ne,e,mA,⟨od,es,ep,e2,c⟩,r⟩:=x;exact⟨ho _ d,z,ne,k _ _ (.inl rfl) e,mA,⟨od,es,ep,k _ _ (.inr d) e2,c⟩,r⟩
 |own y=>obtain⟨ob,e⟩:=x;exact⟨ob,k _ _ (.inl rfl) e⟩
 |xd fs=>obtain⟨mA,⟨od,es,ep,e,c⟩,r⟩:=x;exact⟨mA,⟨od,es,ep,k _ _ (.inl rfl) e,c⟩,r⟩
 |Px lo hi=>obtain⟨t,u,v,e⟩:=x;exact⟨t,u,v,k _ _ (.inl rfl) e⟩
 |Py ob u ih=>obtain⟨e,q⟩:=x;exact⟨k _ _ (.inl rfl) e,ih q⟩
 |tbl ps =>
  have e:h.get? a=some { cls:=.none,data:=.fields ps }:=x;show h'.get? a=some { cls:=.none,data:=.fields ps };exact k a _ (.inl rfl) e
 |met f y =>
  have e:h.get? a=some (PySem.W.methodObj (.ref f) (.ref y)):=x;show h'.get? a=some (PySem.W.methodObj (.ref f) (.ref y));exact k a _ (.inl rfl) e
 |ext φ=>obtain⟨p,⟨o,e⟩,st⟩:=x;exact⟨st _ _ p λo q=>k _ _ (.inl rfl) q,⟨o,k _ _ (.inl rfl) e⟩,st⟩
theorem Rx.lt(x:Rx P w H h)(e:H a=some o):a<h.objs.size:=(x a o e).lt
theorem Rx.fresh(x:Rx P w H h)(e:h.objs.size<=a):H a=none:=by
 cases q:H a with
 |none=>rfl|some u=>exact absurd (gh (x.lt q) e) (qd _)
theorem Rx.kept(x:Rx P w H h)(k:∀b u,h.get? b=some u->h'.get? b=some u):Rx P w H h':=λa o e =>
 (x a o e).stay (λb u _ q=>k b u q) (λ_ q=>q) λ_ _ q=>q
theorem Rx.laid(x:Rx P w H h)(k:∀b u,h.get? b=some u->h'.get? b=some u)(hp:h.objs.size<=a)(new:zx P w (upd H a o) h' a o):Rx P w (upd H a o) h':=λb u e=>by
 have hn:=x.fresh hp
 by_cases hb:b=a
 . subst hb;rw[uy] at e;cases e;exact new
 . rw[j4 hb] at e
   exact(x b u e).stay (λc v _ q=>k c v q) (λc q=>by rw[j4 (j5 q hn)];exact q) λc xs q=>by rw[j4 (j5 q hn)];exact q
end
def Rd(H:Hp)(a:Addr)(u:HO):Prop:=H a=some u\/∃o,H a=some (.Py o u)
theorem Rd.ok(r:Rd H a u)(x:Rx P w H h):zx P w H h a u:=by
 rcases r with r|⟨o,r⟩
 . exact x a u r
 . obtain⟨_,q⟩:=x a _ r
   exact q
def Mut:Option HO->Prop
 |some (.lst _)=>True|some (.dK _)=>True|some (.dT _)=>True|some (.set _ _)=>True|some (.ins _ _ _)=>True|some (.ext _)=>True|_=>False
section
variable{P:Program}{w:World}{H:Hp}{h h':Heap}{x e:Addr}{o':HO}
theorem Rx.write(ok:Rx P w H h)(mu:Mut (H x))(he:e=x\/H e=some (.own x))(k:∀b u,b≠e->h.get? b=some u->h'.get? b=some u)(heo:∃u,h'.get? e=some u)
 (new:zx P w (upd H x o') h' x o'):Rx P w (upd H x o') h':=λb u q=>by
 have a04:∀c y,H c=some (.own y)->c≠x:=λc y r z=>by subst z;rw[r] at mu;exact mu
 have a74:∀c xs,H c=some (.tup xs)->c≠x:=λc xs r z=>by subst z;rw[r] at mu;exact mu
 by_cases hb:b=x
 . subst hb;rw[uy] at q;cases q;exact new
 . rw[j4 hb] at q
   by_cases hbe:b=e
   . have q':H b=some (.own x):=by
      rcases he with z|z
      . exact absurd (hbe.trans z) hb
      . rw[hbe];exact z
     rw[q] at q';cases q';obtain⟨v,hv⟩:=heo;exact⟨v,by rw[hbe];exact hv⟩
   . refine(ok b u q).stay (λc v hc r=>k c v ?_ r) (λc r=>by rw[j4 (a04 c b r)];exact r) λc xs r=>by rw[j4 (a74 c xs r)];exact r
     rcases hc with rfl|hc
     . exact hbe
     . rintro rfl
       rcases he with z|z
       . exact a04 c b hc z
       . rw[hc] at z;cases z;exact hb rfl
end
structure Un(fs ex:List Addr)(H H':Hp)(h h':Heap):Prop where
 keep:∀b o,h.get? b=some o->H b=none->b∉fs->b∉ex->h'.get? b=some o
 slot:∀b o,h.get? b=some o->H b=none->b∈fs->b∉ex->∃sl,h'.get? b=some { o with slots:=sl }
 free:∀b o,h.get? b=some o->H b=none->b∉ex->H' b=none
 there:∀b o,h.get? b=some o->b∉ex->∃o',h'.get? b=some o'
 tups:∀b xs,H b=some (.tup xs)->H' b=some (.tup xs)
 aa1:∀b o u,H b=some (.Py o u)->H' b=some (.Py o u)
 adb:∀b ps,H b=some (.tbl ps)->∃more,H' b=some (.tbl (ps++more))
section
variable{fs fs' ex ex':List Addr}{H H1 H2:Hp}{h h1 h2 h':Heap}{a x e:Addr}{o:HO}
theorem Un.any(u:Un fs ex H H1 h h1)(q:h.get? b=some ob)(n:H b=none)(hx:b∉ex):∃sl,h1.get? b=some { ob with slots:=sl }:=by
 by_cases hb:b∈fs
 . exact u.slot b ob q n hb hx
 . exact⟨ob.slots,u.keep b ob q n hb hx⟩
theorem Un.kept(k:∀b u,h.get? b=some u->h'.get? b=some u):Un fs ex H H h h' :=
 ⟨λb ob q _ _ _=>k b ob q,λb ob q _ _ _=>⟨ob.slots,k b ob q⟩,λ_ _ _ n _=>n,λb ob q _=>⟨ob,k b ob q⟩,λ_ _ q=>q,λ_ _ _ q=>q,λ_ ps q=>⟨#[],by rw[q];simp⟩⟩
theorem Un.refl:Un fs ex H H h h:=Un.kept λ_ _ q=>q
theorem Un.laid(k:∀b u,h.get? b=some u->h'.get? b=some u)(hp:h.objs.size<=a)(hn:H a=none):Un fs ex H (upd H a o) h h' where
 keep:=λb u q _ _ _=>k b u q
 slot:=λb u q _ _ _=>⟨u.slots,k b u q⟩
 free:=λb u q n _=>by rw[j4 (dj (gh (au q) hp))];exact n
 there:=λb u q _=>⟨u,k b u q⟩
 tups:=λb xs q=>by rw[j4 (j5 q hn)];exact q
 aa1:=λb u xs q=>by rw[j4 (j5 q hn)];exact q
 adb:=λb ps q=>⟨#[],by rw[j4 (j5 q hn),q];simp⟩
theorem Un.write(mu:Mut (H x))(he:e=x\/H e=some (.own x))(k:∀b u,b≠e->h.get? b=some u->h'.get? b=some u)(heo:∃u,h'.get? e=some u):Un fs ex H (upd H x o) h h':=by
 have hx:∀b,H b=none->b≠x:=λb n z=>by subst z;rw[n] at mu;exact mu
 have hb:∀b,H b=none->b≠e:=λb n z=>by
  subst z;rcases he with r|r
  . exact hx b n r
  . rw[n] at r;cases r
 have hm:∀b u,H b=some u->¬Mut (some u)->b≠x:=λb u q nm z=>by subst z;rw[q] at mu;exact nm mu
 refine⟨λb u q n _ _=>k b u (hb b n) q,λb u q n _ _=>⟨u.slots,k b u (hb b n) q⟩,λb u q n _=>by rw[j4 (hx b n)];exact n,λb u q _=>?_,
  λb xs q=>by rw[j4 (hm b _ q λz=>z)];exact q,λb u xs q=>by rw[j4 (hm b _ q λz=>z)];exact q,λb ps q=>⟨#[],by rw[j4 (hm b _ q λz=>z),q];simp⟩⟩
 by_cases hbe:b=e
 . subst hbe;exact heo
 . exact⟨u,k b u hbe q⟩
end
def trk(h:Heap)(H:Hp):List Addr:=(List.range h.objs.size).filter λa=>(H a).isSome
def aa2(h:Heap)(H:Hp):Heap:=PySem.W.hideAll h (trk h H)
theorem ai7(h:Heap)(H:Hp):(aa2 h H).objs.size=h.objs.size:=PySem.W.hideAll_size _ _
theorem ald(e:h.get? b=some o)(n:H b=none):(aa2 h H).get? b=some o :=
 PySem.W.hideAll_get _ e λhm=>by have q:(H b).isSome=true:=(wu.mp hm).2;rw[n] at q;simp at q
theorem aqq(e:(aa2 h H).get? b=some o):h.get? b=some o/\H b=none:=by
 have e':h.get? b=some o:=PySem.W.of_hideAll (trk h H) e;refine⟨e',?_⟩;cases q:H b with
 |none=>rfl
 |some x =>
  have hm:b∈trk h H:=wu.mpr ⟨jw.mpr (au e'),by simp[q]⟩;have z:(aa2 h H).get? b=none:=PySem.W.hideAll_none (trk h H) hm;rw[z] at e;cases e
end L2
namespace L2
open PySem PySem.Spec PyProof.Rows
structure Mod(K:Fg)(mg:Str->Option Value)(base:Heap):Prop where
 kin:K.In base
 glob:base.Ns mainGlobals mg
 blt:∃mb,base.Ns builtinsNs mb/\∀x:Str,x≠"__name__" -> mb x=bootBuiltins x
 nolimit:base.NoLimit
structure Cx where
 prog:Program
 w:World
 K:Fg
 mg:Str->Option Value
 base:Heap
 A:Around
 N:List Str
 s₀:Shared
 H₀:Hp
 env:Env
 outer:List Env
 stack:List Env
 ex:List Addr
 fn:Str->Bool
 calm:Bool
 pn:List (Addr×Obj)
 xe:Value->Shared->Prop
def frs(l:List Env):List Addr:=l.filterMap (·.frame)
abbrev Cx.fs(X:Cx):List Addr:=frs X.outer
def Vis(sc:Scope)(x:Str):Prop:=sc.names.lookup x=some .local\/sc.names.lookup x=some .cell\/sc.names.lookup x=some .free
def Loc(sc:Scope)(x:Str):Prop:=sc.names.lookup x=some .local\/sc.names.lookup x=some .cell
def Look(env:Env)(h:Heap)(m:Str->Option Value)(x:Str)(u:Value):Prop :=
 (env.kindOf x=some .local/\m x=some u)\/((env.kindOf x=some .cell\/env.kindOf x=some .free)/\∃c,env.cells.lookup x=some c/\h.IsCell c (some u))
structure Cx.Ok(X:Cx):Prop where
 mod:Mod X.K X.mg X.base
 kind:X.env.scope.kind=.function
 glob:X.env.globals=mainGlobals
 blt:X.env.builtins=builtinsNs
 above:X.s₀.heap.objs.size<=X.env.locals
 inj:∀x y c,X.env.cells.lookup x=some c->X.env.cells.lookup y=some c->x=y
 has:∀x,(X.env.kindOf x=some .cell\/X.env.kindOf x=some .free)->∃c,X.env.cells.lookup x=some c
 cab:∀x c,X.fn x=true->X.env.cells.lookup x=some c->X.s₀.heap.objs.size<=c
 hd:X.calm=true->X.A.handled=none
 frames:X.A.frames=some X.stack
 stk:X.stack=X.outer\/(X.stack=X.env::X.outer/\X.env.frame=some X.env.locals)
 exf:∀b∈X.ex,b≠X.env.locals/\∀x c,X.env.cells.lookup x=some c->c≠b
 bs:∀b o,X.base.get? b=some o->X.s₀.heap.get? b=some o/\X.H₀ b=none
 bsz:X.base.objs.size<=X.s₀.heap.objs.size
 ale:∀b o,X.base.get? b=some o->b∉X.ex
 aqs:∀b∈X.ex,b∉X.fs
 Ws:X.s₀.heap.FunFrames X.base X.outer
 frf:∀b∈X.fs,X.H₀ b=none
structure Inv(X:Cx)(pins:List (Addr×Obj))(σ:List (Option V))(H:Hp)(s:Shared):Prop where
 ok:X.Ok
 os:s.os=X.s₀.os
 bare:AllBare s.gens
 base:Un X.fs X.ex X.H₀ H X.s₀.heap s.heap
 loc:∃m,s.heap.Ns X.env.locals m/\∀(i:Nat)(x:Str)(v:V),X.N[i]?=some x->σ[i]?=some (some v)->Vis X.env.scope x->∃u,RelV v u/\Look X.env s.heap m x u
 cell:∀x c,X.env.cells.lookup x=some c->∃v,s.heap.IsCell c v
 free:H X.env.locals=none
 Pz:∀x c,X.env.cells.lookup x=some c->H c=none
 pin:∀p∈X.pn++pins,s.heap.get? p.1=some p.2/\H p.1=none/\p.1≠X.env.locals/\p.1∉X.fs/\∀v,p.2.data≠.cell v
 hok:Rx X.prog X.w H s.heap
 len:σ.length=X.N.length
section
variable{X:Cx}{pins:List (Addr×Obj)}{σ:List (Option V)}{H H':Hp}{s:Shared}{h':Heap}
theorem Cx.Ok.a75(ok:X.Ok)(e:X.base.get? b=some o):b∉X.fs:=λhb=>by have:=(ok.Ws.mem hb).1;rw[e] at this;cases this
theorem Inv.bs(I:Inv X pins σ H s):∀b o,X.base.get? b=some o->s.heap.get? b=some o/\H b=none:=λb o e =>
 ⟨I.base.keep b o (I.ok.bs b o e).1 (I.ok.bs b o e).2 (I.ok.a75 e) (I.ok.ale b o e),I.base.free b o (I.ok.bs b o e).1 (I.ok.bs b o e).2 (I.ok.ale b o e)⟩
theorem Inv.bk(I:Inv X pins σ H s):∀b o,X.base.get? b=some o->s.heap.get? b=some o:=λb o e=>(I.bs b o e).1
theorem Inv.mod(I:Inv X pins σ H s):Mod X.K X.mg X.base:=I.ok.mod
theorem Inv.Wt(I:Inv X pins σ H s):X.K.In s.heap:=I.ok.mod.kin.keeps I.bk
theorem Inv.lt(I:Inv X pins σ H s):X.env.locals<s.heap.objs.size:=let ⟨_,hn,_⟩:=I.loc;hn.lt
theorem Inv.sz(I:Inv X pins σ H s):X.s₀.heap.objs.size<=s.heap.objs.size:=ig I.ok.above (Ae I.lt)
theorem Inv.awv(I:Inv X pins σ H s)(h:s.heap.objs.size<=a):a∉X.fs:=λhb=>by obtain⟨_,o,ho,_⟩:=I.ok.Ws.mem hb;exact absurd (gh (au ho) (ig I.sz h)) (qd _)
theorem Inv.cne(I:Inv X pins σ H s):∀x c,X.env.cells.lookup x=some c->c≠X.env.locals:=λx c e z=>by obtain⟨v,o,ho,hd⟩:=I.cell x c e;obtain⟨m,⟨o',es,ep,ho',hd',_⟩,_⟩:=I.loc;rw[z,ho'] at ho;cases ho;rw[hd'] at hd;cases hd
theorem Inv.Ws(I:Inv X pins σ H s):s.heap.FunFrames X.base X.outer:=by
 have all:∀(l:List Env),(∀b∈frs l,b∈X.fs)->X.s₀.heap.FunFrames X.base l->s.heap.FunFrames X.base l:=by
  intro l
  induction l with
  |nil=>intro _ _;trivial
  |cons env r ih =>
   intro hs hl;obtain⟨hk,⟨L,o,hf,hn,ho,hd⟩,hr⟩:=hl;have hL:L∈X.fs:=hs L (by unfold frs;rw[De,hf];exact cj);obtain⟨sl,e⟩:=I.base.slot L o ho (I.ok.frf L hL) hL λz=>I.ok.aqs L z hL
   exact⟨hk,⟨L,_,hf,hn,e,hd⟩,ih (λb hb=>hs b (by unfold frs;rw[De,hf];exact bh _ hb)) hr⟩
 exact all X.outer (λ_ hb=>hb) I.ok.Ws
theorem Inv.stack(I:Inv X pins σ H s):s.heap.FunFrames X.base X.stack:=by
 rcases I.ok.stk with e|⟨e,hf⟩
 . rw[e];exact I.Ws
 . rw[e]
   obtain⟨m,hn,_⟩:=I.loc;refine .cons (by rw[I.ok.kind];decide) hf hn ?_ I.Ws;exact Heap.get?_none_of_le (ig I.ok.bsz I.ok.above)
theorem Inv.aa3(I:Inv X pins σ H s):∀b∈frs X.stack,b∈X.env.locals::X.fs:=λb hb=>by
 rcases I.ok.stk with e|⟨e,hf⟩
 . rw[e] at hb;exact bh _ hb
 . rw[e] at hb
   unfold frs at hb;rw[De,hf] at hb;exact hb
theorem Inv.ag9(I:Inv X pins σ H s):∀b∈frs X.stack,H b=none:=λb hb=>by
 rcases bw.mp (I.aa3 b hb) with e|hb
 . rw[e];exact I.free
 . obtain⟨_,o,ho,_⟩:=I.ok.Ws.mem hb
   exact I.base.free b o ho (I.ok.frf b hb) λz=>I.ok.aqs b z hb
theorem Inv.step{ch:List Addr}(I:Inv X pins σ H s)(hch:∀b∈ch,(b∈X.ex\/X.s₀.heap.objs.size<=b)/\b≠X.env.locals/\(∀x c,X.env.cells.lookup x=some c->c≠b)/\∀p∈X.pn++pins,p.1≠b)(keep:∀b o,b≠X.env.locals->b∉X.fs->b∉ch->s.heap.get? b=some o->H b=none->h'.get? b=some o)(slot:∀b o,b≠X.env.locals->b∈X.fs->b∉ch->s.heap.get? b=some o->H b=none->∃sl,h'.get? b=some { o with slots:=sl })(free:∀b o,b∉ch->s.heap.get? b=some o->H b=none->H' b=none)(there:∀b o,b∉ch->s.heap.get? b=some o->∃o',h'.get? b=some o')(tups:∀b xs,H b=some (.tup xs)->H' b=some (.tup xs))(aa1:∀b o u,H b=some (.Py o u)->H' b=some (.Py o u))(adb:∀b ps,H b=some (.tbl ps)->∃more,H' b=some (.tbl (ps++more)))(ns:∀m,s.heap.Ns X.env.locals m->h'.Ns X.env.locals m)(hok:Rx X.prog X.w H' h')(hg:AllBare g') :
 Inv X pins σ H' { s with heap:=h',gens:=g',drawn:=d',toks:=t' }:=by
 have neL:∀b o,X.s₀.heap.get? b=some o->b≠X.env.locals:=λb o e=>dj (gh (au e) I.ok.above)
 have neC:∀b o,X.s₀.heap.get? b=some o->b∉X.ex->b∉ch:=λb o e hx hb=>by
  rcases(hch b hb).1 with z|z
  . exact hx z
  . exact absurd (gh (au e) z) (qd _)
 have cellK:∀x c,X.env.cells.lookup x=some c->∀v,s.heap.IsCell c v->h'.IsCell c v:=λx c e v ⟨o,ho,hd⟩=>by
  have nch:c∉ch:=λz=>(hch c z).2.2.1 x c e rfl
  by_cases hc:c∈X.fs
  . obtain⟨sl,q⟩:=slot c o (I.cne x c e) hc nch ho (I.Pz x c e)
    exact⟨_,q,hd⟩
  . exact⟨o,keep c o (I.cne x c e) hc nch ho (I.Pz x c e),hd⟩
 refine⟨I.ok,I.os,hg,⟨λb o e n hb hx=>?_,λb o e n hb hx=>?_,λb o e n hx=>?_,λb o e hx=>?_,λb xs e=>tups b xs (I.base.tups b xs e),λb o xs e=>aa1 b o xs (I.base.aa1 b o xs e),λb ps e=>?_⟩,?_,λx c e=>?_,?_,λx c e=>?_,λp hp=>?_,hok,I.len⟩
 . exact keep b o (neL b o e) hb (neC b o e hx) (I.base.keep b o e n hb hx) (I.base.free b o e n hx)
 . obtain⟨sl,e1⟩:=I.base.slot b o e n hb hx
   obtain⟨sl',e2⟩:=slot b _ (neL b o e) hb (neC b o e hx) e1 (I.base.free b o e n hx);exact⟨sl',e2⟩
 . obtain⟨o',e1⟩:=I.base.there b o e hx
   exact free b o' (neC b o e hx) e1 (I.base.free b o e n hx)
 . obtain⟨o',e1⟩:=I.base.there b o e hx
   exact there b o' (neC b o e hx) e1
 . obtain⟨m1,e1⟩:=I.base.adb b ps e
   obtain⟨m2,e2⟩:=adb b _ e1;exact⟨m1++m2,by rw[e2,Array.append_assoc]⟩
 . obtain⟨m,hn,hl⟩:=I.loc
   refine⟨m,ns m hn,λi x v e1 e2 e3=>?_⟩;obtain⟨u,r,l⟩:=hl i x v e1 e2 e3;refine⟨u,r,?_⟩;rcases l with l|⟨k,c,e,z⟩
   . exact .inl l
   . exact .inr ⟨k,c,e,cellK x c e _ z⟩
 . obtain⟨v,z⟩:=I.cell x c e
   exact⟨v,cellK x c e v z⟩
 . obtain⟨m,⟨o,_,_,ho,_⟩,_⟩:=I.loc
   exact free _ o (λz=>(hch _ z).2.1 rfl) ho I.free
 . obtain⟨v,o,ho,hd⟩:=I.cell x c e
   exact free c o (λz=>(hch c z).2.2.1 x c e rfl) ho (I.Pz x c e)
 . obtain⟨e,n,ne,nf,d⟩:=I.pin p hp
   have nch:p.1∉ch:=λz=>(hch p.1 z).2.2.2 p hp rfl
   exact⟨keep p.1 p.2 ne nf nch e n,free p.1 p.2 nch e n,ne,nf,d⟩
theorem Inv.un(I:Inv X pins σ H s)(u:Un X.fs [] H H' s.heap h')(hok:Rx X.prog X.w H' h'):Inv X pins σ H' { s with heap:=h',toks:=t' }:=by
 obtain⟨m,⟨o,es,ep,ho,r⟩,_⟩:=id I.loc;obtain⟨sl,hL⟩:=u.any ho I.free (by simp);exact I.step (g':=s.gens) (d':=s.drawn) (ch:=[]) (λ_ z=>nomatch z) (λb o _ hb _ e n=>u.keep b o e n hb (by simp)) (λb o _ hb _ e n=>u.slot b o e n hb (by simp)) (λb o _ e n=>u.free b o e n (by simp)) (λb o _ e=>u.there b o e (by simp)) u.tups u.aa1 u.adb (λm' hm=>by
  obtain⟨o',es',ep',ho',r'⟩:=hm;rw[ho] at ho';cases ho';exact⟨_,es',ep',hL,r'⟩) hok I.bare
theorem Inv.call(I:Inv X pins σ H s)(u:Un (frs X.stack) ch H H' s.heap h')(hok:Rx X.prog X.w H' h')(hg:AllBare g')(hch:∀b∈ch,(b∈X.ex\/X.s₀.heap.objs.size<=b)/\b≠X.env.locals/\(∀x c,X.env.cells.lookup x=some c->c≠b)/\∀p∈X.pn++pins,p.1≠b) :
 Inv X pins σ H' { s with heap:=h',gens:=g',drawn:=d',toks:=t' }:=by
 obtain⟨m,⟨o,es,ep,ho,r⟩,_⟩:=id I.loc;obtain⟨sl,hL⟩:=u.any ho I.free λz=>(hch _ z).2.1 rfl
 exact I.step (ch:=ch) hch (λb o hL hb hc e n=>u.keep b o e n (λz=>(bw.mp (I.aa3 b z)).elim hL hb) hc) (λb o _ _ hc e n=>u.any e n hc) (λb o hc e n=>u.free b o e n hc) (λb o hc e=>u.there b o e hc) u.tups u.aa1 u.adb (λm' hm=>by
  obtain⟨o',es',ep',ho',r'⟩:=hm;rw[ho] at ho';cases ho';exact⟨_,es',ep',hL,r'⟩) hok hg
theorem Inv.turned(I:Inv X pins σ H s)(k:∀b o,b≠it->s.heap.get? b=some o->h'.get? b=some o)(hn:H it=none)(hL:it≠X.env.locals)(h1:it∈X.ex\/X.s₀.heap.objs.size<=it)(h2:∀x c,X.env.cells.lookup x=some c->c≠it)(h3:∀p∈X.pn++pins,p.1≠it):Inv X pins σ H { s with heap:=h',toks:=t' }:=by
 have nit:∀b u,H b=some u->b≠it:=λb u e z=>by rw[z,hn] at e;cases e
 refine I.step (g':=s.gens) (d':=s.drawn) (ch:=[it]) (λb hb=>?_) (λb o _ _ hc e _=>k b o (λz=>hc (by simp[z])) e) (λb o _ _ hc e _=>⟨o.slots,k b o (λz=>hc (by simp[z])) e⟩) (λ_ _ _ _ n=>n)
  (λb o hc e=>⟨o,k b o (λz=>hc (by simp[z])) e⟩) (λ_ _ e=>e) (λ_ _ _ e=>e) (λb ps e=>⟨#[],by rw[e];simp⟩) (λm hm=>?_) (λb u e=>?_) I.bare
 . have e:b=it:=by simpa using hb
   subst e;exact⟨h1,hL,h2,h3⟩
 . obtain⟨o,es,ep,ho,r⟩:=hm
   exact⟨o,es,ep,k _ o (jz hL) ho,r⟩
 . refine(I.hok b u e).stay (λc v hc q=>k c v ?_ q) (λ_ q=>q) λ_ _ q=>q
   rcases hc with z|z
   . rw[z];exact nit b u e
   . exact nit c _ z
theorem Inv.tok(I:Inv X pins σ H s)(t:Nat):Inv X pins σ H { s with toks:=t }:=I.un (h':=s.heap) (t':=t) Un.refl I.hok
theorem Inv.kept(I:Inv X pins σ H s)(k:∀b u,s.heap.get? b=some u->h'.get? b=some u):Inv X pins σ H { s with heap:=h',toks:=t' }:=I.un (Un.kept k) (I.hok.kept k)
theorem Inv.laid(I:Inv X pins σ H s)(k:∀b u,s.heap.get? b=some u->h'.get? b=some u)(hp:s.heap.objs.size<=a)(new:zx X.prog X.w (upd H a o) h' a o) :
 Inv X pins σ (upd H a o) { s with heap:=h',toks:=t' }:=I.un (Un.laid k hp (I.hok.fresh hp)) (I.hok.laid k hp new)
theorem Inv.write(I:Inv X pins σ H s)(mu:Mut (H x))(he:e=x\/H e=some (.own x))(k:∀b u,b≠e->s.heap.get? b=some u->h'.get? b=some u)(heo:∃u,h'.get? e=some u)(new:zx X.prog X.w (upd H x o) h' x o):Inv X pins σ (upd H x o) { s with heap:=h',toks:=t' }:=I.un (Un.write mu he k heo) (I.hok.write mu he k heo new)
theorem Inv.weak(I:Inv X pins σ H s)(hl:σ'.length=σ.length)(w:∀(i:Nat) v,σ'[i]?=some (some v)->σ[i]?=some (some v)):Inv X pins σ' H s :=
 ⟨I.ok,I.os,I.bare,I.base,let ⟨m,hn,hl'⟩:=I.loc;⟨m,hn,λi x v e1 e2 e3=>hl' i x v e1 (w i v e2) e3⟩,I.cell,I.free,I.Pz,I.pin,I.hok,hl.trans I.len⟩
theorem Inv.T4(I:Inv X pins σ H s)(h:∀p∈aha,s.heap.get? p.1=some p.2/\H p.1=none/\p.1≠X.env.locals/\p.1∉X.fs/\∀v,p.2.data≠.cell v):Inv X aha σ H s :=
 ⟨I.ok,I.os,I.bare,I.base,I.loc,I.cell,I.free,I.Pz,λp hp=>(dw.mp hp).elim (λz=>I.pin p (xf _ z)) (h p),I.hok,I.len⟩
theorem ade{N:List Str}(hN:N.Nodup){i:Nat}(a:N[i]?=some x)(b:N[j]?=some x):i=j:=by obtain⟨h1,e1⟩:=ak.mp a;obtain⟨h2,e2⟩:=ak.mp b;exact(qz hN).mp (e1.trans e2.symm)
theorem ai8(I:Inv X pins σ H s)(hN:X.N.Nodup)(hi:X.N[i]?=some x)(hx:Loc X.env.scope x)(r:RelV v u)(h:∀s',Inv X pins (σ.set i (some v)) H s'->(∃a,Heap.SameBut a s.heap s'.heap/\(a=X.env.locals\/X.env.cells.lookup x=some a))->Q () s')(hf:X.fn x=true\/X.env.scope.names.lookup x=some .local:=by first|exact .inl rfl|exact .inr rfl|assumption):wpAny M A (storeName X.env x u) Q E s:=by
 obtain⟨m,hn,hl⟩:=id I.loc;have hcls:(X.env.scope.kind==.class||(X.env.scope.kind==.module&&X.env.locals != X.env.globals))=false:=by rw[I.ok.kind];rfl
 have hiσ:i < σ.length:=by rw[I.len];exact(ak.mp hi).1
 have cne:=I.cne;have tracked:∀{a:Addr}{h':Heap},(∃o,s.heap.get? a=some o/\H a=none)->Heap.SameBut a s.heap h'->Rx X.prog X.w H h':=fun{a h'} ha hs b ob e=>by
  obtain⟨_,_,hfree⟩:=ha;refine(I.hok b ob e).stay (λc w' hc q=>(hs.2 c ?_).trans q) (λ_ q=>q) λ_ _ q=>q
  rintro rfl;rcases hc with rfl|hc
  . rw[hfree] at e;cases e
  . rw[hfree] at hc;cases hc
 rcases hx with hk|hk
 . refine wpAny_storeName_local hk hn (λh' hn' hs=>?_) hcls
   obtain⟨oL,_,_,hoL,_⟩:=id hn;refine h _ ⟨I.ok,I.os,I.bare,⟨λb o e n hb hx=>?_,λb o e n hb hx=>?_,I.base.free,λb o e hx=>?_,I.base.tups,I.base.aa1,I.base.adb⟩,⟨_,hn',λj y v' e1 e2 e3=>?_⟩,λy c e=>?_,I.free,I.Pz,λp hp=>?_,tracked ⟨oL,hoL,I.free⟩ hs,by simpa using I.len⟩ ⟨_,hs,.inl rfl⟩
   . exact(hs.2 b (dj (gh (au e) I.ok.above))).trans (I.base.keep b o e n hb hx)
   . obtain⟨sl,e1⟩:=I.base.slot b o e n hb hx
     exact⟨sl,(hs.2 b (dj (gh (au e) I.ok.above))).trans e1⟩
   . obtain⟨o',e1⟩:=I.base.there b o e hx
     exact⟨o',(hs.2 b (dj (gh (au e) I.ok.above))).trans e1⟩
   . by_cases hj:j=i
     . subst hj
       rw[hi] at e1;cases e1;rw[Bl hiσ] at e2;cases e2;exact⟨u,r,.inl ⟨hk,by simp⟩⟩
     . rw[uz (jz hj)] at e2
       obtain⟨u',r',q⟩:=hl j y v' e1 e2 e3;refine⟨u',r',?_⟩;rcases q with⟨k,e⟩|⟨k,c,e,z⟩
       . refine .inl ⟨k,?_⟩
         have:y≠x:=λe=>hj (ade hN e1 (e▸hi))
         simp[this,e]
       . exact .inr ⟨k,c,e,z.sameBut hs (cne y c e)⟩
   . obtain⟨w',z⟩:=I.cell y c e
     exact⟨w',z.sameBut hs (cne y c e)⟩
   . obtain⟨e,n,ne,nf,d⟩:=I.pin p hp
     exact⟨(hs.2 p.1 ne).trans e,n,ne,nf,d⟩
 . have hfn:X.fn x=true:=by
    rcases hf with z|z
    . exact z
    . rw[z] at hk;cases hk
   obtain⟨c,hc⟩:=I.ok.has x (.inl hk);obtain⟨w',z⟩:=I.cell x c hc;refine wpAny_storeName_cell I.ok.kind hk hc z (λh' hc' hs=>?_);obtain⟨oc,hoc,a76⟩:=id z;refine h { s with heap:=h' } ⟨I.ok,I.os,I.bare,⟨λb o e n hb hx=>?_,λb o e n hb hx=>?_,I.base.free,λb o e hx=>?_,I.base.tups,I.base.aa1,I.base.adb⟩,⟨m,hn.sameBut hs (jz (cne x c hc)),λj y v' e1 e2 e3=>?_⟩,λy c' e=>?_,I.free,I.Pz,λp hp=>?_,tracked ⟨oc,hoc,I.Pz x c hc⟩ hs,by simpa using I.len⟩ ⟨c,hs,.inr hc⟩
   . exact(hs.2 b (dj (gh (au e) (I.ok.cab x c hfn hc)))).trans (I.base.keep b o e n hb hx)
   . obtain⟨sl,e1⟩:=I.base.slot b o e n hb hx
     exact⟨sl,(hs.2 b (dj (gh (au e) (I.ok.cab x c hfn hc)))).trans e1⟩
   . obtain⟨o',e1⟩:=I.base.there b o e hx
     exact⟨o',(hs.2 b (dj (gh (au e) (I.ok.cab x c hfn hc)))).trans e1⟩
   . by_cases hj:j=i
     . subst hj
       rw[hi] at e1;cases e1;rw[Bl hiσ] at e2;cases e2;exact⟨u,r,.inr ⟨.inl hk,c,hc,hc'⟩⟩
     . rw[uz (jz hj)] at e2
       obtain⟨u',r',q⟩:=hl j y v' e1 e2 e3;refine⟨u',r',?_⟩;rcases q with q|⟨k,c',e,z'⟩
       . exact .inl q
       . refine .inr ⟨k,c',e,z'.sameBut hs ?_⟩
         rintro rfl;exact hj (ade hN e1 (I.ok.inj _ _ _ e hc▸hi))
   . by_cases hcc:c'=c
     . subst hcc;exact⟨_,hc'⟩
     . obtain⟨w2,z2⟩:=I.cell y c' e
       exact⟨w2,z2.sameBut hs hcc⟩
   . obtain⟨e,n,ne,nf,d⟩:=I.pin p hp
     refine⟨(hs.2 p.1 ?_).trans e,n,ne,nf,d⟩;intro q;rw[q,hoc] at e;have q':oc=p.2:=ie e;exact d w' (by rw[<- q'];exact a76)
theorem alg(I:Inv X pins σ H s)(hN:X.N.Nodup)(hi:X.N[i]?=some x)(hx:Loc X.env.scope x)(r:RelV v u)(h:∀s',Inv X pins (σ.set i (some v)) H s'->Q () s')(hf:X.fn x=true\/X.env.scope.names.lookup x=some .local:=by first|exact .inl rfl|exact .inr rfl|assumption):wpAny M A (storeName X.env x u) Q E s :=
 ai8 I hN hi hx r (λs' I' _=>h s' I') hf
theorem Inv.call'(I:Inv X pins σ H s)(ho:s'.os=s.os)(u:Un (frs X.stack) ch H H' s.heap s'.heap)(hok:Rx X.prog X.w H' s'.heap)(hg:AllBare s'.gens)(hch:∀b∈ch,(b∈X.ex\/X.s₀.heap.objs.size<=b)/\b≠X.env.locals/\(∀x c,X.env.cells.lookup x=some c->c≠b)/\∀p∈X.pn++pins,p.1≠b):Inv X pins σ H' s':=by obtain⟨h',g',d',t',o'⟩:=s';have e:o'=s.os:=ho;subst e;exact I.call (g':=g') (t':=t') (d':=d') u hok hg hch
end
abbrev XK:=Value->Option Addr->Hp->Prop
abbrev St:=List (Option V)
abbrev VK:=V->Hp->Prop
abbrev TE:=St->Hp->VK->Prop
abbrev TT:=St->Hp->(Bool->Hp->Prop)->Prop
abbrev TA:=St->Hp->(List V->Hp->Prop)->Prop
structure Ends where
 nx:St->Hp->Prop
 rt:VK
 bk:St->Hp->Prop:=λ_ _=>False
 ct:St->Hp->Prop:=λ_ _=>False
abbrev TS:=Ends->St->Hp->Prop
def EP(X:Cx)(pins:List (Addr×Obj))(σ:St)(Q:VK)(u:Value)(s':Shared):Prop:=∃v H',Inv X pins σ H' s'/\RelV v u/\Q v H'
def TP(X:Cx)(pins:List (Addr×Obj))(σ:St)(Q:Bool->Hp->Prop)(b:Bool)(s':Shared):Prop:=∃H',Inv X pins σ H' s'/\Q b H'
def AP(X:Cx)(pins:List (Addr×Obj))(σ:St)(Q:List V->Hp->Prop)(us:List Value)(s':Shared):Prop:=∃vs H',Inv X pins σ H' s'/\Vals vs us/\Q vs H'
def SP(X:Cx)(pins:List (Addr×Obj))(D:Ends)(f:Flow)(s':Shared):Prop :=
 match f with
 |.next=>∃σ' H',Inv X pins σ' H' s'/\D.nx σ' H'|.brk=>∃σ' H',Inv X pins σ' H' s'/\D.bk σ' H'|.cont=>∃σ' H',Inv X pins σ' H' s'/\D.ct σ' H'|.ret u=>∃v σ' H',Inv X pins σ' H' s'/\RelV v u/\D.rt v H'
def PE(X:Cx)(e:Expr)(t:TE):Prop :=
 ∀(pins:List (Addr×Obj))(s:Shared)(σ:St)(H:Hp)(Q:VK),Inv X pins σ H s->t σ H Q->wpAny (model X.prog X.w) X.A (eval e X.env) (EP X pins σ Q) X.xe s
def PT(X:Cx)(e:Expr)(t:TT):Prop :=
 ∀(pins:List (Addr×Obj))(s:Shared)(σ:St)(H:Hp)(Q:Bool->Hp->Prop),Inv X pins σ H s->t σ H Q->wpAny (model X.prog X.w) X.A (isTrue e X.env (eval e X.env)) (TP X pins σ Q) X.xe s
def PW(X:Cx)(e:Expr)(t:TT):Prop :=
 ∀(whole:Sem Value)(pins:List (Addr×Obj))(s:Shared)(σ:St)(H:Hp)(Q:Bool->Hp->Prop),Inv X pins σ H s->t σ H Q->wpAny (model X.prog X.w) X.A (isTrue e X.env whole) (TP X pins σ Q) X.xe s
theorem PW.pt(h:PW X e t):PT X e t:=h _
def PA(X:Cx)(es:List Expr)(t:TA):Prop :=
 ∀(pos:Pos)(pins:List (Addr×Obj))(s:Shared)(σ:St)(H:Hp)(Q:List V->Hp->Prop),Inv X pins σ H s->t σ H Q->wpAny (model X.prog X.w) X.A (spliced (backTo pos (starEach es X.env))) (AP X pins σ Q) X.xe s
def PS(X:Cx)(st:Stmt)(t:TS):Prop :=
 ∀(pins:List (Addr×Obj))(s:Shared)(σ:St)(H:Hp)(D:Ends),Inv X pins σ H s->t D σ H->wpAny (model X.prog X.w) X.A (exec st X.env) (SP X pins D) X.xe s
def T5(X:Cx)(st:List Stmt)(t:TS):Prop :=
 ∀(pins:List (Addr×Obj))(s:Shared)(σ:St)(H:Hp)(D:Ends),Inv X pins σ H s->t D σ H->wpAny (model X.prog X.w) X.A (execs st X.env) (SP X pins D) X.xe s
theorem Bp{t:Sem α}{Q Q':α->Shared->Prop}(h:wpAny M A t Q E s)(hQ:∀a s,Q a s->Q' a s):wpAny M A t Q' E s:=jt h hQ λ_ _ x=>x
end L2
namespace L2
open PySem PySem.Spec PyProof.Rows
section
variable{X:Cx}
def a77(i:Nat):TE:=fun σ H Q=>∃v,σ[i]?=some (some v)/\Q v H
def tC(v:V):TE:=λ_ H Q=>Q v H
theorem awx(hN:X.N[i]?=some x)(hv:Vis X.env.scope x)(hd:(x==("__debug__" : Str))=false:=by decide)(hcd:(x==("__classdict__" : Str))=false:=by decide):PE X (.Name x pos) (a77 i):=by
 intro pins s σ H Q I h;obtain⟨v,e,h⟩:=h;obtain⟨m,hn,hl⟩:=I.loc;obtain⟨u,r,l⟩:=hl i x v hN e hv;have fin:EP X pins σ Q u s:=⟨v,H,I,r,h⟩;rcases l with⟨hk,hm⟩|⟨hk,c,hc,hcell⟩
 . exact wpAny_Name (wpAny_loadName_local I.ok.kind hk hn hm fin) hd
 . rcases hk with hk|hk
   . exact wpAny_Name (wpAny_loadName_cell I.ok.kind hk hc hcell fin) hd
   . exact wpAny_Name (wpAny_loadName_free I.ok.kind hk hc hcell fin hcd) hd
theorem awy:PE X (.Constant (.int i) j pos) (tC (.int i)):=λ_ _ _ H _ I h=>wpAny_Constant_int ⟨.int i,H,I.tok _,⟨_,rfl⟩,h⟩
theorem a06:PE X (.Constant (.bool b) j pos) (tC (.bl b)):=λ_ _ _ H _ I h=>Constant_bool ⟨.bl b,H,I,rfl,h⟩
theorem awz:PE X (.Constant .none j pos) (tC .non):=λ_ _ _ H _ I h=>Constant_none ⟨.non,H,I,rfl,h⟩
theorem aw0:PE X (.Constant (.str x) j pos) (tC (.str x)):=λ_ _ _ H _ I h=>Calls.Constant_str ⟨.str x,H,I.tok _,⟨_,rfl⟩,h⟩
def Gl(X:Cx)(x:Str):Prop:=X.env.kindOf x=some .globalImplicit
theorem aa4(I:Inv X pins σ H s)(hg:Gl X x)(hm:X.mg x=some u)(h:Q u s)(hd:(x==("__debug__" : Str))=false:=by decide):wpAny (model X.prog X.w) X.A (eval (.Name x pos) X.env) Q E s :=
 Am I.ok.kind hg (Calls.loadGlobal_global (by rw[I.ok.glob];exact I.mod.glob.keeps I.bk) hm h) hd
theorem G8(I:Inv X pins σ H s)(hg:Gl X x)(hm:X.mg x=none)(hv:bootBuiltins x=some u)(h:Q u s)(hn:x≠"__name__" := by decide)(hd:(x==("__debug__" : Str))=false:=by decide):wpAny (model X.prog X.w) X.A (eval (.Name x pos) X.env) Q E s:=by obtain⟨mb,h1,h2⟩:=I.mod.blt;exact Am I.ok.kind hg (Calls.loadGlobal_builtin (by rw[I.ok.glob];exact I.mod.glob.keeps I.bk) hm (by rw[I.ok.blt];exact h1.keeps I.bk) ((h2 x hn).trans hv) h) hd
theorem aqt(hg:Gl X x)(hm:X.mg x=some u)(r:RelV v u)(hd:(x==("__debug__" : Str))=false:=by decide):PE X (.Name x pos) (tC v) :=
 λ_ _ _ H _ I h=>aa4 I hg hm ⟨v,H,I,r,h⟩ hd
variable{a b:Expr}{ta tb:TE}{pos:Pos}
def PC(X:Cx)(op:CmpOp)(a b:Expr)(t:TE):Prop :=
 ∀(pins:List (Addr×Obj))(s:Shared)(σ:St)(H:Hp)(Q:VK),Inv X pins σ H s->t σ H Q ->
  wpAny (model X.prog X.w) X.A (eval a X.env) (λv s₁=>wpAny (model X.prog X.w) X.A (eval b X.env) (λu s₂=>wpAny (model X.prog X.w) X.A (compareOp op v u) (EP X pins σ Q) X.xe s₂) X.xe s₁) X.xe s
theorem adf(b:Expr)(h:op≠.In)(h2:op≠.NotIn):behindInMarks op b=false:=by
 have e1:(op==CmpOp.In)=false:=by cases op<;>first|rfl|exact absurd rfl h
 have e2:(op==CmpOp.NotIn)=false:=by cases op<;>first|rfl|exact absurd rfl h2
 cases b<;>simp[behindInMarks,e1,e2]
def tB(t:TE):TT:=fun σ H Q=>t σ H λx H1=>∃c,x=.bl c/\Q c H1
theorem aw1(h:PC X op a b t)(h1:behindInMarks op b=false:=by first|exact adf _ (by decide) (by decide)|rfl):PE X (.Compare a [op] [b] pos) t:=λpins s σ H Q I hw=>wpAny_Compare1 (h pins s σ H Q I hw) h1
theorem aw2(h:PC X op a b t)(h1:behindInMarks op b=false:=by first|exact adf _ (by decide) (by decide)|rfl):PT X (.Compare a [op] [b] pos) (tB t):=by intro pins s σ H Q I hw;refine wpAny_isTrue_Compare1 (Bp (h pins s σ H _ I hw) λv s1 h1=>Bp h1 λu s2 h2=>Bp h2 λc s3 ⟨x,H1,I1,r1,q1⟩=>?_) h1;obtain⟨d,rfl,q⟩:=q1;cases r1;exact j0 ⟨H1,I1,q⟩
theorem aw3(h:PE X e t)(he:∀whole,isTrue e X.env whole=(do let v <- whole;standAt e.pos;holding [v] (truthy v)):=by intro _;rfl):PT X e (tB t):=by intro pins s σ H Q I hw;refine isTrue_plain (Bp (h pins s σ H _ I hw) λv s1 ⟨x,H1,I1,r1,q1⟩=>?_) (he _);obtain⟨d,rfl,q⟩:=q1;cases r1;exact j0 ⟨H1,I1,q⟩
variable{tA tB':TT}{rest:List Expr}
def a78(t u:TT):TT:=fun σ H Q=>t σ H λc H1=>if c=true then u σ H1 Q else Q false H1
def tOr(t u:TT):TT:=fun σ H Q=>t σ H λc H1=>if c=true then Q true H1 else u σ H1 Q
def a79(t:TT):TT:=fun σ H Q=>t σ H λc H1=>Q (!c) H1
theorem aqu(ha:PT X a tA):PW X (.BoolOp .And [a] pos) tA:=by
 intro wh pins s σ H Q I h;refine isTrue_and (Bp (ha pins s σ H Q I h) λc s1 e=>?_);cases c with
 |true=>exact isTrue_and_nil e|false=>exact e
theorem aw4(ha:PT X a tA):PW X (.BoolOp .Or [a] pos) tA:=by
 intro wh pins s σ H Q I h;refine isTrue_or (Bp (ha pins s σ H Q I h) λc s1 e=>?_);cases c with
 |false=>exact isTrue_or_nil e|true=>exact e
theorem aw5(ha:PT X a tA)(hb:PW X (.BoolOp .And (b::rest) pos) tB'):PW X (.BoolOp .And (a::b::rest) pos) (a78 tA tB'):=by
 intro wh pins s σ H Q I h;refine isTrue_and (Bp (ha pins s σ H _ I h) λc s1 ⟨H1,I1,q1⟩=>?_);cases c with
 |true=>exact hb wh pins s1 σ H1 Q I1 q1|false=>exact⟨H1,I1,q1⟩
theorem a07(ha:PT X a tA)(hb:PW X (.BoolOp .Or (b::rest) pos) tB'):PW X (.BoolOp .Or (a::b::rest) pos) (tOr tA tB'):=by
 intro wh pins s σ H Q I h;refine isTrue_or (Bp (ha pins s σ H _ I h) λc s1 ⟨H1,I1,q1⟩=>?_);cases c with
 |true=>exact⟨H1,I1,q1⟩|false=>exact hb wh pins s1 σ H1 Q I1 q1
theorem aw6(ha:PT X a tA):PT X (.UnaryOp .Not a pos) (a79 tA):=by intro pins s σ H Q I h;exact isTrue_not (ha pins s σ H (λc H1=>Q (!c) H1) I h)
def a08(ta tb:TE):TE:=fun σ H Q=>ta σ H λx H1=>∃c,x=.bl c/\if c=true then tb σ H1 Q else Q (.bl false) H1
def a8a(ta tb:TE):TE:=fun σ H Q=>ta σ H λx H1=>∃c,x=.bl c/\if c=true then Q (.bl true) H1 else tb σ H1 Q
def a09(ta:TE):TE:=fun σ H Q=>ta σ H λx H1=>∃c,x=.bl c/\Q (.bl (!c)) H1
theorem aw7(ha:PE X a ta)(hb:PE X (.BoolOp .And (b::rest) pos) tb):PE X (.BoolOp .And (a::b::rest) pos) (a08 ta tb):=by
 intro pins s σ H Q I h;refine BoolOp_and (Bp (ha pins s σ H _ I h) λv s1 ⟨x,H1,I1,r1,q1⟩=>?_);obtain⟨c,rfl,q1⟩:=q1;cases r1;refine j0 ?_;cases c with
 |true=>exact hb pins s1 σ H1 Q I1 q1|false=>exact⟨.bl false,H1,I1,rfl,q1⟩
theorem a1a(ha:PE X a ta)(hb:PE X (.BoolOp .Or (b::rest) pos) tb):PE X (.BoolOp .Or (a::b::rest) pos) (a8a ta tb):=by
 intro pins s σ H Q I h;refine BoolOp_or (Bp (ha pins s σ H _ I h) λv s1 ⟨x,H1,I1,r1,q1⟩=>?_);obtain⟨c,rfl,q1⟩:=q1;cases r1;refine j0 ?_;cases c with
 |false=>exact hb pins s1 σ H1 Q I1 q1|true=>exact⟨.bl true,H1,I1,rfl,q1⟩
theorem aw8(ha:PE X a ta):PE X (.UnaryOp .Not a pos) (a09 ta):=by intro pins s σ H Q I h;refine UnaryOp_ (Bp (ha pins s σ H _ I h) λv s1 ⟨x,H1,I1,r1,q1⟩=>?_);obtain⟨c,rfl,q1⟩:=q1;cases r1;exact not_of (j0 ⟨.bl (!c),H1,I1,rfl,q1⟩)
def tIf(t:TT)(ta tb:TE):TE:=fun σ H Q=>t σ H λc H1=>if c=true then ta σ H1 Q else tb σ H1 Q
theorem alh(hc:PT X c tA)(ha:PE X a ta)(hb:PE X b tb):PE X (.IfExp c a b pos) (tIf tA ta tb):=by
 intro pins s σ H Q I h;refine wpAny_IfExp (Bp (hc pins s σ H _ I h) λd s1 ⟨H1,I1,q1⟩=>?_);cases d with
 |true=>exact ha pins s1 σ H1 Q I1 q1|false=>exact hb pins s1 σ H1 Q I1 q1
end
end L2
namespace L2
open PySem PySem.Spec PyProof.Rows
def Jv(K:Fg)(H:Hp)(a:Addr)(xs:List V):Prop :=
 Rd H a (.lst xs) \/
  ∃(o:Obj)(its:Array Value)(n:Nat),K.lookup a=some o/\o.cls=.type "list"/\o.dict=none/\o.data=.seq its n/\its.size<=sizeLine/\Vals xs its.toList
def Ml(K:Fg)(H:Hp)(a:Addr)(xs:List V):Prop :=
 Rd H a (.tup xs) \/
  ∃(o:Obj)(its:Array Value)(n:Nat),K.lookup a=some o/\o.cls=.type "tuple"/\o.data=.seq its n/\its.size<=sizeLine/\Vals xs its.toList
def a8b:Value->Option V
 |.none=>some .non|.bool b=>some (.bl b)|.int i _=>some (.int i)|.str x _=>some (.str x)|.bytes b _=>some (.byt b)|.float b _=>some (.flt b)|.ref a=>some (.ref a)|.type n=>some (.ty n)|_=>none
theorem RelV.abs(r:RelV x u):a8b u=some x:=by
 cases x with
 |non=>cases r;rfl|bl _=>cases r;rfl|int _=>obtain⟨t,rfl⟩:=r;rfl
 |str _=>obtain⟨t,rfl⟩:=r;rfl
 |byt _=>obtain⟨t,rfl⟩:=r;rfl
 |flt _=>obtain⟨t,rfl⟩:=r;rfl
 |ref _=>cases r;rfl|ty _=>cases r;rfl
theorem RelV.inj(r:RelV x u)(q:RelV y u):x=y:=ie (r.abs.symm.trans q.abs)
theorem Vals.inj:∀{xs ys:List V}{us:List Value},Vals xs us->Vals ys us->xs=ys
 |_,_,_,.nil,.nil=>rfl|_,_,_,.cons r t,.cons r' t'=>by rw[r.inj r',Vals.inj t t']
section
variable{X:Cx}{pins:List (Addr×Obj)}{σ:St}{H:Hp}{s:Shared}{a:Addr}{xs ys:List V}
theorem Jv.of{K:Fg}(h:H a=some (.lst xs)):Jv K H a xs:=.inl (.inl h)
theorem Ml.of{K:Fg}(h:H a=some (.tup xs)):Ml K H a xs:=.inl (.inl h)
theorem Inv.list(I:Inv X pins σ H s)(h:Jv X.K H a xs):∃its:List Value,Vals xs its/\PlainL s.heap a its.toArray/\xs.length<=sizeLine:=by
 rcases h with h|⟨o,its,n,hk,hc,hd,hs,hz,r⟩
 . obtain⟨z,its,n,r,e⟩:=h.ok I.hok
   exact⟨its,r,⟨_,n,e,rfl,rfl,rfl⟩,z⟩
 . refine⟨its.toList,r,⟨o,n,I.Wt a o hk,hc,hd,by simpa using hs⟩,?_⟩
   have e:=r.length;simp only[qe] at e;exact a_ (f_ e) hz
theorem Inv.tuple(I:Inv X pins σ H s)(h:Ml X.K H a xs):∃its:List Value,Vals xs its/\IsTup s.heap a its.toArray/\xs.length<=sizeLine:=by
 rcases h with h|⟨o,its,n,hk,hc,hs,hz,r⟩
 . obtain⟨z,its,r,p⟩:=h.ok I.hok
   exact⟨its,r,p.is,z⟩
 . refine⟨its.toList,r,⟨o,I.Wt a o hk,hc,n,by simpa using hs⟩,?_⟩
   have e:=r.length;simp only[qe] at e;exact a_ (f_ e) hz
theorem Inv.adg(I:Inv X pins σ H s)(h:Jv X.K H a xs)(h':Jv X.K H a ys):xs=ys:=by
 obtain⟨its,r,⟨o,n,e,_,_,d⟩,_⟩:=I.list h;obtain⟨its',r',⟨o',n',e',_,_,d'⟩,_⟩:=I.list h';rw[e] at e';cases e';rw[d] at d';injection d' with d1 _
 have:its=its':=by simpa using m6 Array.toList d1
 subst this;exact r.inj r'
theorem Inv.Zq(I:Inv X pins σ H s)(h:Ml X.K H a xs)(h':Ml X.K H a ys):xs=ys:=by
 obtain⟨its,r,⟨o,e,_,n,d⟩,_⟩:=I.tuple h;obtain⟨its',r',⟨o',e',_,n',d'⟩,_⟩:=I.tuple h';rw[e] at e';cases e';rw[d] at d';injection d' with d1 _
 have:its=its':=by simpa using m6 Array.toList d1
 subst this;exact r.inj r'
end
abbrev Cx.wish(X:Cx)(E:Value->Shared->Prop):Cx:={ X with xe:=E }
abbrev Cx.nox(X:Cx):Cx:=X.wish λ_ _=>False
theorem Cx.Ok.wish{X:Cx}(ok:X.Ok)(E:Value->Shared->Prop):(X.wish E).Ok :=
 ⟨ok.mod,ok.kind,ok.glob,ok.blt,ok.above,ok.inj,ok.has,ok.cab,ok.hd,ok.frames,ok.stk,ok.exf,ok.bs,ok.bsz,ok.ale,ok.aqs,ok.Ws,ok.frf⟩
theorem Cx.Ok.P0{X:Cx}(ok:(X.wish E).Ok):X.Ok :=
 ⟨ok.mod,ok.kind,ok.glob,ok.blt,ok.above,ok.inj,ok.has,ok.cab,ok.hd,ok.frames,ok.stk,ok.exf,ok.bs,ok.bsz,ok.ale,ok.aqs,ok.Ws,ok.frf⟩
section
variable{X:Cx}{pins:List (Addr×Obj)}{σ:St}{H:Hp}{s:Shared}{E:Value->Shared->Prop}
theorem Inv.wish(I:Inv X pins σ H s)(E:Value->Shared->Prop):Inv (X.wish E) pins σ H s:=⟨I.ok.wish E,I.os,I.bare,I.base,I.loc,I.cell,I.free,I.Pz,I.pin,I.hok,I.len⟩
theorem Inv.P0(I:Inv (X.wish E) pins σ H s):Inv X pins σ H s:=⟨I.ok.P0,I.os,I.bare,I.base,I.loc,I.cell,I.free,I.Pz,I.pin,I.hok,I.len⟩
theorem SP.P0(h:SP (X.wish E) pins D f s'):SP X pins D f s':=by
 cases f with
 |next=>obtain⟨σ',H',I,q⟩:=h;exact⟨σ',H',I.P0,q⟩
 |brk=>obtain⟨σ',H',I,q⟩:=h;exact⟨σ',H',I.P0,q⟩
 |cont=>obtain⟨σ',H',I,q⟩:=h;exact⟨σ',H',I.P0,q⟩
 |ret u=>obtain⟨v,σ',H',I,r,q⟩:=h;exact⟨v,σ',H',I.P0,r,q⟩
theorem T5.nox{st:List Stmt}(h:T5 X.nox st t):T5 X st t:=λpins s σ H D I hw =>
 jt (h pins s σ H D (I.wish _) hw) (λ_ _ q=>q.P0) λ_ _ z=>False.elim z
end
section
variable{X:Cx}{st:Stmt}{rest:List Stmt}{t u:TS}{e:Expr}{te:TE}{pos:Pos}
def avs:TS:=λD σ H=>D.nx σ H
def a8c(t u:TS):TS:=λD σ H=>t { D with nx:=u D } σ H
theorem aqv:T5 X [] avs:=λ_ _ σ H _ I h=>Ci ⟨σ,H,I,h⟩
theorem ali(h1:PS X st t)(h2:T5 X rest u):T5 X (st::rest) (a8c t u):=by
 intro pins s σ H D I h;refine wpAny_execs_cons (Bp (h1 pins s σ H { D with nx:=u D } I h) λf s1 q=>?_);cases f with
 |next =>
  obtain⟨σ',H',I',q⟩:=q;exact h2 pins s1 σ' H' D I' q
 |ret v=>exact q|brk=>exact q|cont=>exact q
def aw9:TS:=λD σ H=>D.bk σ H
def a1c:TS:=λD σ H=>D.ct σ H
theorem aqw:PS X (.Pass pos) avs:=λ_ _ σ H _ I h=>wpAny_Pass ⟨σ,H,I,h⟩
theorem alj:PS X (.Break pos) aw9:=λ_ _ σ H _ I h=>wpAny_Break ⟨σ,H,I,h⟩
theorem adh:PS X (.Continue pos) a1c:=λ_ _ σ H _ I h=>wpAny_Continue ⟨σ,H,I,h⟩
theorem Inv.quiet(I:Inv X pins σ H s):interactive X.env=false:=by simp[interactive,I.ok.kind]
def a1d(te:TE):TS:=λD σ H=>te σ H λ_ H1=>D.nx σ H1
theorem aqx(he:PE X e te)(hs:swapsWith e none pos.line X.env=pure false:=by rfl):PS X (.Expr e pos) (a1d te):=by intro pins s σ H D I h;exact wpAny_Expr_any (Bp (he pins s σ H _ I h) λv s1 ⟨x,H1,I1,r1,q1⟩=>⟨σ,H1,I1,q1⟩) I.quiet hs
def a8d(te:TE):TS:=λD σ H=>te σ H D.rt
theorem axa(he:PE X e te):PS X (.Return (some e) pos) (a8d te):=by intro pins s σ H D I h;exact wpAny_Return_some (Bp (he pins s σ H _ I h) λv s1 ⟨x,H1,I1,r1,q1⟩=>⟨x,σ,H1,I1,r1,q1⟩)
def a8e(c:TT)(t u:TS):TS:=λD σ H=>c σ H λb H1=>if b=true then t D σ H1 else u D σ H1
theorem a1e(hc:PT X c tc)(ha:T5 X a t)(hb:T5 X b u):PS X (.If c a b pos) (a8e tc t u):=by
 intro pins s σ H D I h;refine wpAny_If (Bp (hc pins s σ H _ I h) λd s1 ⟨H1,I1,q1⟩=>?_);cases d with
 |true=>exact ha pins s1 σ H1 D I1 q1|false=>exact hb pins s1 σ H1 D I1 q1
end
abbrev TG:=V->St->Hp->(St->Hp->Prop)->Prop
abbrev TGs:=List V->St->Hp->(St->Hp->Prop)->Prop
def PG(X:Cx)(target:Expr)(t:TG):Prop :=
 ∀(pins:List (Addr×Obj))(s:Shared)(σ:St)(H:Hp)(v:V)(u:Value)(Q:St->Hp->Prop),Inv X pins σ H s->RelV v u->t v σ H Q ->
  wpAny (model X.prog X.w) X.A (assign target X.env u) (λ_ s'=>∃σ' H',Inv X pins σ' H' s'/\Q σ' H') X.xe s
def PGs(X:Cx)(ts:List Expr)(t:TGs):Prop :=
 ∀(pins:List (Addr×Obj))(s:Shared)(σ:St)(H:Hp)(vs:List V)(us:List Value)(Q:St->Hp->Prop),Inv X pins σ H s->Vals vs us->t vs σ H Q ->
  wpAny (model X.prog X.w) X.A (assignInOrder ((assignEach ts X.env).map (·.2)) us) (λ_ s'=>∃σ' H',Inv X pins σ' H' s'/\Q σ' H') X.xe s
abbrev axb:=V->V->V->Hp->(Hp->Prop)->Prop
def axc(X:Cx)(t:axb):Prop :=
 ∀(pins:List (Addr×Obj))(s:Shared)(σ:St)(H:Hp)(o i v:V)(ov iv u:Value)(Q:Hp->Prop),Inv X pins σ H s->RelV o ov->RelV i iv->RelV v u->t o i v H Q ->
  wpAny (model X.prog X.w) X.A (setItem ov iv u) (λ_ s'=>∃H',Inv X pins σ H' s'/\Q H') X.xe s
section
variable{X:Cx}{pos:Pos}
def ahb(i:Nat):TG:=λv σ H Q=>Q (σ.set i (some v)) H
theorem aa5(hN:X.N.Nodup)(hi:X.N[i]?=some x)(hx:Loc X.env.scope x)(hf:X.fn x=true\/X.env.scope.names.lookup x=some .local:=by first|exact .inl rfl|exact .inr rfl|assumption):PG X (.Name x pos) (ahb i):=by intro pins s σ H v u Q I r h;exact wpAny_assign_Name (alg I hN hi hx r (λs' I'=>⟨_,H,I',h⟩) hf)
def a8f:TGs:=λvs σ H Q=>vs=[]/\Q σ H
def a1h(t:TG)(u:TGs):TGs:=λvs σ H Q=>∃v r,vs=v::r/\t v σ H fun σ' H'=>u r σ' H' Q
theorem aqy:PGs X [] a8f:=by intro pins s σ H vs us Q I r h;obtain⟨e,h⟩:=h;subst e;cases r;exact assignInOrder_nil ⟨σ,H,I,h⟩
theorem alk(h1:PG X e t)(h2:PGs X es u)(hs:(assignEach (e::es) X.env).map (·.2)=assign e X.env::(assignEach es X.env).map (·.2):=by rfl):PGs X (e::es) (a1h t u):=by
 intro pins s σ H vs us Q I r h;obtain⟨v,vr,e1,h⟩:=h;subst e1;cases r with
 |cons r rr =>
  rw[hs];refine assignInOrder_cons (Bp (h1 pins s σ H _ _ _ I r h) λ_ s1 ⟨σ1,H1,I1,q1⟩=>?_);exact h2 pins s1 σ1 H1 _ _ Q I1 rr q1
def a8g(K:Fg)(n:Nat)(t:TGs):TG:=λv σ H Q=>∃a xs,v=.ref a/\Ml K H a xs/\xs.length=n/\t xs σ H Q
theorem axd(hc:X.calm=true)(h:PGs X es t)(hn:(assignEach es X.env).length=n:=by rfl)(hst:(assignEach es X.env).findIdx? (·.1)=none:=by rfl):PG X (.Tuple es k pos) (a8g X.K n t):=by
 intro pins s σ H v u Q I r hw;obtain⟨a,xs,e1,hq,hl,hw⟩:=hw;subst e1;cases r;obtain⟨its,rv,ht,hz⟩:=I.tuple hq;refine assign_Tuple_tuple (I.ok.hd hc) ht (by simp[hn,<- hl,rv.length]) hst λh' hx=>?_
 have I1:Inv X pins σ H { s with heap:=h' }:=I.kept (t':=s.toks) λb o e=>hx b o (dj (au e)) e
 exact h pins _ σ H xs _ Q I1 (by simpa using rv) hw
def a8h(to ti:TE)(t:axb):TG:=λv σ H Q=>to σ H λo H1=>ti σ H1 λi H2=>t o i v H2 λH3=>Q σ H3
theorem axe(ho:PE X o to)(hi:PE X i ti)(hs:axc X t)(ha:∀v,assign (.Subscript o i pos) X.env v=(do
 let ov <- holding [v] (eval o X.env)
 let iv <- holding [v,ov] (eval i X.env)
 standAt pos
 holding [v,ov,iv] (setItem ov iv v)
 release [v,ov,iv] []):=by intro _;rfl):PG X (.Subscript o i pos) (a8h to ti t):=by
 intro pins s σ H v u Q I r h;rw[ha];refine aa (gm (Bp (ho pins s σ H _ I h) λov s1 ⟨x,H1,I1,r1,q1⟩=>?_));refine aa (gm (Bp (hi pins s1 σ H1 _ I1 q1) λiv s2 ⟨y,H2,I2,r2,q2⟩=>?_));refine aa (wpAny_standAt (aa (gm (Bp (hs pins s2 σ H2 x y v ov iv u _ I2 r1 r2 r q2) λ_ s3 ⟨H3,I3,q3⟩=>?_))));exact wpAny_release ⟨σ,H3,I3,q3⟩
def axf(te:TE)(g:TG):TS:=λD σ H=>te σ H λx H1=>g x σ H1 D.nx
theorem alm(he:PE X e te)(hg:PG X tg g)(hs:swapsWithSole [tg] e pos.line X.env=pure false:=by rfl)(hw:swappedStores [tg] e X.env=pure none:=by rfl)(h1:(assignEach [tg] X.env).map (·.2)=[assign tg X.env]:=by rfl):PS X (.Assign [tg] e pos) (axf te g):=by intro pins s σ H D I h;refine wpAny_Assign_stores (Bp (he pins s σ H _ I h) λv s1 ⟨x,H1,I1,r1,q1⟩=>?_) hs hw;rw[h1];exact Bp (hg pins s1 σ H1 x v _ I1 r1 q1) λ_ s2 q=>q
end
section
variable{X:Cx}{pos:Pos}
def axg(c:TT)(tb:TS):TS:=λD σ H=>∃W:Nat->St->Hp->Prop,(∃m,W m σ H)/\∀m σ H,W m σ H ->
 c σ H λb H1=>if b=true then ∃N:St->Hp->Prop,(∀σ' H',N σ' H'->∃m',m'<m/\W m' σ' H')/\tb { D with nx:=N,ct:=N,bk:=D.nx } σ H1 else D.nx σ H1
theorem aln(hp:PassesOwn (model X.prog X.w) X.A X.env X.xe)(hc:PT X c tc)(hb:T5 X body tb):PS X (.While c body [] pos) (axg tc tb):=by
 intro pins s σ H D I h;obtain⟨W,⟨m0,w0⟩,turn⟩:=h;refine wpAny_While (codeAny_whileLoop (λn s'=>∃σ' H',Inv X pins σ' H' s'/\W n σ' H') ?_ m0 ⟨σ,H,I,w0⟩);rintro n s1 ⟨σ1,H1,I1,w1⟩;refine qp hp (Bp (hc pins s1 σ1 H1 _ I1 (turn n σ1 H1 w1)) λb s2 ⟨H2,I2,q2⟩=>?_);cases b with
 |true =>
  obtain⟨N,hN,q2⟩:=q2;rw[cu rfl];refine qp hp (Bp (hb pins s2 σ1 H2 _ I2 q2) λf s3 q3=>?_);cases f with
  |next =>
   obtain⟨σ3,H3,I3,n3⟩:=q3;obtain⟨m',hm,w3⟩:=hN σ3 H3 n3;exact⟨m',hm,σ3,H3,I3,w3⟩
  |cont =>
   obtain⟨σ3,H3,I3,n3⟩:=q3;obtain⟨m',hm,w3⟩:=hN σ3 H3 n3;exact⟨m',hm,σ3,H3,I3,w3⟩
  |brk=>exact q3|ret v=>exact q3
 |false =>
  rw[bz ir];exact Ci ⟨σ1,H2,I2,q2⟩
end
structure It where
 go:Nat->Hp->Prop
 yld:Nat->Hp->V->Hp->Prop
 stop:Nat->Hp->Prop
def Wu(X:Cx)(pins:List (Addr×Obj))(H:Hp)(b:Addr):Prop :=
 H b=none/\b≠X.env.locals/\b∉X.fs/\(b∈X.ex\/X.s₀.heap.objs.size<=b)/\(∀x c,X.env.cells.lookup x=some c->c≠b)/\∀p∈X.pn++pins,p.1≠b
theorem Inv.alo(I:Inv X pins σ H s)(hb:s.heap.objs.size<=b)(hn:H' b=none):Wu X pins H' b:=by
 refine⟨hn,vf (gh I.lt hb),I.awv hb,.inr (ig I.sz hb),λx c e z=>?_,λp hp z=>?_⟩
 . obtain⟨v,q⟩:=I.cell x c e
   exact absurd (gh q.lt (by rw[z];exact hb)) (qd _)
 . exact absurd (gh (au (I.pin p hp).1) (by rw[z];exact hb)) (qd _)
structure Turn(P:Program)(w:World)(K:Fg)(tg:Expr)(J:It)(fp:List Addr)(it:Addr)(tn:Nat->Heap->Prop):Prop where
 mem:it∈fp
 obj:∀i h,tn i h->∀b∈fp,∃o,h.get? b=some o/\∀v,o.data≠.cell v
 keep:∀i h h',tn i h->(∀b∈fp,∀o,h.get? b=some o->h'.get? b=some o)->tn i h'
 item:∀(X:Cx),X.prog=P->X.w=w->X.K=K->X.calm=true->∀(i:Nat)(pins:List (Addr×Obj))(s:Shared)(σ:St)(H:Hp)(E:Value->Shared->Prop),Inv X pins σ H s->(∀b∈fp,Wu X pins H b)->tn i s.heap->J.go i H ->
  wpAny (model P w) X.A (pyNext (.ref it)) (λr s1=>∃u,r=some u /\
   wpAny (model P w) X.A (letOwnedTupleGo tg (.ref it) u) (λ_ s2=>∃x H',Inv X pins σ H' s2/\RelV x u/\J.yld i H x H'/\tn (i+1) s2.heap/\∀b∈fp,H' b=none) E s1) E s
 done:∀(X:Cx),X.prog=P->X.w=w->X.K=K->X.calm=true->∀(i:Nat)(pins:List (Addr×Obj))(s:Shared)(σ:St)(H:Hp)(E:Value->Shared->Prop),Inv X pins σ H s->(∀b∈fp,Wu X pins H b)->tn i s.heap->J.stop i H ->
  wpAny (model P w) X.A (pyNext (.ref it)) (λr s1=>r=none/\Inv X pins σ H s1) E s
 self:∀(A:Around)(i:Nat)(s:Shared)(Q:Value->Shared->Prop)(E:Value->Shared->Prop),tn i s.heap->Q (.ref it) s->wpAny (model P w) A (pyIter (.ref it)) Q E s
abbrev TI:=St->Hp->(It->Hp->Prop)->Prop
def PIE(X:Cx)(pins:List (Addr×Obj))(σ:St)(tg:Expr)(R:It->Hp->Prop)(itv:Value)(s2:Shared):Prop :=
 ∃(it:Addr)(fp:List Addr)(tn:Nat->Heap->Prop)(J:It)(H':Hp),itv=.ref it/\Inv X pins σ H' s2/\Turn X.prog X.w X.K tg J fp it tn/\tn 0 s2.heap/\(∀b∈fp,Wu X pins H' b)/\R J H'
def PI(X:Cx)(tg iter:Expr)(wi:TI):Prop :=
 ∀(pins:List (Addr×Obj))(s:Shared)(σ:St)(H:Hp)(R:It->Hp->Prop),Inv X pins σ H s->wi σ H R ->
  wpAny (model X.prog X.w) X.A (eval iter X.env) (λv s1=>wpAny (model X.prog X.w) X.A (pyIter v) (PIE X pins σ tg R) X.xe s1) X.xe s
theorem alp(ho:s.heap.get? it=some o)(hc:o.cls=.type n)(hd:o.data=.fields vs)(hn:["enumerate", "zip", "dict_itemiterator", "dict_reverseitemiterator", "odict_iterator", "itertools.zip_longest", "itertools.pairwise"].contains n=false)(hQ:Q () s):wpAny M A (letOwnedTupleGo tg (.ref it) u) Q E s:=by
 unfold letOwnedTupleGo;cases tg<;>first
  |exact aj hQ
  | (cases u<;>first
   |exact aj hQ
   | (refine aa (Cm ho ?_)
      rw[hc,hd];show wpAny M A (if(["enumerate", "zip", "dict_itemiterator", "dict_reverseitemiterator", "odict_iterator", "itertools.zip_longest", "itertools.pairwise"].contains n&&vs[0]?==some (rawInt _))=true then _ else _) Q E s;rw[bz (by intro h;rw[hn,Ek] at h;cases h)];exact aj hQ))
def Itl(K:Fg)(a:Addr):It :=
 ⟨λi H=>∃xs x,Jv K H a xs/\xs[i]?=some x,λi H x H'=>H'=H/\∀xs,Jv K H a xs->xs[i]?=some x,λi H=>∃xs,Jv K H a xs/\xs.length<=i⟩
def Itt(K:Fg)(a:Addr):It :=
 ⟨λi H=>∃xs x,Ml K H a xs/\xs[i]?=some x,λi H x H'=>H'=H/\∀xs,Ml K H a xs->xs[i]?=some x,λi H=>∃xs,Ml K H a xs/\xs.length<=i⟩
def Rp(lo:Int)(n:Nat):It:=⟨λi _=>i<n,λi H x H'=>H'=H/\x=.int (lo+i),λi _=>n<=i⟩
theorem ai9{K:Fg}(a it:Addr):Turn P w K tg (Itl K a) [it] it (λi h=>h.IsListIter it a i) where
 mem:=by simp
 obj:=λi h st b hb=>by
  have e:b=it:=by simpa using hb
  subst e;obtain⟨o,e,c,d⟩:=st;exact⟨o,e,λv z=>by rw[d] at z;cases z⟩
 keep:=λi h h' st k=>st.at λo e=>k it (by simp) o e
 item:=by
  intro X hP hw hK hc i pins s σ H E I hf st hg;subst hP hw hK;obtain⟨xs,x,hq,hx⟩:=hg;obtain⟨its,rv,p,hz⟩:=I.list hq;obtain⟨u,hu,ru⟩:=rv.get hx;obtain⟨f0,f1,f2,f3,f4,f5⟩:=hf it (by simp);refine wpAny_pyNext_list_item st p.isList (x:=u) (by simpa using hu) λh' st' sb=>?_
  have I1:Inv X pins σ H { s with heap:=h' }:=I.turned (t':=s.toks) (λb o hb e=>(sb.2 b hb).trans e) f0 f1 f3 f4 f5;obtain⟨o,e,c,d⟩:=id st';exact⟨u,rfl,alp (s:={ s with heap:=h' }) e c d (by decide) ⟨x,H,I1,ru,⟨rfl,λys hy=>by rw[I.adg hy hq];exact hx⟩,st',λb hb=>(hf b hb).1⟩⟩
 done:=by intro X hP hw hK hc i pins s σ H E I hf st hg;subst hP hw hK;obtain⟨xs,hq,hx⟩:=hg;obtain⟨its,rv,p,hz⟩:=I.list hq;obtain⟨f0,f1,f2,f3,f4,f5⟩:=hf it (by simp);have hl:=rv.length;exact wpAny_pyNext_list_end (I.ok.hd hc) st p.isList (by simp;exact a_ (g_ hl) hx) λh' eb=>⟨rfl,I.turned (t':=s.toks) (λb o hb e=>eb b o hb e) f0 f1 f3 f4 f5⟩
 self:=λ_ _ _ _ _ st h=>wpAny_pyIter_listiter st h
theorem afq{K:Fg}(a it:Addr):Turn P w K tg (Itt K a) [it] it (λi h=>h.IsTupleIter it a i) where
 mem:=by simp
 obj:=λi h st b hb=>by
  have e:b=it:=by simpa using hb
  subst e;obtain⟨o,e,c,d⟩:=st;exact⟨o,e,λv z=>by rw[d] at z;cases z⟩
 keep:=λi h h' st k=>st.at λo e=>k it (by simp) o e
 item:=by
  intro X hP hw hK hc i pins s σ H E I hf st hg;subst hP hw hK;obtain⟨xs,x,hq,hx⟩:=hg;obtain⟨its,rv,p,hz⟩:=I.tuple hq;obtain⟨u,hu,ru⟩:=rv.get hx;obtain⟨f0,f1,f2,f3,f4,f5⟩:=hf it (by simp);refine wpAny_pyNext_tuple_item st (show s.heap.IsTuple a its.toArray from p) (x:=u) (by simpa using hu) λh' st' sb=>?_
  have I1:Inv X pins σ H { s with heap:=h' }:=I.turned (t':=s.toks) (λb o hb e=>(sb.2 b hb).trans e) f0 f1 f3 f4 f5;obtain⟨o,e,c,d⟩:=id st';exact⟨u,rfl,alp (s:={ s with heap:=h' }) e c d (by decide) ⟨x,H,I1,ru,⟨rfl,λys hy=>by rw[I.Zq hy hq];exact hx⟩,st',λb hb=>(hf b hb).1⟩⟩
 done:=by intro X hP hw hK hc i pins s σ H E I hf st hg;subst hP hw hK;obtain⟨xs,hq,hx⟩:=hg;obtain⟨its,rv,p,hz⟩:=I.tuple hq;obtain⟨f0,f1,f2,f3,f4,f5⟩:=hf it (by simp);have hl:=rv.length;exact wpAny_pyNext_tuple_end (I.ok.hd hc) st (show s.heap.IsTuple a its.toArray from p) (by simp;exact a_ (g_ hl) hx) λh' eb=>⟨rfl,I.turned (t':=s.toks) (λb o hb e=>eb b o hb e) f0 f1 f3 f4 f5⟩
 self:=λ_ _ _ _ _ st h=>wpAny_pyIter_tupleiter st h
theorem afr{K:Fg}(it:Addr)(lo:Int)(n:Nat):Turn P w K tg (Rp lo n) [it] it (λi h=>IsRangeIter h it (lo+(i:Nat)*1) ((n:Int)-(i:Nat)) 1) where
 mem:=by simp
 obj:=λi h st b hb=>by
  have e:b=it:=by simpa using hb
  subst e;exact⟨_,st,λv z=>by
   have z':Data.fields _=Data.cell v:=z;cases z'⟩
 keep:=λi h h' st k=>k it (by simp) _ st
 item:=by
  intro X hP hw hK hc i pins s σ H E I hf st hg;subst hP hw hK;obtain⟨f0,f1,f2,f3,f4,f5⟩:=hf it (by simp);have W:=Walks.range (prog:=X.prog) (w:=X.w) (I.ok.hd hc) it lo 1 n;refine W.item i s _ _ hg st λv h' tk hv st' kk=>?_
  obtain⟨t,rfl⟩:=hv;have I1:Inv X pins σ H { s with heap:=h',toks:=tk }:=I.turned (λb o hb e=>kk b o (by simpa using hb) e) f0 f1 f3 f4 f5;refine⟨_,rfl,alp (s:={ s with heap:=h',toks:=tk }) (n := "range_iterator") st' rfl rfl (by decide) ⟨.int (lo+i),H,I1,⟨t,?_⟩,⟨rfl,rfl⟩,st',λb hb=>(hf b hb).1⟩⟩;rw[Int.mul_one]
 done:=by intro X hP hw hK hc i pins s σ H E I hf st hg;subst hP hw hK;obtain⟨f0,f1,f2,f3,f4,f5⟩:=hf it (by simp);exact wpAny_pyNext_range_end (I.ok.hd hc) st (by have:n<=i:=hg;lia) λh' eb=>⟨rfl,I.turned (t':=s.toks) (λb o hb e=>eb b o hb e) f0 f1 f3 f4 f5⟩
 self:=λ_ _ _ _ _ st h=>wpAny_pyIter_rangeiter st h
end L2
namespace L2
open PySem PySem.Spec PyProof.Rows
section
variable{X:Cx}{tg:Expr}
theorem alq{lo:Int}(I:Inv X pins σ H s)(h1:-(2 ^ 62)<=lo)(h2:lo<2 ^ 62)(h3:-(2 ^ 62)<=hi)(h4:hi<2 ^ 62)(q:R (Rp lo (hi-lo).toNat) H):wpAny (model X.prog X.w) X.A (pyIter (.ref s.heap.objs.size)) (PIE X pins σ tg R) E { s with heap:=s.heap.push { cls:=.type "range",data:=.fields #[.int lo t,.int hi u,.int 1 v] },toks:=tk }:=by
 refine wpAny_pyIter_range (IsRange.new ..) (small_one h1 h2 h3 h4) ?_;have I1:Inv X pins σ H { s with heap:=s.heap.push { cls:=.type "range",data:=.fields #[.int lo t,.int hi u,.int 1 v] },toks:=tk }:=I.kept λb o e=>ao _ e
 refine⟨(s.heap.push { cls:=.type "range",data:=.fields #[.int lo t,.int hi u,.int 1 v] }).objs.size,[(s.heap.push { cls:=.type "range",data:=.fields #[.int lo t,.int hi u,.int 1 v] }).objs.size],_,_,H,rfl,
  I1.kept (t':=tk) λb o e=>ao _ e,afr _ lo (hi-lo).toNat,?_,λb hb=>?_,q⟩
 . have e1:lo+((0:Nat):Int)*1=lo:=by simp
   have e2:(((hi-lo).toNat:Nat):Int)-((0:Nat):Int)=Builtin.Range.rangeSize lo hi 1:=by rw[rangeSize_one];split<;>lia
   show IsRangeIter _ _ (lo+((0:Nat):Int)*1) ((((hi-lo).toNat:Nat):Int)-((0:Nat):Int)) 1;rw[e1,e2];exact bf _ rfl
 . have e:b=(s.heap.push { cls:=.type "range",data:=.fields #[.int lo t,.int hi u,.int 1 v] }).objs.size:=by simpa using hb
   subst e;exact I1.alo (bc _) (I1.hok.fresh (bc _))
def a1j(ta:TA):TI:=fun σ H R=>ta σ H λvs H1=>∃j:Int,vs=[.int j]/\-(2 ^ 62)<=j/\j<2 ^ 62/\R (Rp 0 j.toNat) H1
theorem aja(hg:Gl X "range")(hm:X.mg "range" = none)(ha:PA X [a] ta)(hs:starEach [a] X.env=[(false,eval a X.env)]:=by rfl):PI X tg (.Call (.Name "range" p) [a] [] pos) (a1j ta):=by
 intro pins s σ H R I h;refine Eh (G8 I hg hm boot_range (iw (Bp (ha pos pins s σ H _ I h) λus s1 ⟨vs,H1,I1,r1,q1⟩=>?_) hs rfl));obtain⟨j,e,q1,q2,q⟩:=q1;subst e;cases r1 with
 |cons r rr =>
  cases rr;obtain⟨t,rfl⟩:=r;exact call_range_1 (alq I1 (by lia) (by lia) q1 q2 (by simpa using q))
def a8j(wi:TI)(g:TG)(tb:TS):TS:=λD σ H=>wi σ H λJ H1=>∃W:Nat->Nat->St->Hp->Prop,(∃m,W 0 m σ H1)/\∀i m σ H,W i m σ H ->
 (J.stop i H/\D.nx σ H)\/(J.go i H/\∃N:St->Hp->Prop,(∀σ' H',N σ' H'->∃m',m'<m/\W (i+1) m' σ' H')/\∀x H',J.yld i H x H'->g x σ H' fun σ2 H2=>tb { D with nx:=N,ct:=N,bk:=D.nx } σ2 H2)
def Va(fp:List Addr)(h:Heap):List (Addr×Obj):=fp.filterMap λb=>(h.get? b).map λo=>(b,o)
theorem N5(hb:b∈fp)(e:h.get? b=some o):(b,o)∈Va fp h:=Ed.mpr ⟨b,hb,by rw[e];rfl⟩
theorem ajb(hp:p∈Va fp h):p.1∈fp/\h.get? p.1=some p.2:=by
 obtain⟨b,hb,e⟩:=Ed.mp hp;cases q:h.get? b with
 |none=>rw[q] at e;cases e
 |some o =>
  rw[q] at e;have e':(b,o)=p:=ie e;subst e';exact⟨hb,q⟩
theorem Inv.pinned(I:Inv X pins σ H s)(hf:∀b∈fp,Wu X pins H b)(ho:∀b∈fp,∃o,s.heap.get? b=some o/\∀v,o.data≠.cell v):Inv X (pins++Va fp s.heap) σ H s :=
 I.T4 λp hp=>(dw.mp hp).elim (λz=>I.pin p (gw _ z)) λz=>by obtain⟨hb,e⟩:=ajb z;obtain⟨f0,f1,f2,_⟩:=hf p.1 hb;obtain⟨o,e',d⟩:=ho p.1 hb;rw[e] at e';cases e';exact⟨e,f0,f1,f2,d⟩
theorem Inv.Qa(I:Inv X (pins++pl) σ H s):Inv X pins σ H s:=I.T4 λp hp=>I.pin p (gw _ (xf _ hp))
theorem axh(hp:PassesOwn (model X.prog X.w) X.A X.env X.xe)(hc:X.calm=true)(hi:PI X tg iter wi)(hg:PG X tg g)(hb:T5 X body tb)(hs:∀x,foldedSetIterable iter X.env x=pure x:=by intro _;rfl):PS X (.For tg iter body [] pos) (a8j wi g tb):=by
 intro pins s σ H D I h;refine wpAny_For (Bp (hi pins s σ H _ I h) λv s1 h1=>Bp h1 λitv s2 h2=>?_) hs;obtain⟨it,fp,tn,J,H2,e,I2,T,st2,f2,W,⟨m0,w0⟩,turn⟩:=h2;subst e;have stat:∀{H':Hp},(∀b∈fp,H' b=none)->∀b∈fp,Wu X pins H' b:=λhn b hb=>⟨hn b hb,(f2 b hb).2⟩
 refine codeAny_forLoop_any (λn s'=>∃i σ' H',Inv X pins σ' H' s'/\tn i s'.heap/\(∀b∈fp,H' b=none)/\W i n σ' H') ?_ m0 ⟨0,σ,H2,I2,st2,λb hb=>(f2 b hb).1,w0⟩;rintro n s3 ⟨i,σ3,H3,I3,st3,fr3,w3⟩;rcases turn i n σ3 H3 w3 with⟨stop,qn⟩|⟨go,N,hN,step⟩
 . refine qp hp (Bp (T.done X rfl rfl rfl hc i pins s3 σ3 H3 X.xe I3 (stat fr3) st3 stop) λr s4 ⟨hr,I4⟩=>?_)
   subst hr;exact Ci ⟨σ3,H3,I4,qn⟩
 . refine qp hp (Bp (T.item X rfl rfl rfl hc i pins s3 σ3 H3 X.xe I3 (stat fr3) st3 go) λr s4 ⟨u,hr,h4⟩=>?_)
   subst hr;refine qp hp (Bp h4 λ_ s5 ⟨x,H5,I5,r5,y5,st5,fr5⟩=>?_);have I5':=I5.pinned (stat fr5) (T.obj _ _ st5);refine qp hp (Bp (hg _ s5 σ3 H5 x u _ I5' r5 (step x H5 y5)) λ_ s6 ⟨σ6,H6,I6,q6⟩=>?_);refine qp hp (Bp (hb _ s6 σ6 H6 _ I6 q6) λf s7 q7=>?_);have again:∀{σ7:St}{H7:Hp},Inv X (pins++Va fp s5.heap) σ7 H7 s7->N σ7 H7->∃m,m<n/\∃i σ' H',Inv X pins σ' H' s7/\tn i s7.heap/\(∀b∈fp,H' b=none)/\W i m σ' H':=fun{σ7 H7} I7 n7=>by obtain⟨m',hm,w7⟩:=hN σ7 H7 n7;refine⟨m',hm,i+1,σ7,H7,I7.Qa,T.keep _ _ _ st5 λb hb o e=>(I7.pin (b,o) (gw _ (gw _ (N5 hb e)))).1,λb hb=>?_,w7⟩;obtain⟨o,e,d⟩:=T.obj _ _ st5 b hb;exact(I7.pin (b,o) (gw _ (gw _ (N5 hb e)))).2.1
   cases f with
   |next=>obtain⟨σ7,H7,I7,n7⟩:=q7;exact again I7 n7
   |cont=>obtain⟨σ7,H7,I7,n7⟩:=q7;exact again I7 n7
   |brk=>obtain⟨σ7,H7,I7,q7⟩:=q7;exact⟨σ7,H7,I7.Qa,q7⟩
   |ret v=>obtain⟨x7,σ7,H7,I7,r7,q7⟩:=q7;exact⟨x7,σ7,H7,I7.Qa,r7,q7⟩
end
end L2
namespace L2
open PySem PySem.Spec PyProof.Rows
abbrev R2:=V->V->Hp->VK->Prop
def Ge(X:Cx)(f:Value->Value->Sem Value)(r:R2):Prop :=
 ∀(pins:List (Addr×Obj))(s:Shared)(σ:St)(H:Hp)(x y:V)(v u:Value)(Q:VK),Inv X pins σ H s->RelV x v->RelV y u->r x y H Q ->
  wpAny (model X.prog X.w) X.A (f v u) (EP X pins σ Q) X.xe s
def UnR(X:Cx)(f:Value->Sem Value)(r:V->Hp->VK->Prop):Prop :=
 ∀(pins:List (Addr×Obj))(s:Shared)(σ:St)(H:Hp)(x:V)(v:Value)(Q:VK),Inv X pins σ H s->RelV x v->r x H Q ->
  wpAny (model X.prog X.w) X.A (f v) (EP X pins σ Q) X.xe s
def Dc(X:Cx)(f:Value)(r:List V->Hp->VK->Prop):Prop :=
 ∀(pins:List (Addr×Obj))(s:Shared)(σ:St)(H:Hp)(xs:List V)(us:List Value)(Q:VK),Inv X pins σ H s->Vals xs us->r xs H Q ->
  wpAny (model X.prog X.w) X.A (call f us) (EP X pins σ Q) X.xe s
def tOp(r:R2)(ta tb:TE):TE:=fun σ H Q=>ta σ H λx H1=>tb σ H1 λy H2=>r x y H2 Q
def tUn(r:V->Hp->VK->Prop)(ta:TE):TE:=fun σ H Q=>ta σ H λx H1=>r x H1 Q
def rI(C:Int->Int->Prop)(g:Int->Int->V):R2:=λx y H Q=>∃i j,x=.int i/\y=.int j/\C i j/\Q (g i j) H
def rI0(g:Int->Int->V):R2:=λx y H Q=>∃i j,x=.int i/\y=.int j/\Q (g i j) H
def rU(g:Int->V):V->Hp->VK->Prop:=λx H Q=>∃i,x=.int i/\Q (g i) H
section
variable{X:Cx}{a b c:Expr}{ta tb tc:TE}{pos:Pos}
theorem axj(ha:PE X a ta)(hb:PE X b tb){pins:List (Addr×Obj)}{s:Shared}{σ:St}{H:Hp}{R:V->V->Hp->Prop}(I:Inv X pins σ H s)
 (h:ta σ H λx H1=>tb σ H1 λy H2=>R x y H2) {Q:Value->Shared->Prop} {f:Value->Value->Sem Value}
 (hf:∀v u s2 x y H2,Inv X pins σ H2 s2->RelV x v->RelV y u->R x y H2->wpAny (model X.prog X.w) X.A (f v u) Q X.xe s2) :
 wpAny (model X.prog X.w) X.A (eval a X.env) (λv s₁=>wpAny (model X.prog X.w) X.A (eval b X.env) (λu s₂=>wpAny (model X.prog X.w) X.A (f v u) Q X.xe s₂) X.xe s₁) X.xe s:=by
 refine Bp (ha pins s σ H _ I h) λv s1 ⟨x,H1,I1,r1,q1⟩=>?_
 refine Bp (hb pins s1 σ H1 _ I1 q1) λu s2 ⟨y,H2,I2,r2,q2⟩=>?_
 exact hf v u s2 x y H2 I2 r1 r2 q2
theorem a1l{op:Operator}{r:R2}(ho:Ge X (binaryOp op) r)(ha:PE X a ta)(hb:PE X b tb):PE X (.BinOp a op b pos) (tOp r ta tb):=by intro pins s σ H Q I h;exact wpAny_BinOp (axj ha hb I h λv u s2 x y H2 I2 rx ry q=>ho pins s2 σ H2 x y v u Q I2 rx ry q)
theorem a1m{op:UnaryOp}{r:V->Hp->VK->Prop}(ho:UnR X (unaryOp op) r)(ha:PE X a ta):PE X (.UnaryOp op a pos) (tUn r ta):=by intro pins s σ H Q I h;exact UnaryOp_ (Bp (ha pins s σ H _ I h) λv s1 ⟨x,H1,I1,r1,q1⟩=>ho pins s1 σ H1 x v Q I1 r1 q1)
theorem opI{f:Value->Value->Sem Value}{C:Int->Int->Prop}{g:Int->Int->Int}
 (rule:∀(i j:Int)(t u:Tok)(s:Shared)(Q:Value->Shared->Prop)(E:Value->Shared->Prop),C i j->Q (.int (g i j) s.toks) { s with toks:=s.toks+1 }->wpAny (model X.prog X.w) X.A (f (.int i t) (.int j u)) Q E s) :
 Ge X f (rI C λi j=>.int (g i j)):=by
 intro pins s σ H x y v u Q I rx ry h;obtain⟨i,j,rfl,rfl,hc,q⟩:=h;obtain⟨t,rfl⟩:=rx;obtain⟨t',rfl⟩:=ry;exact rule i j t t' s _ _ hc ⟨.int (g i j),H,I.tok _,⟨_,rfl⟩,q⟩
theorem a1n{f:Value->Value->Sem Value}{g:Int->Int->Int}
 (rule:∀(i j:Int)(t u:Tok)(s:Shared)(Q:Value->Shared->Prop)(E:Value->Shared->Prop),Q (.int (g i j) s.toks) { s with toks:=s.toks+1 }->wpAny (model X.prog X.w) X.A (f (.int i t) (.int j u)) Q E s) :
 Ge X f (rI0 λi j=>.int (g i j)):=by
 intro pins s σ H x y v u Q I rx ry h;obtain⟨i,j,rfl,rfl,q⟩:=h;obtain⟨t,rfl⟩:=rx;obtain⟨t',rfl⟩:=ry;exact rule i j t t' s _ _ ⟨.int (g i j),H,I.tok _,⟨_,rfl⟩,q⟩
theorem aq0{f:Value->Value->Sem Value}{g:Int->Int->Bool}
 (rule:∀(i j:Int)(t u:Tok)(s:Shared)(Q:Value->Shared->Prop)(E:Value->Shared->Prop),Q (.bool (g i j)) s->wpAny (model X.prog X.w) X.A (f (.int i t) (.int j u)) Q E s) :
 Ge X f (rI0 λi j=>.bl (g i j)):=by
 intro pins s σ H x y v u Q I rx ry h;obtain⟨i,j,rfl,rfl,q⟩:=h;obtain⟨t,rfl⟩:=rx;obtain⟨t',rfl⟩:=ry;exact rule i j t t' s _ _ ⟨.bl (g i j),H,I,rfl,q⟩
def a8n(i j:Int):Prop:=0<j/\j<1073741824
def a8o(i j:Int):Prop:=0<=j/\j<=1000000/\i.natAbs<2 ^ 64
def axk(i j:Int):Prop:=(-(2 ^ 64)<i/\i<2 ^ 64)\/(-(2 ^ 64)<j/\j<2 ^ 64)
theorem axk.ok{i j:Int}(h:axk i j):IntMulOk i j:=by
 rcases h with⟨h1,h2⟩|⟨h1,h2⟩
 . exact .of_left (intBits_le_64 h1 h2)
 . exact .of_right (intBits_le_64 h1 h2)
theorem axl:Ge X (binaryOp .Add) (rI0 λi j=>.int (i+j)):=a1n λ_ _ _ _ _ _ _ q=>add_int q
theorem axm:Ge X (binaryOp .Sub) (rI0 λi j=>.int (i-j)):=a1n λ_ _ _ _ _ _ _ q=>sub_int q
theorem axn:Ge X (binaryOp .Mult) (rI axk λi j=>.int (i*j)):=opI λ_ _ _ _ _ _ _ hc q=>mul_int q hc.ok
theorem aq1:Ge X (binaryOp .FloorDiv) (rI a8n λi j=>.int (i / j)):=opI λi j _ _ _ _ _ hc q=>by
 have h1:(0:Int)<j:=hc.1
 have h2:j<1073741824:=hc.2
 exact floordiv_int (by lia) (by rw[Int.fdiv_eq_ediv_of_nonneg i (by lia)];exact q) (.inl (PyProof.noPylong_small (by omega)))
theorem axo:Ge X (binaryOp .Mod) (rI (λ_ j=>0<j) λi j=>.int (i%j)):=opI λi j _ _ _ _ _ hc q=>by
 have h1:(0:Int)<j:=hc
 exact mod_int' (by lia) (by rw[Int.fmod_eq_emod_of_nonneg i (by lia)];exact q)
theorem axp:Ge X (binaryOp .Pow) (rI a8o λi j=>.int (i ^ j.toNat)):=opI λ_ _ _ _ _ _ _ hc q=>pow_int_small hc.1 hc.2.1 hc.2.2 q
theorem unI{f:Value->Sem Value}{g:Int->Int}
 (rule:∀(i:Int)(t:Tok)(s:Shared)(Q:Value->Shared->Prop)(E:Value->Shared->Prop),Q (.int (g i) s.toks) { s with toks:=s.toks+1 }->wpAny (model X.prog X.w) X.A (f (.int i t)) Q E s) :
 UnR X f (rU λi=>.int (g i)):=by
 intro pins s σ H x v Q I rx h;obtain⟨i,rfl,q⟩:=h;obtain⟨t,rfl⟩:=rx;exact rule i t s _ _ ⟨.int (g i),H,I.tok _,⟨_,rfl⟩,q⟩
theorem axq:UnR X (unaryOp .USub) (rU λi=>.int (-i)):=unI λ_ _ _ _ _ q=>neg_int q
end
def axr:V->V->Bool
 |.non,.non=>true|.non,.int _=>true|.int _,.non=>true|.non,.bl _=>true|.bl _,.non=>true|.non,.str _=>true|.str _,.non=>true
 |.int _,.int _=>true|.bl _,.bl _=>true|.str _,.str _=>true|.byt _,.byt _=>true
 |.int _,.str _=>true|.str _,.int _=>true|.bl _,.str _=>true|.str _,.bl _=>true
 |_,_=>false
def rEq:R2:=λx y H Q=>axr x y=true/\Q (.bl (decide (x=y))) H
def rNe:R2:=λx y H Q=>axr x y=true/\Q (.bl (!decide (x=y))) H
theorem ahc{i j:Int}:decide (V.int i=V.int j)=(i==j):=by rw[Dd];simp
theorem alr{i j:Bool}:decide (V.bl i=V.bl j)=(i==j):=by rw[Dd];simp
theorem ahd{i j:Str}:decide (V.str i=V.str j)=(i==j):=by rw[Dd];simp
theorem ahe{i j:Array UInt8}:decide (V.byt i=V.byt j)=(i.toList==j.toList):=by rw[Dd];cases i;cases j;simp
section
variable{X:Cx}{a b c:Expr}{ta tb tc:TE}{pos:Pos}
theorem xu{pins:List (Addr×Obj)}{σ:St}{H:Hp}{s:Shared}{Q:VK}{k k':Bool}(I:Inv X pins σ H s)(q:Q (.bl k) H)(e:k=k'):EP X pins σ Q (.bool k') s:=by subst e;exact⟨.bl k,H,I,rfl,q⟩
theorem a1o:Ge X (compareOp .Eq) rEq:=by
 intro pins s σ H x y v u Q I rx ry h;obtain⟨hs,q⟩:=h;cases x with
 |non =>
  cases rx;cases y with
  |non=>cases ry;exact PySem.EqNone.eq_none_none (xu I q (by simp))|bl j=>cases ry;exact PySem.EqNone.eq_none_bool (xu I q (by simp))|int j=>obtain⟨t',rfl⟩:=ry;exact PySem.EqNone.eq_none_int (xu I q (by simp))
  |str j=>obtain⟨t',rfl⟩:=ry;exact PySem.EqNone.eq_none_str (xu I q (by simp))
  |_=>exact absurd (show false=true from hs) ir
 |bl i =>
  cases rx;cases y with
  |non=>cases ry;exact PySem.EqNone.eq_bool_none (xu I q (by simp))|bl j=>cases ry;exact eq_bool (xu I q alr)|str j=>obtain⟨t',rfl⟩:=ry;exact PySem.EqMixed.eq_bool_str (xu I q (by simp))
  |_=>exact absurd (show false=true from hs) ir
 |int i =>
  obtain⟨t,rfl⟩:=rx;cases y with
  |non=>cases ry;exact PySem.EqNone.eq_int_none (xu I q (by simp))|int j=>obtain⟨t',rfl⟩:=ry;exact eq_int (xu I q ahc)
  |str j=>obtain⟨t',rfl⟩:=ry;exact PySem.EqMixed.eq_int_str (xu I q (by simp))
  |_=>exact absurd (show false=true from hs) ir
 |str i =>
  obtain⟨t,rfl⟩:=rx;cases y with
  |non=>cases ry;exact PySem.EqNone.eq_str_none (xu I q (by simp))|bl j=>cases ry;exact PySem.EqMixed.eq_str_bool (xu I q (by simp))|int j=>obtain⟨t',rfl⟩:=ry;exact PySem.EqMixed.eq_str_int (xu I q (by simp))
  |str j=>obtain⟨t',rfl⟩:=ry;exact eq_str (xu I q ahd)
  |_=>exact absurd (show false=true from hs) ir
 |byt i =>
  obtain⟨t,rfl⟩:=rx;cases y with
  |byt j=>obtain⟨t',rfl⟩:=ry;exact PySem.W.eq_bytes (xu I q ahe)
  |_=>exact absurd (show false=true from hs) ir
 |_=>cases y<;>exact absurd (show false=true from hs) ir
theorem a1p:Ge X (compareOp .NotEq) rNe:=by
 intro pins s σ H x y v u Q I rx ry h;obtain⟨hs,q⟩:=h;cases x with
 |non =>
  cases rx;cases y with
  |non=>cases ry;exact PySem.EqNone.ne_none_none (xu I q (by simp))|bl j=>cases ry;exact PySem.EqNone.ne_none_bool (xu I q (by simp))|int j=>obtain⟨t',rfl⟩:=ry;exact PySem.EqNone.ne_none_int (xu I q (by simp))
  |str j=>obtain⟨t',rfl⟩:=ry;exact PySem.EqNone.ne_none_str (xu I q (by simp))
  |_=>exact absurd (show false=true from hs) ir
 |bl i =>
  cases rx;cases y with
  |non=>cases ry;exact PySem.EqNone.ne_bool_none (xu I q (by simp))|bl j=>cases ry;exact ne_bool (xu I q (m6 not alr))|str j=>obtain⟨t',rfl⟩:=ry;exact PySem.EqMixed.ne_bool_str (xu I q (by simp))
  |_=>exact absurd (show false=true from hs) ir
 |int i =>
  obtain⟨t,rfl⟩:=rx;cases y with
  |non=>cases ry;exact PySem.EqNone.ne_int_none (xu I q (by simp))|int j=>obtain⟨t',rfl⟩:=ry;exact ne_int (xu I q (m6 not ahc))
  |str j=>obtain⟨t',rfl⟩:=ry;exact PySem.EqMixed.ne_int_str (xu I q (by simp))
  |_=>exact absurd (show false=true from hs) ir
 |str i =>
  obtain⟨t,rfl⟩:=rx;cases y with
  |non=>cases ry;exact PySem.EqNone.ne_str_none (xu I q (by simp))|bl j=>cases ry;exact PySem.EqMixed.ne_str_bool (xu I q (by simp))|int j=>obtain⟨t',rfl⟩:=ry;exact PySem.EqMixed.ne_str_int (xu I q (by simp))
  |str j=>obtain⟨t',rfl⟩:=ry;exact ne_str (xu I q (m6 not ahd))
  |_=>exact absurd (show false=true from hs) ir
 |byt i =>
  obtain⟨t,rfl⟩:=rx;cases y with
  |byt j=>obtain⟨t',rfl⟩:=ry;exact PySem.W.ne_bytes (xu I q (m6 not ahe))
  |_=>exact absurd (show false=true from hs) ir
 |_=>cases y<;>exact absurd (show false=true from hs) ir
theorem a1q:Ge X (compareOp .Lt) (rI0 λi j=>.bl (decide (i<j))):=aq0 λ_ _ _ _ _ _ _ q=>lt_int q
theorem a1r:Ge X (compareOp .LtE) (rI0 λi j=>.bl (decide (i<=j))):=aq0 λ_ _ _ _ _ _ _ q=>le_int q
theorem a1s:Ge X (compareOp .Gt) (rI0 λi j=>.bl (decide (j<i))):=aq0 λ_ _ _ _ _ _ _ q=>gt_int q
theorem a1t:Ge X (compareOp .GtE) (rI0 λi j=>.bl (decide (j<=i))):=aq0 λ_ _ _ _ _ _ _ q=>ge_int q
theorem Ge.or{f:Value->Value->Sem Value}{r r':R2}(h:Ge X f r)(h':Ge X f r'):Ge X f (λx y H Q=>r x y H Q\/r' x y H Q):=by
 intro pins s σ H x y v u Q I rx ry q;rcases q with q|q
 . exact h pins s σ H x y v u Q I rx ry q
 . exact h' pins s σ H x y v u Q I rx ry q
theorem aq2{op:CmpOp}{r:R2}(ho:Ge X (compareOp op) r)(ha:PE X a ta)(hb:PE X b tb)(hm:behindInMarks op b=false):PE X (.Compare a [op] [b] pos) (tOp r ta tb):=by intro pins s σ H Q I h;exact wpAny_Compare1 (axj ha hb I h λv u s2 x y H2 I2 rx ry q=>ho pins s2 σ H2 x y v u Q I2 rx ry q) hm
def avt(t:TE):TT:=fun σ H Q=>t σ H λx H'=>∃k,x=.bl k/\Q k H'
theorem aq3{op:CmpOp}{r:R2}(ho:Ge X (compareOp op) r)(ha:PE X a ta)(hb:PE X b tb)(hm:behindInMarks op b=false):PT X (.Compare a [op] [b] pos) (avt (tOp r ta tb)):=by
 intro pins s σ H Q I h;refine wpAny_isTrue_Compare1 (Bp (ha pins s σ H _ I h) λv s1 ⟨x,H1,I1,r1,q1⟩=>Bp (hb pins s1 σ H1 _ I1 q1) λu s2 ⟨y,H2,I2,r2,q2⟩ =>
  Bp (ho pins s2 σ H2 x y v u _ I2 r1 r2 q2) λc s3 ⟨z,H3,I3,r3,k,e,q3⟩=>?_) hm
 subst e;cases r3;exact j0 ⟨H3,I3,q3⟩
def aa6(r r':R2)(ta tb tc:TE):TE:=fun σ H Q=>ta σ H λx H1=>tb σ H1 λy H2=>r x y H2 λz H3=>∃k,z=.bl k /\
 (if k=true then tc σ H3 λw' H4=>r' y w' H4 Q else Q (.bl false) H3)
theorem als{op op':CmpOp}{r r':R2}(ho:Ge X (compareOp op) r)(ho':Ge X (compareOp op') r')(ha:PE X a ta)(hb:PE X b tb)(hc:PE X c tc)
 (hm:lastMarks [op,op'] [b,c]=false:=by with_unfolding_all rfl):PE X (.Compare a [op,op'] [b,c] pos) (aa6 r r' ta tb tc):=by
 intro pins s σ H Q I h;refine Compare_chain (Bp (ha pins s σ H _ I h) λv s1 ⟨x,H1,I1,r1,q1⟩=>chain_link (Bp (hb pins s1 σ H1 _ I1 q1) λu s2 ⟨y,H2,I2,r2,q2⟩ =>
  Bp (ho pins s2 σ H2 x y v u _ I2 r1 r2 q2) λd s3 ⟨z,H3,I3,r3,k,e,q3⟩=>?_)) hm
 subst e;cases r3;refine j0 ?_;cases k with
 |false=>exact ite_ff ⟨.bl false,H3,I3,rfl,q3⟩|true=>exact ite_tt (chain_last (Bp (hc pins s3 σ H3 _ I3 q3) λw' s4 ⟨z',H4,I4,r4,q4⟩=>ho' pins s4 σ H4 y z' u w' Q I4 r2 r4 q4))
theorem alu{op op':CmpOp}{r r':R2}(ho:Ge X (compareOp op) r)(ho':Ge X (compareOp op') r')(ha:PE X a ta)(hb:PE X b tb)(hc:PE X c tc)
 (hm:lastMarks [op,op'] [b,c]=false:=by with_unfolding_all rfl):PT X (.Compare a [op,op'] [b,c] pos) (avt (aa6 r r' ta tb tc)):=by
 intro pins s σ H Q I h;refine isTrue_chain (Bp (ha pins s σ H _ I h) λv s1 ⟨x,H1,I1,r1,q1⟩=>test_link (Bp (hb pins s1 σ H1 _ I1 q1) λu s2 ⟨y,H2,I2,r2,q2⟩ =>
  Bp (ho pins s2 σ H2 x y v u _ I2 r1 r2 q2) λd s3 ⟨z,H3,I3,r3,k,e,q3⟩=>?_)) hm
 subst e;cases r3;refine j0 ?_;cases k with
 |false =>
  obtain⟨k',e',q'⟩:=q3;cases e';exact ite_ff ⟨H3,I3,q'⟩
 |true =>
  refine ite_tt (test_last (Bp (hc pins s3 σ H3 _ I3 q3) λw' s4 ⟨z',H4,I4,r4,q4⟩=>Bp (ho' pins s4 σ H4 y z' u w' _ I4 r2 r4 q4) λd' s5 ⟨z2,H5,I5,r5,k2,e2,q5⟩=>?_));subst e2;cases r5;exact j0 ⟨H5,I5,q5⟩
theorem aa7:(sizeLine:Nat)<2 ^ 63:=by rw[mz];decide
theorem vals1{x:V}{us:List Value}(r:Vals [x] us):∃u,us=[u]/\RelV x u:=by
 cases r with
 |cons r1 r2=>cases r2;exact⟨_,rfl,r1⟩
theorem vals2{x y:V}{us:List Value}(r:Vals [x,y] us):∃u w',us=[u,w']/\RelV x u/\RelV y w':=by
 cases r with
 |cons r1 r2 =>
  cases r2 with
  |cons r3 r4=>cases r4;exact⟨_,_,rfl,r1,r3⟩
theorem ajc(hc:X.calm=true):Dc X (.builtin "max") (λxs H Q=>∃i j,xs=[.int i,.int j]/\Q (.int (if j > i then j else i)) H):=by
 intro pins s σ H xs us Q I r h;obtain⟨i,j,rfl,q⟩:=h;obtain⟨u,w',rfl,⟨t,rfl⟩,⟨t',rfl⟩⟩:=vals2 r;refine max_two_ints (I.ok.hd hc) λh' tk k=>⟨_,H,I.kept k,?_,q⟩
 by_cases hj:j > i
 . rw[cu hj,cu hj];exact⟨_,rfl⟩
 . rw[bz hj,bz hj];exact⟨_,rfl⟩
theorem ajd(hc:X.calm=true):Dc X (.builtin "min") (λxs H Q=>∃i j,xs=[.int i,.int j]/\Q (.int (if j<i then j else i)) H):=by
 intro pins s σ H xs us Q I r h;obtain⟨i,j,rfl,q⟩:=h;obtain⟨u,w',rfl,⟨t,rfl⟩,⟨t',rfl⟩⟩:=vals2 r;refine min_two_ints (I.ok.hd hc) λh' tk k=>⟨_,H,I.kept k,?_,q⟩
 by_cases hj:j<i
 . rw[cu hj,cu hj];exact⟨_,rfl⟩
 . rw[bz hj,bz hj];exact⟨_,rfl⟩
end
end L2
namespace L2
open PySem PySem.Spec PyProof.Rows
structure afs(h:Heap)(x dx C:Addr)(mA:Str->Option Value):Prop where
 obj:h.get? x=some (PySem.W.instObj C dx)
 ns:h.Ns1 dx mA
 ne:dx≠x
set_option tactic.hygienic true in
theorem aje{h:Heap}{dx:Addr}{mA:Str->Option Value}(n:h.Ns1 dx mA):∃od,h.get? dx=some od/\∀name,PySem.W.lookIn name od=some (mA name):=by
 obtain⟨o,es,ep,ho,hd,hk,_,hm⟩:=n;refine⟨o,ho,λname=>?_⟩;have e:=hm name;unfold nsFind findBy at e;rw[<- Array.find?_toList] at e;unfold PySem.W.lookIn;rw[hd];dsimp only;split
 . rename_i y q
   rw[q] at e;exact m6 some e
 . rename_i q
   rw[q] at e;have a:es.toList.any (·.refKey)=false:=by rw[List.any_eq_false];intro y hy;obtain⟨z,t,hkey⟩:=hk y (Array.mem_toList_iff.mp hy);simp[DictEntry.refKey,hkey]
   have a':¬es.toList.any (·.refKey)=true:=by rw[a];exact ir
   rw[bz a'];exact m6 some e
theorem afs.look{h:Heap}{x dx C:Addr}{mA:Str->Option Value}(I:afs h x dx C mA):∃od,PySem.W.InstAt h x (PySem.W.instObj C dx) C (some od)/\∀name,PySem.W.lookIn name od=some (mA name) :=
 let ⟨od,ho,hl⟩:=aje I.ns
 ⟨od,⟨I.obj,rfl,rfl,ho⟩,hl⟩
section
variable{prog:Program}{w:World}{A:Around}{E:Value->Shared->Prop}{s:Shared}{K:Fg}{x dx C f:Addr}{mA:Str->Option Value}{name:Str}{v:Value}
theorem get_map{expr:Bool}{Q:Value->Shared->Prop}(X:K.In s.heap)(I:afs s.heap x dx C mA)(hg:PySem.W.plainGet K C name=true)(hh:PySem.W.hasDictIn K C=true)
 (ha:PySem.W.findIn K (.ref C) name=some none) (hv:mA name=some v) (hv':PySem.W.handedIn v=true) (h:Q v { s with toks:=s.toks+1 }) :
 wpAny (model prog w) A (getAttr (.ref x) name expr) Q E s:=by
 obtain⟨od,J,hl⟩:=I.look;exact PySem.W.get_value X J (Dk hg).1 (PySem.W.findObj_own hh ha rfl (by rw[hl,hv])) hv' h
theorem alv{pl:Sem Bool}{Q:Value×List Value->Shared->Prop}(X:K.In s.heap)(I:afs s.heap x dx C mA)(hg:PySem.W.plainGet K C name=true)
 (hf:PySem.W.findIn K (.ref C) name=some (some (.ref f))) (ht:PySem.W.isFn K (.ref f)=true) (hv:mA name=none) (h:Q (.ref f,[.ref x]) s) :
 wpAny (model prog w) A (getMethod (.ref x) name pl) Q E s:=by
 obtain⟨od,J,hl⟩:=I.look;exact PySem.W.method_fn X J (Dk hg).1 (Dk hg).2 hf (Gx.mp ht) (by show(PySem.W.lookIn name od).map (·.isSome)=some false;rw[hl,hv];rfl) h
theorem aq4{ns:List Str}{Q:Unit->Shared->Prop}(X:K.In s.heap)(I:afs s.heap x dx C mA)
 (hs:PySem.W.findIn K (.ref C) "__setattr__" = some (some (.builtin "object.__setattr__"))) (hp:PySem.W.plainOver K C=true) (ht:PySem.W.takerIn K C name=some none) (hh:PySem.W.hasDictIn K C=true)
 (hw:PySem.Within mA ns) (hsz:ns.length<=sizeLine)
 (h:∀h',afs h' x dx C (λy=>if y=name then some v else mA y)->Heap.SameBut dx s.heap h'->Q () { s with heap:=h',toks:=s.toks+2 }) :
 wpAny (model prog w) A (setAttr (.ref x) name v) Q E s:=by
 obtain⟨od,J,hl⟩:=I.look;refine PySem.W.set_plain X J hs (PySem.W.osa_open (s:={ s with toks:=s.toks+1 }) (r:=none) X J hp ht λb=>?_);obtain⟨cd,hc,hd'⟩:=PySem.W.any_some hh;have hx:s.heap.get? x=some ⟨.ref C,some dx,.plain,#[]⟩:=I.obj;refine aa (aj (aa (aa (wpAny_loadPart hx (aa (PySem.W.Looks.here (s:={ s with toks:=s.toks+1 }) (PySem.W.looks_clsIn X hc) ?_))))));rw[hd'];refine aj (a:=some dx) (aa (aj (aa ?_)));refine wpAny_nsSet1 (s:={ s with toks:=s.toks+1 }) I.ns λh' hn2 hs2=>?_
 obtain⟨oD,esD,epD,hoD,hdD,hcD⟩:=hn2.count (PySem.Within.cons name v hw);refine aa (wpAny_lookBehind hoD (by rw[hdD];exact pastItsLine_dict (ig hcD (by rw[gf];exact v_ hsz))) ?_);exact aj (h _ ⟨(hs2.2 _ (jz I.ne)).trans I.obj,hn2,I.ne⟩ hs2)
theorem alw{R:Result->Shared->Prop}{vs:List Value}{kw:List (Str×Value)}(X:K.In s.heap)(hm:PySem.W.makesIn K C=true)
 (hi:PySem.W.findIn K (.ref C) "__init__" = some (some (.ref f))) (hf:PySem.W.typeIn K (.ref f)=some (.type "function"))
 (h:codeAny (model prog w) (A.under (.builtin "type.__call__" ⟨.ref C::vs,kw⟩)) (.call (.ref f) ⟨.ref (s.heap.objs.size+1)::vs,kw⟩) (PySem.W.InitBack (s.heap.objs.size+1) R)
  { s with heap:=(s.heap.push PySem.W.emptyDict).push (PySem.W.instObj C s.heap.objs.size) }) :
 codeAny (model prog w) A (.call (.ref C) ⟨vs,kw⟩) R s:=by
 obtain⟨hh,g,d,t,os⟩:=s;exact PySem.W.make_core (PySem.W.makes_of X hm) (PySem.W.looks_findIn X hi) (λself=>PySem.W.bind_fn X self hf) (.inl rfl) h
end
def Lq(f:Str)(v:V):List (Str×V)->List (Str×V)
 |[]=>[(f,v)]|(g,x)::r=>if g=f then(g,v)::r else(g,x)::Lq f v r
theorem V5(f g:Str)(v:V):∀fs:List (Str×V),(Lq f v fs).lookup g=if g=f then some v else fs.lookup g
 |[]=>by
  show List.lookup g [(f,v)]=_
  by_cases h:g=f
  . have hb:(g==f)=true:=Gx.mpr h
    simp only[List.lookup,hb,cu h]
  . have hb:(g==f)=false:=ql.mpr h
    simp only[List.lookup,hb,bz h]
 |(k,x)::r=>by
  have ih:=V5 f g v r;rw[show Lq f v ((k,x)::r)=(if k=f then(k,v)::r else(k,x)::Lq f v r) from rfl]
  by_cases hk:k=f
  . rw[cu hk]
    by_cases h:g=k
    . have hb:(g==k)=true:=Gx.mpr h
      simp only[List.lookup,hb,cu (h.trans hk)]
    . have hb:(g==k)=false:=ql.mpr h
      simp only[List.lookup,hb,bz (λe:g=f=>h (e.trans hk.symm))]
  . rw[bz hk]
    by_cases h:g=k
    . have hb:(g==k)=true:=Gx.mpr h
      simp only[List.lookup,hb,bz (λe:g=f=>hk (h.symm.trans e))]
    . have hb:(g==k)=false:=ql.mpr h
      simp only[List.lookup,hb];exact ih
theorem Vb(f:Str)(v:V):∀fs:List (Str×V),f∈(Lq f v fs).map (·.1)/\∀g,g∈fs.map (·.1)->g∈(Lq f v fs).map (·.1)
 |[]=>⟨by simp[Lq],λg h=>by simp at h⟩
 |(k,x)::r=>by
  obtain⟨i1,i2⟩:=Vb f v r;rw[show Lq f v ((k,x)::r)=(if k=f then(k,v)::r else(k,x)::Lq f v r) from rfl]
  by_cases hk:k=f
  . rw[cu hk]
    subst hk;exact⟨by simp,λg h=>by simpa using h⟩
  . rw[bz hk]
    refine⟨?_,λg h=>?_⟩
    . rw[gq]
      exact bh _ i1
    . rw[gq] at h ⊢
      rcases bw.mp h with e|e
      . exact bw.mpr (.inl e)
      . exact bh _ (i2 g e)
theorem V6(f:Str)(v:V):∀fs:List (Str×V),(Lq f v fs).length<=fs.length+1
 |[]=>by simp[Lq]
 |(k,x)::r=>by
  have ih:=V6 f v r;rw[show Lq f v ((k,x)::r)=(if k=f then(k,v)::r else(k,x)::Lq f v r) from rfl]
  by_cases hk:k=f
  . rw[cu hk,gf,gf];exact x_
  . rw[bz hk,gf,gf];exact v_ ih
theorem Pq.some_of{v:V}{o:Option Value}(r:Pq (some v) o):∃u,o=some u/\RelV v u:=by
 cases o with
 |none=>exact(show False from r).elim
 |some u=>exact⟨u,rfl,r⟩
theorem Pq.none_of{o:Option Value}(r:Pq none o):o=none:=by
 cases o with
 |none=>rfl|some u=>exact(show False from r).elim
theorem ajf{v:V}{u:Value}(r:RelV v u):PySem.W.handedIn u=true:=by
 cases v with
 |non=>cases(show u=Value.none from r);rfl
 |bl b=>cases(show u=Value.bool b from r);rfl
 |int i=>obtain⟨t,e⟩:=(show ∃t,u=Value.int i t from r);cases e;rfl
 |str x=>obtain⟨t,e⟩:=(show ∃t,u=Value.str x t from r);cases e;rfl
 |byt b=>obtain⟨t,e⟩:=(show ∃t,u=Value.bytes b t from r);cases e;rfl
 |flt b=>obtain⟨t,e⟩:=(show ∃t,u=Value.float b t from r);cases e;rfl
 |ref a=>cases(show u=Value.ref a from r);rfl
 |ty n=>cases(show u=Value.type n from r);rfl
section
variable{P:Program}{w:World}{H H':Hp}{h h':Heap}{a C dx:Addr}{fs fs':List (Str×V)}
theorem N6(hok:Rx P w H h)(e:H a=some (.ins C dx fs)):∃mA,afs h a dx C mA/\(∀f,Pq (fs.lookup f) (mA f))/\PySem.Within mA (fs.map (·.1))/\fs.length<=1000/\H dx=some (.own a):=by obtain⟨d,z,ne,ob,mA,n,r,q⟩:=(show zx P w H h a (.ins C dx fs) from hok a _ e);exact⟨mA,⟨ob,n,ne⟩,r,q,z,d⟩
end
structure Cls(K:Fg)(C:Addr):Prop where
 pg:PySem.W.plainGet K C Str.empty=true
 hd:PySem.W.hasDictIn K C=true
 po:PySem.W.plainOver K C=true
 sa:PySem.W.findIn K (.ref C) "__setattr__" = some (some (.builtin "object.__setattr__"))
theorem Cls.get{K:Fg}{C:Addr}(c:Cls K C)(f:Str):PySem.W.plainGet K C f=true:=c.pg
def Jw(K:Fg)(C:Addr)(f:Str):Prop:=PySem.W.findIn K (.ref C) f=some none
theorem Jw.taker{K:Fg}{C:Addr}{f:Str}(n:Jw K C f):PySem.W.takerIn K C f=some none:=by unfold PySem.W.takerIn;rw[show PySem.W.findIn K (.ref C) f=some none from n];rfl
structure Meth(K:Fg)(C:Addr)(m:Str)(f:Addr):Prop where
 at_:PySem.W.findIn K (.ref C) m=some (some (.ref f))
 fn:PySem.W.isFn K (.ref f)=true
 kp:PySem.W.keepIn K (.ref f)=true
section
variable{X:Cx}{pins:List (Addr×Obj)}{σ:St}{H:Hp}{s:Shared}{a C dx:Addr}{fs:List (Str×V)}{f:Str}{v:V}{A:Around}{E:Value->Shared->Prop}
theorem aft{b:Bool}{Q:Value->Shared->Prop}(I:Inv X pins σ H s)(e:H a=some (.ins C dx fs))(c:Cls X.K C)(n:Jw X.K C f)(l:fs.lookup f=some v)
 (h:∀u s',Inv X pins σ H s'->RelV v u->Q u s'):wpAny (model X.prog X.w) A (getAttr (.ref a) f b) Q E s:=by
 obtain⟨mA,O,r,_,_,_⟩:=N6 I.hok e;obtain⟨u,hu,ru⟩:=Pq.some_of (v:=v) (o:=mA f) (by rw[<- l];exact r f);exact get_map I.Wt O (c.get f) c.hd n hu (ajf ru) (h u _ (I.tok _) ru)
theorem Xh{m:Str}{g:Addr}{pl:Sem Bool}{Q:Value×List Value->Shared->Prop}(I:Inv X pins σ H s)(e:H a=some (.ins C dx fs))(c:Cls X.K C)(k:Meth X.K C m g)(l:fs.lookup m=none)
 (h:Q (.ref g,[.ref a]) s):wpAny (model X.prog X.w) A (getMethod (.ref a) m pl) Q E s:=by
 obtain⟨mA,O,r,_,_,_⟩:=N6 I.hok e;have hn:mA m=none:=Pq.none_of (by rw[<- l];exact r m);exact alv I.Wt O (c.get m) k.at_ k.fn hn h
theorem afu{y:V}{u:Value}{Q:Unit->Shared->Prop}(I:Inv X pins σ H s)(e:H a=some (.ins C dx fs))(c:Cls X.K C)(n:Jw X.K C f)(hl:fs.length<1000)(ry:RelV y u)
 (h:∀s',Inv X pins σ (upd H a (.ins C dx (Lq f y fs))) s'->Q () s'):wpAny (model X.prog X.w) A (setAttr (.ref a) f u) Q E s:=by
 obtain⟨mA,O,r,wi,_,ho⟩:=N6 I.hok e;have hz:(fs.map (·.1)).length<=sizeLine:=by rw[fc,mz];exact e_ (b_ hl (by decide))
 refine aq4 I.Wt O c.sa c.po n.taker c.hd wi hz λh' O' sb=>h _ ?_
 have hd:∃o,h'.get? dx=some o:=let ⟨o,_,_,e',_⟩:=O'.ns;⟨o,e'⟩;refine I.write (x:=a) (e:=dx) (by rw[e];exact True.intro) (.inr ho) (λb q hb z=>(sb.2 b hb).trans z) hd ?_;refine⟨by rw[j4 O.ne];exact ho,?_,O.ne,O'.obj,_,O'.ns,λg=>?_,λg hg=>?_⟩
 . have:=V6 f y fs;exact a_ this hl
 . show Pq ((Lq f y fs).lookup g) (if g=f then some u else mA g)
   rw[V5]
   by_cases q:g=f
   . rw[cu q,cu q];exact ry
   . rw[bz q,bz q];exact r g
 . by_cases q:g=f
   . rw[q];exact(Vb f y fs).1
   . refine(Vb f y fs).2 g (wi g λz=>hg ?_)
     show(if g=f then some u else mA g)=none;rw[bz q];exact z
theorem Inv.made(I:Inv X pins σ H s):Inv X pins σ (upd (upd H s.heap.objs.size (.own (s.heap.objs.size+1))) (s.heap.objs.size+1) (.ins C s.heap.objs.size []))
 { s with heap:=(s.heap.push PySem.W.emptyDict).push (PySem.W.instObj C s.heap.objs.size) }:=by
 have e1:(s.heap.push PySem.W.emptyDict).get? s.heap.objs.size=some PySem.W.emptyDict:=bf s.heap rfl;have e2:((s.heap.push PySem.W.emptyDict).push (PySem.W.instObj C s.heap.objs.size)).get? (s.heap.objs.size+1)=some (PySem.W.instObj C s.heap.objs.size):=by
  have:=bf (s.heap.push PySem.W.emptyDict) (o:=PySem.W.instObj C s.heap.objs.size) rfl
  rwa [iz] at this
 have e3:(s.heap.push PySem.W.emptyDict).Ns s.heap.objs.size (λ_=>none):=⟨PySem.W.emptyDict,#[],_,e1,rfl,(λe he=>absurd he (by simp)),λ_=>rfl⟩;have I1:=I.laid (a:=s.heap.objs.size) (o:=.own (s.heap.objs.size+1)) (h':=s.heap.push PySem.W.emptyDict) (t':=s.toks) (λb u q=>ao _ q) (bc _) ⟨_,e1⟩;refine I1.laid (a:=s.heap.objs.size+1) (o:=.ins C s.heap.objs.size []) (t':=s.toks) (λb u q=>ao _ q) (Gz (iz _ _)) ?_;have ne:s.heap.objs.size≠s.heap.objs.size+1:=dj (ph _);refine⟨by rw[j4 ne,uy],jr _,ne,e2,λ_=>none,(Heap.Ns1.of_empty e3).at λo q=>ao _ q,λ_=>True.intro,λy hy=>absurd rfl hy⟩
theorem aq5{prog:Program}{w:World}{env:Env}{e:Expr}{f:Str}{pos:Pos}{s:Shared}{Q:Value->Shared->Prop}(hb:attributeBase e f env (eval e env)=eval e env)
 (h:wpAny (model prog w) A (eval e env) (λo s₁=>wpAny (model prog w) A (getAttr o f true) Q E s₁) E s):wpAny (model prog w) A (eval (.Attribute e f pos) env) Q E s :=
 Attribute_any_ h (by rw[arm_eval_Attribute,hb])
end
def a8p(K:Fg)(ta:TE)(f:Str):TE:=fun σ H Q=>ta σ H λx H1=>∃a C dx fs v,x=.ref a/\H1 a=some (.ins C dx fs)/\Cls K C/\Jw K C f/\fs.lookup f=some v/\Q v H1
def a8q(K:Fg)(ta tv:TE)(f:Str):TS:=λD σ H=>tv σ H λy H1=>ta σ H1 λx H2=>∃a C dx fs,x=.ref a/\H2 a=some (.ins C dx fs)/\Cls K C/\Jw K C f/\fs.length<1000 /\
 D.nx σ (upd H2 a (.ins C dx (Lq f y fs)))
section
variable{X:Cx}{o e value:Expr}{f:Str}{pos pos' tpos:Pos}{ta tv:TE}
theorem axs(he:PE X e ta)(hb:attributeBase e f X.env (eval e X.env)=eval e X.env):PE X (.Attribute e f pos) (a8p X.K ta f):=by intro pins s σ H Q I h;refine aq5 hb (Bp (he pins s σ H _ I h) λu s1 ⟨x,H1,I1,rx,a,C,dx,fs,v,ex,ea,c,n,l,q⟩=>?_);subst ex;obtain rfl:u=Value.ref a:=rx;exact aft I1 ea c n l λu' s2 I2 ru=>⟨v,H1,I2,ru,q⟩
theorem axt(ha:PE X o ta)(hv:PE X value tv)(hs:swapsWith value (some (.Attribute o f pos')) pos.line X.env=pure false):PS X (.Assign [.Attribute o f pos'] value pos) (a8q X.K ta tv f):=by intro pins s σ H D I h;refine plainObj_wpAny_Assign_Attribute (Bp (hv pins s σ H _ I h) λu s1 ⟨y,H1,I1,ry,q⟩=>Bp (ha pins s1 σ H1 _ I1 q) λov s2 ⟨x,H2,I2,rx,a,C,dx,fs,ex,ea,c,n,l,q2⟩=>?_) hs;subst ex;obtain rfl:ov=Value.ref a:=rx;exact afu I2 ea c n l ry λs3 I3=>⟨σ,_,I3,q2⟩
end
section
variable{X:Cx}{pins:List (Addr×Obj)}{σ:St}{H:Hp}{s:Shared}{A:Around}{E:Value->Shared->Prop}{Q:Value->Shared->Prop}{c:Value}{b:Bool}
inductive Qc(K:Fg)(H:Hp):V->Value->Prop where
 |non:Qc K H .non (.type "NoneType")
 |bl (x:Bool):Qc K H (.bl x) (.type "bool")
 |int (i:Int):Qc K H (.int i) (.type "int")
 |str (x:Str):Qc K H (.str x) (.type "str")
 |flt (x:UInt64):Qc K H (.flt x) (.type "float")
 |lst {a:Addr} {xs:List V} (e:H a=some (.lst xs)):Qc K H (.ref a) (.type "list")
 |Py {a:Addr} {o:Obj} {xs:List V} (e:H a=some (.Py o (.lst xs))):Qc K H (.ref a) (.type "list")
 |tup {a:Addr} {xs:List V} (e:H a=some (.tup xs)):Qc K H (.ref a) (.type "tuple")
 |dK {a:Addr} {kvs:List (Key×V)} (e:H a=some (.dK kvs)):Qc K H (.ref a) (.type "dict")
 |dT {a:Addr} {kvs:List (List Key×V)} (e:H a=some (.dT kvs)):Qc K H (.ref a) (.type "dict")
 |ins {a C dx:Addr} {fs:List (Str×V)} (e:H a=some (.ins C dx fs)) (cl:Cls K C) (ha:PySem.W.findIn K (.ref C) "__class__" = some (some (.builtin "object.__class__")))
  (hn:PySem.W.specialIn K (.builtin "object.__class__") "__get__" = some (some (.builtin "getset_descriptor.__get__"))) (htk:PySem.W.takesIn K (.builtin "object.__class__")=some true)
  (hm:PySem.W.mroIn K C (.type "object")=some true):Qc K H (.ref a) (.ref C)
theorem ajg{x:V}{u t:Value}(I:Inv X pins σ H s)(rx:RelV x u)(ty:Qc X.K H x t)(e:PySem.W.kitOne X.K t c=some b)(h:∀tk,Q (.bool b) { s with toks:=tk }) :
 wpAny (model X.prog X.w) A (call (.builtin "isinstance") [u,c]) Q E s:=by
 cases ty with
 |non=>cases(show u=Value.none from rx);exact o5 PySem.W.kitx_none I.Wt True.intro e (λz=>nomatch z) h
 |bl y=>cases(show u=Value.bool y from rx);exact o5 PySem.W.kitx_bool I.Wt True.intro e (λz=>nomatch z) h
 |int i=>obtain⟨t,q⟩:=(show ∃t,u=Value.int i t from rx);cases q;exact o5 PySem.W.kitx_int I.Wt True.intro e (λz=>nomatch z) h
 |str y=>obtain⟨t,q⟩:=(show ∃t,u=Value.str y t from rx);cases q;exact o5 PySem.W.kitx_str I.Wt True.intro e (λz=>nomatch z) h
 |flt y=>obtain⟨t,q⟩:=(show ∃t,u=Value.float y t from rx);cases q;exact o5 PySem.W.kitx_float I.Wt True.intro e (λz=>nomatch z) h
 |@lst a xs ea =>
  cases(show u=Value.ref a from rx);obtain⟨_,_,n,_,h1⟩:=(show zx X.prog X.w H s.heap a (.lst xs) from I.hok a _ ea);exact o5 PySem.W.kitx_list I.Wt ⟨_,h1,rfl⟩ e (λz=>nomatch z) h
 |@Py a ob xs ea =>
  cases(show u=Value.ref a from rx);obtain⟨_,_,_,n,_,h1⟩:=(show zx X.prog X.w H s.heap a (.Py ob (.lst xs)) from I.hok a _ ea);exact o5 PySem.W.kitx_list I.Wt ⟨_,h1,rfl⟩ e (λz=>nomatch z) h
 |@tup a xs ea =>
  cases(show u=Value.ref a from rx);obtain⟨_,_,_,p⟩:=(show zx X.prog X.w H s.heap a (.tup xs) from I.hok a _ ea);obtain⟨o,h1,h2,_⟩:=p;exact o5 PySem.W.kitx_tuple I.Wt ⟨o,h1,h2⟩ e (λz=>nomatch z) h
 |@dK a kvs ea =>
  cases(show u=Value.ref a from rx);obtain⟨_,_,vs,_,p⟩:=(show zx X.prog X.w H s.heap a (.dK kvs) from I.hok a _ ea);obtain⟨o,es,ep,h1,h2,_⟩:=p;exact o5 PySem.W.kitx_dict I.Wt ⟨o,h1,h2.1⟩ e (λz=>nomatch z) h
 |@dT a kvs ea =>
  cases(show u=Value.ref a from rx);obtain⟨_,_,xs,_,o,es,ep,h1,h2,_⟩:=(show zx X.prog X.w H s.heap a (.dT kvs) from I.hok a _ ea);exact o5 PySem.W.kitx_dict I.Wt ⟨o,h1,h2.1⟩ e (λz=>nomatch z) h
 |@ins a C dx fs ea cl ha hn htk hm =>
  cases(show u=Value.ref a from rx);obtain⟨mA,O,_⟩:=N6 I.hok ea;obtain⟨od,J,_⟩:=O.look;exact o5 (PySem.W.kitx_own (cl.get _) cl.hd ha hn htk hm) I.Wt J e (λz=>nomatch z) h
end
end L2
namespace L2
open PySem PySem.Spec PyProof.Rows
structure zj(k:Nat)(A:Around):Prop where
 hd:A.handled=none
 dp:A.depth+3*k+5<recursionLimit
 un:A.units+16*k+200<cLine
theorem zj.mono{j k:Nat}{A:Around}(r:zj k A)(h:j<=k):zj j A:=⟨r.hd,by have:=r.dp;lia,by have:=r.un;lia⟩
theorem zj.deeper{k:Nat}{A:Around}(r:zj (k+1) A)(env:Env):zj k (A.deeper env) :=
 ⟨r.hd,by have:=r.dp;show A.depth+1+3*k+5<_;lia,by have:=r.un;show A.units+3+16*k+200<_;lia⟩
theorem zj.in1{k:Nat}{A:Around}(r:zj (k+1) A):zj k A.in1 :=
 ⟨r.hd,by have:=r.dp;show A.depth+3*k+5<_;lia,by have:=r.un;show A.units+1+16*k+200<_;lia⟩
theorem afv{A:Around}{C:Addr}{us:List Value}{kw:List (Str×Value)}:(A.under (.builtin "type.__call__" ⟨.ref C::us,kw⟩)).depth=A.depth+1:=by first|rfl|simp[Around.under,Code.weight,Code.isCreation,Code.isGuard,Code.isCaller,Code.frames,Code.isFrame,guardIds]
theorem afw{A:Around}{C:Addr}{us:List Value}{kw:List (Str×Value)}:(A.under (.builtin "type.__call__" ⟨.ref C::us,kw⟩)).units=A.units+1:=by first|rfl|simp[Around.under,Code.cUnits,Code.frames,Code.isFrame]
theorem zj.make{k:Nat}{A:Around}(r:zj (k+1) A)(C:Addr)(us:List Value)(kw:List (Str×Value)):zj k (A.under (.builtin "type.__call__" ⟨.ref C::us,kw⟩)) :=
 ⟨r.hd,by have:=r.dp;rw[afv];lia,by have:=r.un;rw[afw];lia⟩
theorem zj.depth{k:Nat}{A:Around}(r:zj k A):A.depth<recursionLimit:=by have:=r.dp;lia
theorem zj.units{k:Nat}{A:Around}(r:zj k A):A.units+64<cLine:=by have:=r.un;lia
theorem zj.Vc{k:Nat}{A:Around}(r:zj k A):A.units<cLine:=by have:=r.un;lia
def a1u:TA:=λ_ H Q=>Q [] H
def a1v(ta:TE)(tr:TA):TA:=fun σ H Q=>ta σ H λx H1=>tr σ H1 λxs H2=>Q (x::xs) H2
section
variable{X:Cx}{e:Expr}{es:List Expr}{te:TE}{t:TA}{pos:Pos}
theorem axu:PA X [] a1u:=λ_ _ _ _ H Q I h=>u5 ⟨[],H,I,.nil,h⟩
theorem aq6(ha:PE X e te)(hr:PA X es t)(hs:starEach (e::es) X.env=(false,eval e X.env)::starEach es X.env:=by rfl):PA X (e::es) (a1v te t):=by intro pos pins s σ H Q I h;rw[hs];show wpAny _ _ (spliced ((false,eval e X.env)::backTo pos (starEach es X.env))) _ _ s;refine qt (Bp (ha pins s σ H _ I h) λu s1 ⟨x,H1,I1,r1,q1⟩=>?_);exact Bp (hr pos pins s1 σ H1 _ I1 q1) λus s2 ⟨xs,H2,I2,r2,q2⟩=>⟨x::xs,H2,I2,.cons r1 r2,q2⟩
def a8r(t:TA):TE:=fun σ H Q=>t σ H λxs H1=>xs.length<=sizeLine/\∀p,H1 p=none->Q (.ref p) (upd H1 p (.tup xs))
def a8s(t:TA):TE:=fun σ H Q=>t σ H λxs H1=>xs.length<=sizeLine/\∀p,H1 p=none->Q (.ref p) (upd H1 p (.lst xs))
theorem axv{x1}(h:PA X es t):PE X (.Tuple es x1 pos) (a8r t):=by intro pins s σ H Q I hq;refine wpAny_Tuple_spliced (Bp (h pos pins s σ H _ I hq) λus s1 ⟨xs,H1,I1,r,z,q⟩=>⟨by rw[<- r.length];exact z,?_⟩);have hf:H1 s1.heap.objs.size=none:=I1.hok.fresh (bc _);refine⟨.ref s1.heap.objs.size,upd H1 s1.heap.objs.size (.tup xs),I1.laid (t':=s1.toks) (λb u e=>ao _ e) (bc _) ?_,rfl,q _ hf⟩;exact⟨z,us,r,Xg.new _ _⟩
theorem alx(h:PA X es t):PE X (.List es pos) (a8s t):=by intro pins s σ H Q I hq;refine wpAny_List_spliced (Bp (h pos pins s σ H _ I hq) λus s1 ⟨xs,H1,I1,r,z,q⟩=>⟨by rw[<- r.length];exact z,?_⟩);have hf:H1 s1.heap.objs.size=none:=I1.hok.fresh (bc _);refine⟨.ref s1.heap.objs.size,upd H1 s1.heap.objs.size (.lst xs),I1.laid (t':=s1.toks) (λb u e=>ao _ e) (bc _) ?_,rfl,q _ hf⟩;exact⟨z,us,0,r,bf _ rfl⟩
end
abbrev Sp:=List V->Hp->VK->XK->Prop
abbrev CXT:=List Env->Hp->Shared->XK->Value->Shared->Prop
structure afx(P:Program)(w:World)(K:Fg)(mg:Str->Option Value)(base:Heap)(A:Around)(outer:List Env)(s:Shared)(H:Hp):Prop where
 frames:A.frames=some outer
 mod:Mod K mg base
 bs:∀b o,base.get? b=some o->s.heap.get? b=some o/\H b=none
 bsz:base.objs.size<=s.heap.objs.size
 Ws:s.heap.FunFrames base outer
 frf:∀b∈frs outer,H b=none
 hok:Rx P w H s.heap
 bare:AllBare s.gens
def CE(outer:List Env)(P:Program)(w:World)(H:Hp)(s:Shared)(Q:VK)(u:Value)(s':Shared):Prop :=
 ∃v H',s'.os=s.os/\AllBare s'.gens/\Un (frs outer) [] H H' s.heap s'.heap/\Rx P w H' s'.heap/\RelV v u/\Q v H'
def CR(CX:CXT)(outer:List Env)(P:Program)(w:World)(H:Hp)(s:Shared)(Q:VK)(E:XK)(r:Result)(s':Shared):Prop :=
 match r with
 |.ok (.ret u)=>CE outer P w H s Q u s'|.ok _=>False|.error e=>CX outer H s E e s'
structure Ij(P:Program)(w:World)(K:Fg)(mg:Str->Option Value)(base:Heap)(CX:CXT)(k:Nat)(f:Addr)(fd:FuncData)(ps:List Str)(sp:Sp):Prop where
 len:∀vs H Q E,sp vs H Q E->vs.length=ps.length
 run:∀(A:Around)(outer:List Env)(s:Shared)(H:Hp)(args:Args)(us:List Value)(vs:List V)(Q:VK)(E:XK),zj k A->afx P w K mg base A outer s H->BindsTo s fd args (ps.zip us)->Vals vs us->sp vs H Q E ->
  codeAny (model P w) A (.call (.ref f) args) (CR CX outer P w H s Q E) s
theorem Ij.imp{P:Program}{w:World}{K:Fg}{mg:Str->Option Value}{base:Heap}{CX:CXT}{k:Nat}{f:Addr}{fd:FuncData}{ps:List Str}{sp sp':Sp}(F:Ij P w K mg base CX k f fd ps sp)
 (h:∀vs H Q E,sp' vs H Q E->sp vs H Q E):Ij P w K mg base CX k f fd ps sp' :=
 ⟨λvs H Q E q=>F.len vs H Q E (h _ _ _ _ q),λA outer s H args us vs Q E hr he hb hv hs=>F.run A outer s H args us vs Q E hr he hb hv (h _ _ _ _ hs)⟩
theorem afx.make{P:Program}{w:World}{K:Fg}{mg:Str->Option Value}{base:Heap}{A:Around}{outer:List Env}{s:Shared}{H:Hp}(e:afx P w K mg base A outer s H)(C:Addr)(us:List Value)(kw:List (Str×Value)) :
 afx P w K mg base (A.under (.builtin "type.__call__" ⟨.ref C::us,kw⟩)) outer s H:=⟨by first|exact e.frames|(simpa[Around.under,Code.envs,Code.isFrame,pushEnvs] using e.frames),e.mod,e.bs,e.bsz,e.Ws,e.frf,e.hok,e.bare⟩
section
variable{X:Cx}{pins:List (Addr×Obj)}{σ:St}{H:Hp}{s s':Shared}
theorem Inv.env0(I:Inv X pins σ H s):afx X.prog X.w X.K X.mg X.base X.A X.stack s H :=
 ⟨I.ok.frames,I.ok.mod,I.bs,ig I.ok.bsz I.sz,I.stack,I.ag9,I.hok,I.bare⟩
theorem Inv.after{Q:VK}{u:Value}(I:Inv X pins σ H s)(h:CE X.stack X.prog X.w H s Q u s'):EP X pins σ Q u s':=by obtain⟨v,H',os,bare,un,hok,r,q⟩:=h;obtain⟨hh,g,d,t,os'⟩:=s';obtain rfl:os'=s.os:=os;exact⟨v,H',I.call (h':=hh) (g':=g) (d':=d) (t':=t) (ch:=[]) un hok bare (λb z=>absurd z (by simp)),r,q⟩
end
def a1w(sp:Sp)(Zd:List V)(E:XK)(t:TA):TE:=fun σ H Q=>t σ H λvs H1=>sp (vs++Zd) H1 Q E
def avu(C:Addr)(m:Str)(sp:Sp)(Zd:List V)(E:XK)(ta:TE)(t:TA):TE:=fun σ H Q=>ta σ H λx H1=>∃a dx fs,x=.ref a/\H1 a=some (.ins C dx fs)/\fs.lookup m=none /\
 t σ H1 λvs H2=>sp (x::(vs++Zd)) H2 Q E
def a1x(C:Addr)(sp:Sp)(Zd:List V)(E:XK)(t:TA):TE:=fun σ H Q=>t σ H λvs H1=>∀x dx,H1 x=none->H1 dx=none->dx≠x ->
 sp (.ref x::(vs++Zd)) (upd (upd H1 dx (.own x)) x (.ins C dx [])) (λv H2=>v=.non/\Q (.ref x) H2) E
def Binds(K:Fg)(fd:FuncData)(ps:List Str)(ds:List Value):Prop :=
 ∀(s:Shared)(us:List Value),K.In s.heap->(us++ds).length=ps.length->BindsTo s fd ⟨us,[]⟩ (ps.zip (us++ds))
theorem Binds.all{K:Fg}{fd:FuncData}{ps:List Str}(h:∀us:List Value,us.length=ps.length->bindArgs fd ⟨us,[]⟩=pure (ps.zip us)):Binds K fd ps []:=λs us _ hl=>by rw[wk] at hl ⊢;exact .of_eq (h us hl)
def Passes(CX:CXT)(X:Cx)(E:XK):Prop:=∀(pins:List (Addr×Obj))(σ:St)(H:Hp)(s:Shared)(e:Value)(s':Shared),Inv X pins σ H s->CX X.stack H s E e s'->X.xe e s'
section
variable{X:Cx}{CX:CXT}{k:Nat}{f C:Addr}{fd:FuncData}{ps:List Str}{sp:Sp}{Zd:List V}{ds:List Value}{E:XK}{x m:Str}{p pos apos:Pos}{e o:Expr}{es:List Expr}{ta:TE}{t:TA}
theorem afy{pins:List (Addr×Obj)}{σ:St}{H:Hp}{s:Shared}{Q:VK}{us:List Value}{vs:List V}(F:Ij X.prog X.w X.K X.mg X.base CX k f fd ps sp)(hr:zj k X.A)(hb:Binds X.K fd ps ds)(hd:Vals Zd ds)(hx:Passes CX X E)
 (I:Inv X pins σ H s) (r:Vals vs us) (h:sp (vs++Zd) H Q E):wpAny (model X.prog X.w) X.A (call (.ref f) us) (EP X pins σ Q) X.xe s:=by
 have r2:Vals (vs++Zd) (us++ds):=r.append hd;have hl:(us++ds).length=ps.length:=by rw[<- r2.length];exact F.len _ _ _ _ h
 refine wpAny_call (uv (F.run X.A X.stack s H ⟨us,[]⟩ (us++ds) (vs++Zd) Q E hr I.env0 (hb s us I.Wt hl) r2 h) λr s' hq=>?_);cases r with
 |error e=>exact hx pins σ H s e s' I hq
 |ok fl =>
  cases fl with
  |ret u=>exact I.after hq|next=>exact False.elim hq|brk=>exact False.elim hq|cont=>exact False.elim hq
theorem aq7(F:Ij X.prog X.w X.K X.mg X.base CX k f fd ps sp)(hr:zj k X.A)(hg:Gl X x)(hm:X.mg x=some (.ref f))(hk:PySem.W.keepIn X.K (.ref f)=true)(hb:Binds X.K fd ps ds)(hd:Vals Zd ds)(hx:Passes CX X E)
 (ha:PA X (e::es) t) (hdb:(x==("__debug__" : Str))=false:=by decide) (he:starEach (e::es) X.env=(false,eval e X.env)::starEach es X.env:=by rfl) (hpl:(backTo pos (starEach es X.env)).any (·.1)=false:=by rfl) :
 PE X (.Call (.Name x p) (e::es) [] pos) (a1w sp Zd E t):=by
 intro pins s σ H Q I h;refine ik (aa4 I hg hm ?_ hdb);refine Ei (h₀:=X.base) I.ok.mod.kin hk (Bp (ha pos pins s σ H _ I h) λus s1 ⟨vs,H1,I1,r,q⟩=>⟨I1.Wt,?_⟩) he hpl;exact afy F hr hb hd hx I1 r q
theorem aq8{pl:Sem Bool}(he:PE X o ta)(c:Cls X.K C)(hm:Meth X.K C m f)(F:Ij X.prog X.w X.K X.mg X.base CX k f fd ps sp)(hr:zj k X.A)(hb:Binds X.K fd ps ds)(hd:Vals Zd ds)(hx:Passes CX X E)(ha:PA X (e::es) t)
 (hst:starEach (e::es) X.env=(false,eval e X.env)::starEach es X.env:=by rfl) (hpl:(backTo pos (starEach es X.env)).any (·.1)=false:=by rfl)
 (ht:eval (.Call (.Attribute o m apos) (e::es) [] pos) X.env=(do
  let ov <- eval o X.env
  standAt apos.atName
  let (f,first) <- holding [ov] (getMethod ov m pl)
  callWith pos f first (backTo pos (starEach (e::es) X.env)) (backToKw pos (keywordEach [] X.env))):=by rfl) :
 PE X (.Call (.Attribute o m apos) (e::es) [] pos) (avu C m sp Zd E ta t):=by
 intro pins s σ H Q I h;refine Gw (pl:=pl) (Bp (he pins s σ H _ I h) λu s1 ⟨x,H1,I1,rx,a,dx,fs,ex,ea,l,q⟩=>?_) ht;subst ex;obtain rfl:u=Value.ref a:=rx;refine Xh I1 ea c hm l ?_;refine Ei (first:=[.ref a]) (h₀:=X.base) I.ok.mod.kin hm.kp (Bp (ha pos pins s1 σ H1 _ I1 q) λus s2 ⟨vs,H2,I2,r,q2⟩=>⟨I2.Wt,?_⟩) hst hpl;exact afy (us:=.ref a::us) (vs:=.ref a::vs) F hr hb hd hx I2 (.cons rfl r) q2
theorem alz{pl:Sem Bool}(he:PE X o ta)(c:Cls X.K C)(hm:Meth X.K C m f)(F:Ij X.prog X.w X.K X.mg X.base CX k f fd ps sp)(hr:zj k X.A)(hb:Binds X.K fd ps ds)(hd:Vals Zd ds)(hx:Passes CX X E)
 (ht:eval (.Call (.Attribute o m apos) [] [] pos) X.env=(do
  let ov <- eval o X.env
  standAt apos.atName
  let (f,first) <- holding [ov] (getMethod ov m pl)
  callWith pos f first (backTo pos (starEach [] X.env)) (backToKw pos (keywordEach [] X.env))):=by rfl) :
 PE X (.Call (.Attribute o m apos) [] [] pos) (avu C m sp Zd E ta a1u):=by
 intro pins s σ H Q I h;refine Gw (pl:=pl) (Bp (he pins s σ H _ I h) λu s1 ⟨x,H1,I1,rx,a,dx,fs,ex,ea,l,q⟩=>?_) ht;subst ex;obtain rfl:u=Value.ref a:=rx;refine Xh I1 ea c hm l ?_;exact PySem.W.callWith_K0 (first:=[.ref a]) I1.Wt hm.kp (afy (us:=[.ref a]) (vs:=[.ref a]) F hr hb hd hx I1 (.cons rfl .nil) q)
structure Mk(K:Fg)(C f:Addr):Prop where
 makes:PySem.W.makesIn K C=true
 init:PySem.W.findIn K (.ref C) "__init__" = some (some (.ref f))
 fn:PySem.W.isFn K (.ref f)=true
 kp:PySem.W.keepIn K (.ref C)=true
theorem al0{pins:List (Addr×Obj)}{σ:St}{H:Hp}{s:Shared}{Q:VK}{us:List Value}{vs:List V}(M:Mk X.K C f)(F:Ij X.prog X.w X.K X.mg X.base CX k f fd ps sp)(hr:zj (k+1) X.A)(hb:Binds X.K fd ps ds)(hd:Vals Zd ds)
 (hx:Passes CX X E) (I:Inv X pins σ H s) (r:Vals vs us)
 (h:∀x dx,H x=none->H dx=none->dx≠x->sp (.ref x::(vs++Zd)) (upd (upd H dx (.own x)) x (.ins C dx [])) (λv H2=>v=.non/\Q (.ref x) H2) E) :
 wpAny (model X.prog X.w) X.A (call (.ref C) us) (EP X pins σ Q) X.xe s:=by
 have hq:=h (s.heap.objs.size+1) s.heap.objs.size (I.hok.fresh (qj _)) (I.hok.fresh (bc _)) (dj (ph _));have I2:=Inv.made (C:=C) I;have r2:Vals (V.ref (s.heap.objs.size+1)::(vs++Zd)) (Value.ref (s.heap.objs.size+1)::(us++ds)):=.cons rfl (r.append hd);have hl:(Value.ref (s.heap.objs.size+1)::us++ds).length=ps.length:=by have e:=r2.length;rw[F.len _ _ _ _ hq] at e;exact e.symm
 refine wpAny_call (alw (f:=f) I.Wt M.makes M.init (Gx.mp M.fn) (uv (F.run _ X.stack _ _ ⟨Value.ref (s.heap.objs.size+1)::us,[]⟩ (Value.ref (s.heap.objs.size+1)::(us++ds)) _ _ E (hr.make C us [])
  (I2.env0.make C us []) (hb _ (Value.ref (s.heap.objs.size+1)::us) I2.Wt hl) r2 hq) λr s' hq'=>?_))
 cases r with
 |error e=>exact hx pins σ _ _ e s' I2 hq'
 |ok fl =>
  cases fl with
  |ret u =>
   obtain⟨v,H',I3,rv,ev,q3⟩:=I2.after hq';subst ev;exact⟨rv,⟨V.ref (s.heap.objs.size+1),H',I3,rfl,q3⟩⟩
  |next=>exact False.elim hq'|brk=>exact False.elim hq'|cont=>exact False.elim hq'
theorem aq9(M:Mk X.K C f)(F:Ij X.prog X.w X.K X.mg X.base CX k f fd ps sp)(hr:zj (k+1) X.A)(hg:Gl X x)(hm:X.mg x=some (.ref C))(hb:Binds X.K fd ps ds)(hd:Vals Zd ds)(hx:Passes CX X E)
 (ha:PA X (e::es) t) (hdb:(x==("__debug__" : Str))=false:=by decide) (he:starEach (e::es) X.env=(false,eval e X.env)::starEach es X.env:=by rfl) (hpl:(backTo pos (starEach es X.env)).any (·.1)=false:=by rfl) :
 PE X (.Call (.Name x p) (e::es) [] pos) (a1x C sp Zd E t):=by
 intro pins s σ H Q I h;refine ik (aa4 I hg hm ?_ hdb);refine Ei (h₀:=X.base) I.ok.mod.kin M.kp (Bp (ha pos pins s σ H _ I h) λus s1 ⟨vs,H1,I1,r,q⟩=>⟨I1.Wt,?_⟩) he hpl;exact al0 M F hr hb hd hx I1 r q
end
structure W2(N P:List Str)(sc:Scope):Prop where
 kind:sc.kind=.function
 co:sc.isCoroutine=false
 gen:sc.isGenerator=false
 nd:N.Nodup
 pre:N.take P.length=P
 par:∀x∈P,sc.names.lookup x=some .local\/sc.names.lookup x=some .cell
 axw:∀y∈sc.names,y.2≠.free
theorem Zr{kindOf:Str->Option NameKind}{x:Str}:∀{binds:List (Str×Value)}{m:Str->Option Value},(∀v,(x,v)∉binds)->bindL kindOf binds m x=m x
 |[],_,_=>rfl
 |(n,v)::r,m,h=>by
  unfold bindL;rw[Zr λw hw=>h w (bh _ hw)];split
  . have:x≠n:=by rintro rfl;exact h v cj
    simp[this]
  . rfl
theorem Zt{kindOf:Str->Option NameKind}{x:Str}:∀{binds:List (Str×Value)}{m:Str->Option Value},(∀v,(x,v)∉binds)->bindC kindOf binds m x=m x
 |[],_,_=>rfl
 |(n,v)::r,m,h=>by
  unfold bindC;rw[Zt λw hw=>h w (bh _ hw)];split
  . rfl
  . have:x≠n:=by rintro rfl;exact h v cj
    simp[this]
theorem Zu{kindOf:Str->Option NameKind}{x:Str}{v:Value}:∀{P:List Str}{vs:List Value}{i:Nat}{m:Str->Option Value},P.Nodup->P[i]?=some x->vs[i]?=some v->kindOf x=some .local ->
 bindL kindOf (P.zip vs) m x=some v
 |[],_,_,_,_,h,_,_=>by simp at h|_::_,[],_,_,_,_,h,_=>by simp at h
 |p::P,w::vs,0,m,nd,h1,h2,hk=>by
  simp at h1 h2;subst h1;subst h2;show bindL kindOf ((p,w)::P.zip vs) m p=_;unfold bindL;rw[Zr λv hv=>(ue.mp nd).1 (Di hv).1,cu hk];simp
 |p::P,w::vs,i+1,m,nd,h1,h2,hk=>by
  show bindL kindOf ((p,w)::P.zip vs) m x=_;unfold bindL;exact Zu (i:=i) (ue.mp nd).2 (by simpa using h1) (by simpa using h2) hk
theorem Zv{kindOf:Str->Option NameKind}{x:Str}{v:Value}:∀{P:List Str}{vs:List Value}{i:Nat}{m:Str->Option Value},P.Nodup->P[i]?=some x->vs[i]?=some v->kindOf x≠some .local ->
 bindC kindOf (P.zip vs) m x=some v
 |[],_,_,_,_,h,_,_=>by simp at h|_::_,[],_,_,_,_,h,_=>by simp at h
 |p::P,w::vs,0,m,nd,h1,h2,hk=>by
  simp at h1 h2;subst h1;subst h2;show bindC kindOf ((p,w)::P.zip vs) m p=_;unfold bindC;rw[Zt λv hv=>(ue.mp nd).1 (Di hv).1,bz hk];simp
 |p::P,w::vs,i+1,m,nd,h1,h2,hk=>by
  show bindC kindOf ((p,w)::P.zip vs) m x=_;unfold bindC;exact Zv (i:=i) (ue.mp nd).2 (by simpa using h1) (by simpa using h2) hk
def start(N:List Str)(vs:List V):St:=vs.map some++List.replicate (N.length-vs.length) none
def afz(CX:CXT)(P:Program)(w:World)(K:Fg)(mg:Str->Option Value)(base:Heap)(N:List Str)(qual:Str)(scope:Scope)(f:Addr)(cd:Value)(A:Around)(outer:List Env)(s:Shared)(H:Hp)(E:XK):Cx where
 prog:=P
 w:=w
 K:=K
 mg:=mg
 base:=base
 A:=A.deeper (envOfC qual scope s.heap.objs.size f cd)
 N:=N
 s₀:=s
 H₀:=H
 env:=envOfC qual scope s.heap.objs.size f cd
 outer:=outer
 stack:=envOfC qual scope s.heap.objs.size f cd::outer
 ex:=[]
 calm:=true
 fn:=λ_=>true
 pn:=[]
 xe:=λe s'=>wpAny (model P w) (A.deeper (envOfC qual scope s.heap.objs.size f cd)) (leaving (envOfC qual scope s.heap.objs.size f cd) e) (λ_ s''=>CX outer H s E e s'') (λe' s''=>CX outer H s E e' s'') s'
theorem adi{sc:Scope}{n:Nat}{x:Str}(h:sc.names.lookup x=some .cell):∃c,(cellsFrom n sc.names []).lookup x=some c:=by have q:=Gd sc.names n [] (.inl h);exact m9.mp q
theorem ajh{CX:CXT}{P:Program}{w:World}{K:Fg}{mg:Str->Option Value}{base:Heap}{N ps:List Str}{qual:Str}{scope:Scope}{f:Addr}{cd:Value}{A:Around}{outer:List Env}{s s1:Shared}{H:Hp}{E:XK}{us:List Value}{vs:List V}
 (S:W2 N ps scope) (hd:A.handled=none) (e0:afx P w K mg base A outer s H) (hl:vs.length=ps.length) (r:Vals vs us)
 (x:InCallC s s.heap.objs.size (bindL (envOfC qual scope s.heap.objs.size f cd).kindOf (ps.zip us) λ_=>none) (cellsFrom (s.heap.objs.size+1) scope.names []) (bindC (envOfC qual scope s.heap.objs.size f cd).kindOf (ps.zip us) λ_=>none) s1) :
 Inv (afz CX P w K mg base N qual scope f cd A outer s H E) [] (start N vs) H s1:=by
 have hpl:ps.length<=N.length:=by have:=m6 List.length S.pre;rw[Gg] at this;lia
 obtain⟨h1,tk,rfl,hk⟩:=x.done;have noA:∀b:Addr,b∉(afz CX P w K mg base N qual scope f cd A outer s H E).ex:=λb z=>absurd (show b∈([]:List Addr) from z) (by simp)
 refine⟨⟨e0.mod,S.kind,rfl,rfl,bc _,λy z c h1 h2=>?_,λy hy=>?_,λy c _ h=>?_,λ_=>hd,Around.frames_deeper e0.frames,.inr ⟨rfl,rfl⟩,λb z=>absurd z (noA b),e0.bs,e0.bsz,λb _ _=>noA b,λb z=>absurd z (noA b),e0.Ws,e0.frf⟩,
  rfl,e0.bare,Un.kept hk,⟨_,x.toInCall.ns,λi y v h1 h2 h3=>?_⟩,λy c h=>⟨_,x.cell y c h⟩,e0.hok.fresh (bc _),λy c h=>?_,λp hp=>absurd (show p∈([]:List (Addr×Obj)) from hp) (by simp),e0.hok.kept hk,?_⟩
 . exact name_of_addr x.apart (yh h1) (yh h2)
 . have hy:scope.names.lookup y=some .cell\/scope.names.lookup y=some .free:=hy
   rcases hy with hy|hy
   . exact adi hy
   . exact absurd rfl (S.axw _ (yh hy))
 . exact Ae (x.above y c (yh h))
 . have hi:i<vs.length:=by
    unfold start at h2
    by_cases hi:i<vs.length
    . exact hi
    . rw[je (by simpa using hi)] at h2
      rw[Av] at h2;split at h2<;>cases h2
   have ha:vs[i]?=some v:=by
    unfold start at h2;rw[dq (by simpa using hi),jk] at h2;cases e:vs[i]? with
    |none=>rw[e] at h2;cases h2|some a=>rw[e] at h2;cases h2;rfl
   obtain⟨u,hu,rv⟩:=r.get ha;have hp:ps[i]?=some y:=by rw[<- S.pre,List.getElem?_take_of_lt (b_ hi (f_ hl))];exact h1
   have ndP:ps.Nodup:=by rw[<- S.pre];exact S.nd.sublist (List.take_sublist _ _)
   refine⟨u,rv,?_⟩;rcases S.par y (az hp) with k|k
   . exact .inl ⟨k,Zu ndP hp hu k⟩
   . obtain⟨c,e⟩:=adi (n:=s.heap.objs.size+1) k
     refine .inr ⟨.inl k,c,e,?_⟩;have q:=x.cell y c e;rw[Zv ndP hp hu (by show scope.names.lookup y≠_;rw[k];decide)] at q;exact q
 . exact e0.hok.fresh (Ae (x.above y c (yh h)))
 . unfold start
   show _=N.length;rw[qx,fc,Ce]
   lia
theorem a1z{CX:CXT}{P:Program}{w:World}{K:Fg}{mg:Str->Option Value}{base:Heap}{k:Nat}{f:Addr}{name qual:Str}{params:Arguments}{body:List Stmt}{scope:Scope}{dV kV doc pm cdv ct oc:Value}{an od:Option Addr}
 {osl:Array (Option Value)} {N ps:List Str} {sp:Sp} (lk:K.lookup f=some ⟨oc,od,.func (PySem.W.fnOf name qual params body scope dV kV doc pm an cdv ct),osl⟩) (hcd:PySem.W.codeIn K cdv qual=true) (S:W2 N ps scope)
 (len:∀vs H Q E,sp vs H Q E->vs.length=ps.length)
 (hbody:∀(A:Around)(outer:List Env)(s:Shared)(H:Hp)(vs:List V)(Q:VK)(E:XK),zj k (A.deeper (envOfC qual scope s.heap.objs.size f cdv))->sp vs H Q E ->
  ∃t,T5 (afz CX P w K mg base N qual scope f cdv A outer s H E) body t/\t { nx:=λ_ H'=>Q .non H',rt:=Q } (start N vs) H) :
 Ij P w K mg base CX (k+1) f (PySem.W.fnOf name qual params body scope dV kV doc pm an cdv ct) ps sp:=by
 refine⟨len,λA outer s H args us vs Q E hr e0 hb r hsp=>?_⟩;have hl:=len _ _ _ _ hsp;have KX:K.In s.heap:=e0.mod.kin.keeps λb o e=>(e0.bs b o e).1
 have lim:s.heap.NoLimit:=e0.mod.nolimit.keeps λb o e=>(e0.bs b o e).1
 have hkind:∀y∈ps.zip us,scope.names.lookup y.1=some .local\/(scope.names.lookup y.1=some .cell/\((cellsFrom (s.heap.objs.size+1) scope.names []).lookup y.1).isSome=true):=λ⟨n,v⟩ hy=>by
  rcases S.par n (Di hy).1 with q|q
  . exact .inl q
  . exact .inr ⟨q,Gd _ _ _ (.inl q)⟩
 refine codeAny_call_function hr.depth (KX _ _ lk) rfl S.co S.gen rfl (PySem.W.codeRec_of KX hcd) (hb _ _ _ _ ?_);refine wpAny_newFunctionEnv_cells S.kind hkind λenv he s1 x=>?_
 subst he;refine⟨lim.keeps x.toInCall.keep,codeAny_func ?_⟩;obtain⟨t,ht,hq⟩:=hbody A outer s H vs Q E (hr.deeper _) hsp;have I:Inv (afz CX P w K mg base N qual scope f cdv A outer s H E) [] (start N vs) H s1:=ajh S hr.hd e0 hl r x;refine jt (ht [] s1 (start N vs) H _ I hq) (λfl s' hs=>?_) λe s' hs=>hs
 have fin:∀{σ':St}{H':Hp}{v:V}{u:Value},Inv (afz CX P w K mg base N qual scope f cdv A outer s H E) [] σ' H' s'->RelV v u->Q v H'->CE outer P w H s Q u s' :=
  fun{σ' H' v u} J rv q=>⟨v,H',J.os,J.bare,J.base,J.hok,rv,q⟩
 cases fl with
 |ret u =>
  obtain⟨v,σ',H',J,rv,q⟩:=hs;exact fin J rv q
 |next =>
  obtain⟨σ',H',J,q⟩:=hs;exact fin (v:=V.non) (u:=Value.none) J rfl q
 |brk =>
  obtain⟨_,_,_,q⟩:=hs;exact False.elim q
 |cont =>
  obtain⟨_,_,_,q⟩:=hs;exact False.elim q
end L2
namespace L2
open PySem PySem.Spec PyProof.Rows
section
variable{X:Cx}{x:Str}{p pos:Pos}{e:Expr}{es:List Expr}{t:TA}{id T:String}{r:List V->Hp->VK->Prop}
def tCB(r:List V->Hp->VK->Prop)(t:TA):TE:=fun σ H Q=>t σ H λvs H1=>r vs H1 Q
theorem al1(hc:Dc X (.builtin id) r)(hg:Gl X x)(hm:X.mg x=none)(hv:bootBuiltins x=some (.builtin id))(ha:PA X (e::es) t)(hn:x≠"__name__" := by decide)(hdb:(x==("__debug__" : Str))=false:=by decide)
 (he:starEach (e::es) X.env=(false,eval e X.env)::starEach es X.env:=by rfl) (hpl:(backTo pos (starEach es X.env)).any (·.1)=false:=by rfl):PE X (.Call (.Name x p) (e::es) [] pos) (tCB r t):=by
 intro pins s σ H Q I h;refine ik (G8 I hg hm hv ?_ hn hdb);exact xr (Bp (ha pos pins s σ H _ I h) λus s1 ⟨vs,H1,I1,r1,q1⟩=>hc pins s1 σ H1 vs us Q I1 r1 q1) he hpl
theorem aji(hc:Dc X (.type T) r)(hg:Gl X x)(hm:X.mg x=none)(hv:bootBuiltins x=some (.type T))(ha:PA X (e::es) t)(hn:x≠"__name__" := by decide)(hdb:(x==("__debug__" : Str))=false:=by decide)
 (he:starEach (e::es) X.env=(false,eval e X.env)::starEach es X.env:=by rfl) (hpl:(backTo pos (starEach es X.env)).any (·.1)=false:=by rfl):PE X (.Call (.Name x p) (e::es) [] pos) (tCB r t):=by
 intro pins s σ H Q I h;refine ik (G8 I hg hm hv ?_ hn hdb);exact iw (Bp (ha pos pins s σ H _ I h) λus s1 ⟨vs,H1,I1,r1,q1⟩=>hc pins s1 σ H1 vs us Q I1 r1 q1) he hpl
end
end L2
namespace HT
open PySem PyProof.Rows
section
variable{prog:Program}{w:World}{A:Around}{E:Value->Shared->Prop}{s:Shared}
theorem ara(ht:IsTup s.heap t vs.toArray)(hb:IsTup s.heap b ws.toArray)(hv:vs≠[])(h1:ws=[]->Q (.ref t) s)(h2:ws≠[]->Q (.ref s.heap.objs.size) { s with heap:=s.heap.push { cls:=.type "tuple",data:=.seq (vs++ws).toArray } })(hsz:vs.length+ws.length<=sizeLine):wpAny (model prog w) A (binaryOp .Add (.ref t) (.ref b)) Q E s:=by
 obtain⟨⟨cls,dd,data,sl⟩,ho,hc,n,hd⟩:=id ht;obtain⟨⟨cls2,dd2,data2,sl2⟩,ho2,hc2,n2,hd2⟩:=id hb;simp only at hc hd hc2 hd2;subst hc hd hc2 hd2;have e:vs.toArray++ws.toArray=(vs++ws).toArray:=by simp
 by_cases hw:ws=[]
 . exact concat_meets ⟨_,ho,rfl⟩ ⟨_,ho2,rfl⟩ noFill_tuple_add seq_tuple_add Gb Fe (Em _ _)
    (tuple_addW1 t b vs.toArray ws.toArray n n2 dd dd2 sl sl2 (by simpa using hv) (by simp[hw])) ⟨ho,ho2,h1 hw⟩
 . refine concat_meets ⟨_,ho,rfl⟩ ⟨_,ho2,rfl⟩ noFill_tuple_add seq_tuple_add Gb Fe (Em _ _)
    (tuple_addW2 t b vs.toArray ws.toArray n n2 dd dd2 sl sl2 (by simpa using hv) (by simpa using hw) (by rw[du,du];exact hsz)) ⟨ho,ho2,?_⟩
   rw[e];exact h2 hw
def Jp(n d:Nat):Option Int->Nat
 |none=>d|some v=>if v<0 then(v+(n:Int)).toNat else min v.toNat n
theorem axx(n d:Nat)(hd:d<=n)(o:Option Int):Jp n d o<=n:=by
 cases o with
 |none=>exact hd
 |some v =>
  show(if v<0 then(v+(n:Int)).toNat else min v.toNat n)<=n
  by_cases hv:v<0
  . rw[cu hv];lia
  . rw[bz hv];exact Nat.min_le_right _ _
theorem ahf(v:Int)(n d:Nat):(if v<0 then max (v+(n:Int)) 0 else min v (n:Int))=((Jp n d (some v):Nat):Int):=by
 show(if v<0 then max (v+(n:Int)) 0 else min v (n:Int))=(((if v<0 then(v+(n:Int)).toNat else min v.toNat n):Nat):Int)
 by_cases hv:v<0
 . simp only[cu hv];lia
 . simp only[bz hv];lia
theorem af0(lo hi:Option Int)(n:Nat):Builtin.Slice.sliceAdjust lo hi 1 (n:Int)=(((Jp n 0 lo:Nat):Int),((Jp n n hi:Nat):Int)):=by
 have h1:¬((1:Int)<0):=by lia
 unfold Builtin.Slice.sliceAdjust;simp only[h1,jf];refine Prod.ext ?_ ?_
 . cases lo with
   |none=>rfl|some v=>exact ahf v n 0
 . cases hi with
   |none=>rfl|some v=>exact ahf v n n
theorem af1(i j:Nat):Builtin.Slice.slicePlaces (i:Int) (j:Int) 1=j-i:=by unfold Builtin.Slice.slicePlaces;have h1:(1:Int) > 0:=m_ (by decide);simp only[h1,jq,Int.ediv_one];split<;>lia
theorem Xi(p:IsPart v o)(h:Q o s):wpAny (model prog w) A (Builtin.Slice.slicePartIndex v) Q E s:=by
 cases p with
 |none=>exact slicePart_none h|int i t=>exact slicePart_int h
theorem Vd{lo:Option Int}{n:Nat}(hs:s.heap.IsSliceOf sl vl vu .none)(pl:IsPart vl lo)(pu:IsPart vu hi)(h:Q (((Jp n 0 lo:Nat):Int),1,Jp n n hi-Jp n 0 lo) s):wpAny (model prog w) A (Builtin.Slice.sliceApplied (.ref sl) (pure (n:Int))) Q E s:=by obtain⟨os,hos,hcs,hds⟩:=id hs;unfold Builtin.Slice.sliceApplied Builtin.Slice.sliceFields;refine aa (aa (fu hos hds (x:=vl) rfl (aa (fu hos hds (x:=vu) rfl (aa (fu hos hds (x:=.none) rfl (aj ?_)))))));refine aa (slicePart_none ?_);show wpAny _ _ (if((1:Int)==0)=true then _ else _) _ _ s;rw[bz (by decide)];refine aa (Xi pl (aa (Xi pu (aa (aj ?_)))));show wpAny _ _ (match Builtin.Slice.sliceAdjust lo hi 1 (n:Int) with|(lo,hi)=>pure (lo,(1:Int),Builtin.Slice.slicePlaces lo hi 1)) _ _ s;rw[af0 lo hi n];show wpAny _ _ (pure (((Jp n 0 lo:Nat):Int),(1:Int),Builtin.Slice.slicePlaces ((Jp n 0 lo:Nat):Int) ((Jp n n hi:Nat):Int) 1)) _ _ s;rw[af1];exact aj h
theorem al2(xs:Array Value)(i k:Nat):((List.range k).filterMap λ(m:Nat)=>xs[((i:Int)+(m:Int)*1).toNat]?).toArray=((xs.toList.drop i).take k).toArray:=by
 have e:(λ(m:Nat)=>xs[((i:Int)+(m:Int)*1).toNat]?)=λm=>xs[i+m]?:=by
  funext m
  have:((i:Int)+(m:Int)*1).toNat=i+m:=by lia
  rw[this]
 rw[e];have:=pick_run xs i k;rw[Hz] at this;have e2:((λx=>xs[x]?) ∘ λx=>i+x)=λm=>xs[i+m]?:=rfl
 rw[e2] at this;rw[this]
theorem T6{lo:Option Int}(ht:IsTup s.heap t items)(hs:s.heap.IsSliceOf sl vl vu .none)(pl:IsPart vl lo)(pu:IsPart vu hi)(hw:¬(Jp items.size 0 lo=0/\Jp items.size items.size hi=items.size))(h:Q (.ref s.heap.objs.size) { s with heap:=s.heap.push { cls:=.type "tuple",data:=.seq ((items.toList.drop (Jp items.size 0 lo)).take (Jp items.size items.size hi-Jp items.size 0 lo)).toArray } })(hsz:items.size<=sizeLine):wpAny (model prog w) A (getItem (.ref t) (.ref sl)) Q E s:=by
 have ahg:sizeOk (.seq ((items.toList.drop (Jp items.size 0 lo)).take (Jp items.size items.size hi-Jp items.size 0 lo)).toArray):=by
  show((items.toList.drop (Jp items.size 0 lo)).take (Jp items.size items.size hi-Jp items.size 0 lo)).toArray.size<=sizeLine
  rw[du,Gg,List.length_drop,qe];omega
 have hj:Jp items.size items.size hi<=items.size:=axx _ _ (bc _) hi
 obtain⟨os,hos,hcs,hds⟩:=id hs;have hTs:s.TypeIs (.ref sl) "slice" := ⟨os,hos,hcs⟩;unfold getItem
 try with_reducible refine gm ?_
 first|refine aa (aj ?_)|skip
 refine aa (wpAny_sequenceKey ht.typeIs (by decide) ?_);refine aa (jn (name:=Str.ofString "__getitem__") ht.typeIs w5
  (il w5 ht.typeIs entry_tuple_getitem ?_ (args_tuple_getitem _ _)))
 show wpAny _ _ (Builtin.Tuple.tupleItemsOf (.ref t) >>= _) _ _ s;refine aa (tupleItemsOf_ ht ?_);refine aa (o7 hTs ?_);rw[cu (by decide)];refine aa (Vd hs pl pu ?_);have hno:¬((((Jp items.size 0 lo:Nat):Int)==0&&(1:Int)==1&&(Jp items.size items.size hi-Jp items.size 0 lo)==items.size)=true):=by intro q;rw[aq,aq] at q;have q1:((Jp items.size 0 lo:Nat):Int)=0:=eq_of_beq q.1.1;have q2:Jp items.size items.size hi-Jp items.size 0 lo=items.size:=eq_of_beq q.2;exact hw ⟨D_ q1,u_ hj (a_ (g_ q2) C_)⟩
 show wpAny _ _ (if(((Jp items.size 0 lo:Nat):Int)==0&&(1:Int)==1&&(Jp items.size items.size hi-Jp items.size 0 lo)==items.size)=true then _ else _) _ _ s;rw[bz hno,al2]
 first
  |exact aa (m:=Builtin.Tuple.tupleExact _) (jb (aj ⟨_,rfl,aj h⟩) ahg)
  |exact aa (m:=Builtin.Tuple.tupleExact _) (jb (aa (aj (aj ⟨_,rfl,aj h⟩))) ahg)
  |exact aa (aa (m:=Builtin.Tuple.tupleExact _) (jb (aj (aj ⟨_,rfl,aj h⟩)) ahg))
  |exact aa (aa (m:=Builtin.Tuple.tupleExact _) (jb (aj ⟨_,rfl,aj h⟩) ahg))
end
end HT
namespace L2
open PySem PySem.Spec PyProof.Rows
abbrev TO:=St->Hp->(Option Int->Hp->Prop)->Prop
def PO(X:Cx)(e:Option Expr)(t:TO):Prop :=
 ∀(pins:List (Addr×Obj))(s:Shared)(σ:St)(H:Hp)(Q:Option Int->Hp->Prop),Inv X pins σ H s->t σ H Q ->
  wpAny (model X.prog X.w) X.A (evalPart e X.env) (λu s'=>∃o H',Inv X pins σ H' s'/\IsPart u o/\Q o H') X.xe s
def arb:TO:=λ_ H Q=>Q none H
def a2a(t:TE):TO:=fun σ H Q=>t σ H λx H1=>∃i,x=.int i/\Q (some i) H1
section
variable{X:Cx}{e:Expr}{te:TE}{lo hi:Option Expr}{tl th:TO}{pos p2:Pos}
theorem arc:PO X none arb:=by intro pins s σ H Q I h;rw[evalPart_none];exact aj ⟨none,H,I,.none,h⟩
theorem ard(h:PE X e te):PO X (some e) (a2a te):=by
 intro pins s σ H Q I hw;rw[evalPart_some];refine Bp (h pins s σ H _ I hw) λu s1 ⟨x,H1,I1,r1,q1⟩=>?_
 obtain⟨i,rfl,q⟩:=q1;obtain⟨t,rfl⟩:=r1;exact⟨some i,H1,I1,.int i t,q⟩
def SlR(X:Cx)(r:V->Option Int->Option Int->Hp->VK->Prop):Prop :=
 ∀(pins:List (Addr×Obj))(s:Shared)(σ:St)(H:Hp)(x:V)(v vl vu:Value)(lo hi:Option Int)(sl:Addr)(Q:VK),Inv X pins σ H s->RelV x v->s.heap.IsSliceOf sl vl vu .none->IsPart vl lo->IsPart vu hi->r x lo hi H Q ->
  ∃T id,typeLookup (.type T) "__getitem__" = pure (some (.builtin id))/\s.TypeIs v T/\wpAny (model X.prog X.w) X.A (getItem v (.ref sl)) (EP X pins σ Q) X.xe s
theorem SlR.or(h:SlR X r)(h':SlR X r'):SlR X (λx lo hi H Q=>r x lo hi H Q\/r' x lo hi H Q):=by
 intro pins s σ H x v vl vu lo hi sl Q I rx hs pl pu q;rcases q with q|q
 . exact h pins s σ H x v vl vu lo hi sl Q I rx hs pl pu q
 . exact h' pins s σ H x v vl vu lo hi sl Q I rx hs pl pu q
def tSl(r:V->Option Int->Option Int->Hp->VK->Prop)(te:TE)(tl th:TO):TE:=fun σ H Q=>te σ H λx H1=>tl σ H1 λl H2=>th σ H2 λu H3=>r x l u H3 Q
theorem al3(hr:SlR X r)(he:PE X e te)(hl:PO X lo tl)(hu:PO X hi th):PE X (.Subscript e (.Slice lo hi none p2) pos) (tSl r te tl th):=by
 intro pins s σ H Q I h;refine Subscript_ (Bp (he pins s σ H _ I h) λv s1 ⟨x,H1,I1,r1,q1⟩=>?_);refine wpAny_Slice (Bp (hl pins s1 σ H1 _ I1 q1) λvl s2 ⟨l,H2,I2,pl,q2⟩=>Bp (hu pins s2 σ H2 _ I2 q2) λvu s3 ⟨u,H3,I3,pu,q3⟩=>?_);rw[evalPart_none];refine aj ?_;have I4:Inv X pins σ H3 { s3 with heap:=s3.heap.push { cls:=.type "slice",data:=.fields #[vl,vu,.none] } }:=I3.kept (t':=s3.toks) λb ob q=>ao _ q
 obtain⟨T,id,hT,ht,hg⟩:=hr pins { s3 with heap:=s3.heap.push { cls:=.type "slice",data:=.fields #[vl,vu,.none] } } σ H3 x v vl vu l u s3.heap.objs.size Q I4 r1 (Heap.IsSliceOf.new ..) pl pu q3;show wpAny (model X.prog X.w) X.A (subscriptTail e (.Slice lo hi none p2) v (.ref s3.heap.objs.size)) (EP X pins σ Q) X.xe { s3 with heap:=s3.heap.push { cls:=.type "slice",data:=.fields #[vl,vu,.none] } };exact tail_any (ops:=[.ref s3.heap.objs.size,v]) ht hT hg (by with_unfolding_all rfl)
def Ze(xs:List V)(lo hi:Option Int):List V:=(xs.drop (HT.Jp xs.length 0 lo)).take (HT.Jp xs.length xs.length hi-HT.Jp xs.length 0 lo)
theorem V7(xs:List V)(lo hi:Option Int):(Ze xs lo hi).length<=xs.length:=by
 unfold Ze;rw[Gg,List.length_drop]
 lia
def a8u(K:Fg):V->Option Int->Option Int->Hp->VK->Prop:=λx lo hi H Q=>∃a xs,x=.ref a/\Ml K H a xs /\
 ¬(HT.Jp xs.length 0 lo=0/\HT.Jp xs.length xs.length hi=xs.length)/\∀p,H p=none->Q (.ref p) (upd H p (.tup (Ze xs lo hi)))
theorem axy:SlR X (a8u X.K):=by
 intro pins s σ H x v vl vu lo hi sl Q I rx hs pl pu h;obtain⟨a,xs,rfl,hx,hw,q⟩:=h;cases rx;obtain⟨its,r,ht,hz⟩:=I.tuple hx;have hlen:its.toArray.size=xs.length:=by rw[du];exact r.length.symm
 refine⟨"tuple",_,w5.lookup,ht.typeIs,?_⟩;refine HT.T6 ht hs pl pu (by rw[hlen];exact hw) ?_ (by rw[hlen];exact hz);rw[hlen];refine⟨.ref s.heap.objs.size,_,I.laid (t':=s.toks) (o:=.tup (Ze xs lo hi)) (λb ob q=>ao _ q) (bc _) ?_,rfl,q _ (I.hok.fresh (bc _))⟩;exact⟨ig (V7 xs lo hi) hz,_,(r.drop (HT.Jp xs.length 0 lo)).take (HT.Jp xs.length xs.length hi-HT.Jp xs.length 0 lo),Xg.new _ _⟩
def a2b(K:Fg):R2:=λx y H Q=>∃a b xs ys,x=.ref a/\y=.ref b/\Ml K H a xs/\Ml K H b ys/\xs≠[]/\xs.length+ys.length<=sizeLine /\
 (ys=[]->Q (.ref a) H)/\(ys≠[]->∀p,H p=none->Q (.ref p) (upd H p (.tup (xs++ys))))
theorem Vals.aa8(r:Vals xs us):us=[]↔xs=[]:=by
 cases r with
 |nil=>simp|cons _ _=>simp
theorem arf:Ge X (binaryOp .Add) (a2b X.K):=by intro pins s σ H x y v u Q I rx ry h;obtain⟨a,b,xs,ys,rfl,rfl,ha,hb,hx,hz,q1,q2⟩:=h;cases rx;cases ry;obtain⟨its,r1,p1,_⟩:=I.tuple ha;obtain⟨its2,r2,p2,_⟩:=I.tuple hb;refine HT.ara p1 p2 (λz=>hx (r1.aa8.mp z)) (λz=>⟨.ref a,H,I,rfl,q1 (r2.aa8.mp z)⟩) (λz=>?_) (by rw[<- r1.length,<- r2.length];exact hz);refine⟨.ref s.heap.objs.size,_,I.laid (t':=s.toks) (o:=.tup (xs++ys)) (λb ob q=>ao _ q) (bc _) ?_,rfl,q2 (λw=>z (r2.aa8.mpr w)) _ (I.hok.fresh (bc _))⟩;exact⟨by rw[qx];exact hz,_,r1.append r2,Xg.new _ _⟩
end
end L2
namespace L2
open PySem PySem.Spec PyProof.Rows
def ixN(n:Nat)(i:Int):Option Nat:=if 0<=i then(if i<n then some i.toNat else none) else if -(n:Int)<=i then some (i+n).toNat else none
def atI{α:Type}(xs:List α)(i:Int):Option α:=(ixN xs.length i).bind λj=>xs[j]?
theorem aa9(h:ixN n i=some j):seqIndex? i n=some j/\j<n/\-(n:Int)<=i/\i<n:=by
 unfold ixN at h
 by_cases h0:0<=i
 . rw[cu h0] at h
   by_cases h1:i<n
   . rw[cu h1] at h
     have e:i.toNat=j:=ie h;exact⟨by rw[seqIndex_of h0 h1,e],by lia,by lia,h1⟩
   . rw[bz h1] at h;cases h
 . rw[bz h0] at h
   by_cases h1:-(n:Int)<=i
   . rw[cu h1] at h
     have e:(i+n).toNat=j:=ie h;exact⟨by rw[seqIndex_neg (by lia) h1,e],by lia,h1,by lia⟩
   . rw[bz h1] at h;cases h
theorem ahh{xs:List α}{v:α}(h:atI xs i=some v):∃j,seqIndex? i xs.length=some j/\xs[j]?=some v/\j<xs.length/\-(xs.length:Int)<=i/\i<xs.length:=by
 unfold atI at h;cases e:ixN xs.length i with
 |none=>rw[e] at h;cases h
 |some j =>
  rw[e] at h;obtain⟨h1,h2,h3,h4⟩:=aa9 e;exact⟨j,h1,h,h2,h3,h4⟩
def aba(b:Expr):Prop:=∀o i,subscripted b false o i=operate [o,i] (getItem o i)
def IxR(X:Cx)(r:R2):Prop :=
 ∀(value slice:Expr)(pins:List (Addr×Obj))(s:Shared)(σ:St)(H:Hp)(x y:V)(v u:Value)(Q:VK),Inv X pins σ H s->RelV x v->RelV y u->r x y H Q ->
  subscripted slice false v u=operate [v,u] (getItem v u)->wpAny (model X.prog X.w) X.A (subscriptTail value slice v u) (EP X pins σ Q) X.xe s
def MtR(X:Cx)(id:String)(r:V->List V->Hp->VK->Prop):Prop :=
 ∀(pins:List (Addr×Obj))(s:Shared)(σ:St)(H:Hp)(x:V)(xs:List V)(v:Value)(us:List Value)(Q:VK),Inv X pins σ H s->RelV x v->Vals xs us->r x xs H Q ->
  wpAny (model X.prog X.w) X.A (call (.builtin id) (v::us)) (EP X pins σ Q) X.xe s
section
variable{X:Cx}{a b:Expr}{ta tb:TE}{pos:Pos}
theorem a2d(hr:IxR X r)(ha:PE X a ta)(hb:PE X b tb)(hs:aba b):PE X (.Subscript a b pos) (tOp r ta tb):=by intro pins s σ H Q I h;exact Subscript_ (axj ha hb I h λv u s2 x y H2 I2 rx ry q=>hr a b pins s2 σ H2 x y v u Q I2 rx ry q (hs _ _))
def a8v(K:Fg):R2:=λx y H Q=>∃p xs i v,x=.ref p/\y=.int i/\Jv K H p xs/\atI xs i=some v/\Q v H
def a8w(K:Fg):R2:=λx y H Q=>∃p xs i v,x=.ref p/\y=.int i/\Ml K H p xs/\atI xs i=some v/\Q v H
theorem Fq:IxR X (a8v X.K):=by
 intro value slice pins s σ H x y v u Q I rx ry h hs;obtain⟨p,xs,i,z,rfl,rfl,hq,he,q⟩:=h;cases rx;obtain⟨t,rfl⟩:=ry;obtain⟨its,r,pl,hz⟩:=I.list hq;obtain⟨j,h1,h2,h3,h4,h5⟩:=ahh he;obtain⟨w,ew,rw'⟩:=r.get h2;have hl:=r.length;have hn:=aa7;have fin:EP X pins σ Q w s:=⟨z,H,I,rw',q⟩
 by_cases h0:0<=i
 . have hj:i.toNat=j:=by
    rw[seqIndex_of h0 h5] at h1;exact ie h1
   exact item_listR pl.isList h0 (by lia) (by rw[hj];simpa using ew) fin hs
 . have hj:(i+(its.toArray.size:Int)).toNat=j:=by
    rw[seqIndex_neg (by lia) h4] at h1;rw[du,<- hl];exact ie h1
   exact subscriptTail_builtinR (x:=w) pl.isList.typeIs slot_list_getitem.lookup
    (wpAny_getItem_list_neg (Q:=λr s'=>r=w/\EP X pins σ Q r s') pl.isList (by lia) (by rw[du]<;>lia) (by lia) (by rw[hj];simpa using ew) ⟨rfl,fin⟩) hs
theorem N7:IxR X (a8w X.K):=by
 intro value slice pins s σ H x y v u Q I rx ry h hs;obtain⟨p,xs,i,z,rfl,rfl,hq,he,q⟩:=h;cases rx;obtain⟨t,rfl⟩:=ry;obtain⟨its,r,pl,hz⟩:=I.tuple hq;obtain⟨j,h1,h2,h3,h4,h5⟩:=ahh he;obtain⟨w,ew,rw'⟩:=r.get h2;have hl:=r.length;have hn:=aa7;have fin:EP X pins σ Q w s:=⟨z,H,I,rw',q⟩;exact subscriptTail_builtinR (x:=w) pl.typeIs slot_tuple_getitem.lookup
  (getItem_tuple (j:=j) (Q:=λr s'=>r=w/\EP X pins σ Q r s') pl (by lia) (by lia) (by rw[du,<- hl];exact h1) (by simpa using ew) ⟨rfl,fin⟩) hs
theorem af2(its:List Value)(n j:Nat)(u:Value):Obj.mapSeq (·.setIfInBounds j u) { cls:=.type "list",data:=.seq its.toArray n }={ cls:=.type "list",data:=.seq (its.set j u).toArray n }:=by simp[Obj.mapSeq]
theorem Inv.lst{pins:List (Addr×Obj)}{σ:St}{H:Hp}{s:Shared}{p:Addr}{xs:List V}(I:Inv X pins σ H s)(h:H p=some (.lst xs)) :
 ∃(its:List Value)(n:Nat),Vals xs its/\s.heap.get? p=some { cls:=.type "list",data:=.seq its.toArray n }/\xs.length<=sizeLine:=by
 obtain⟨z,its,n,r,e⟩:=I.hok p _ h;exact⟨its,n,r,e,z⟩
theorem Inv.ax0{its:List Value}(I:Inv X pins σ H s)(h:H p=some (.lst xs))(ho:s.heap.get? p=some { cls:=.type "list",data:=.seq its.toArray n })(hf:f { cls:=.type "list",data:=.seq its.toArray n }={ cls:=.type "list",data:=.seq its'.toArray n' })(r:Vals ys its')(hz:ys.length<=sizeLine)(t:Nat) :
 Inv X pins σ (upd H p (.lst ys)) { s with heap:=s.heap.update p f,toks:=t }:=by
 have e:(s.heap.update p f).get? p=some { cls:=.type "list",data:=.seq its'.toArray n' }:=by rw[mj f ho (by rw[hf]<;>rfl),hf]
 refine I.write (x:=p) (e:=p) (by rw[h];trivial) (.inl rfl) (λb u hb q=>(qw _ _ (jz hb)).trans q) ⟨_,e⟩ ?_;exact⟨hz,its',n',r,e⟩
def a2e:V->V->V->Hp->(Hp->Prop)->Prop:=λo i v H Q=>∃p xs k j,o=.ref p/\i=.int k/\H p=some (.lst xs)/\ixN xs.length k=some j/\Q (upd H p (.lst (xs.set j v)))
theorem set_list:axc X a2e:=by
 intro pins s σ H o i v ov iv u Q I ro ri rv h;obtain⟨p,xs,k,j,rfl,rfl,hp,hj,q⟩:=h;cases ro;obtain⟨t,rfl⟩:=ri;obtain⟨its,n,r,ho,hz⟩:=I.lst hp;obtain⟨h1,h2,h3,h4⟩:=aa9 hj;have hl:=r.length;have hn:=aa7;have I':Inv X pins σ (upd H p (.lst (xs.set j v))) { s with heap:=s.heap.update p (Obj.mapSeq (·.setIfInBounds j u)) } :=
  I.ax0 hp ho (af2 its n j u) (r.set rv j) (by rw[G5];exact hz) s.toks
 by_cases h0:0<=k
 . have hk:k.toNat=j:=by
    rw[seqIndex_of h0 h4] at h1;exact ie h1
   exact PySem.W.ki_setAt ho h0 (by lia) (by rw[du,<- hl];exact h4) (by rw[hk];exact⟨_,I',q⟩)
 . have hk:(k+(its.toArray.size:Int)).toNat=j:=by
    rw[seqIndex_neg (by lia) h3] at h1;rw[du,<- hl];exact ie h1
   exact PySem.W.ki_setBack ho (by lia) (by rw[du,<- hl];exact h3) (by lia) (by rw[hk];exact⟨_,I',q⟩)
theorem abb(lo hi:Option Int)(n:Nat):(sliceBounds lo hi none n).1=((HT.Jp n 0 lo:Nat):Int)/\(sliceBounds lo hi none n).2.1=((HT.Jp n n hi:Nat):Int)/\(sliceBounds lo hi none n).2.2=1:=by
 refine⟨?_,?_,rfl⟩
 . cases lo with
   |none=>simp[sliceBounds,HT.Jp]
   |some i =>
    simp only[sliceBounds,HT.Jp,Option.getD_none,show(1:Int) > 0 by decide,jq]
    by_cases h:i<0
    . simp only[h,jq]<;>lia
    . simp only[h,jf]<;>lia
 . cases hi with
   |none=>simp[sliceBounds,HT.Jp]
   |some i =>
    simp only[sliceBounds,HT.Jp,Option.getD_none,show(1:Int) > 0 by decide,jq]
    by_cases h:i<0
    . simp only[h,jq]<;>lia
    . simp only[h,jf]<;>lia
theorem Zf(its:List Value)(lo hi:Option Int):slicePick its.toArray lo hi none=((its.drop (HT.Jp its.length 0 lo)).take (HT.Jp its.length its.length hi-HT.Jp its.length 0 lo)).toArray:=by obtain⟨h1,h2,h3⟩:=abb lo hi its.toArray.size;unfold slicePick;rw[h1,h2,h3];simp only[sliceRange_one,pick_run,du]<;>rfl
def a2f(K:Fg):V->Option Int->Option Int->Hp->VK->Prop:=λx lo hi H Q=>∃a xs,x=.ref a/\Jv K H a xs/\∀p,H p=none->Q (.ref p) (upd H p (.lst (Ze xs lo hi)))
theorem arh:SlR X (a2f X.K):=by intro pins s σ H x v vl vu lo hi sl Q I rx hs pl pu h;obtain⟨a,xs,rfl,hx,q⟩:=h;cases rx;obtain⟨its,r,ht,hz⟩:=I.list hx;have hlen:=r.length;refine⟨"list",_,slot_list_getitem.lookup,ht.isList.typeIs,?_⟩;refine wpAny_getItem_list_slice ht.isList hs pl pu .none (by simp) ?_ (by rw[du]<;>exact a_ (g_ hlen) hz);rw[Zf,<- hlen];refine⟨.ref s.heap.objs.size,_,I.laid (t':=s.toks) (o:=.lst (Ze xs lo hi)) (λb ob q=>ao _ q) (bc _) ?_,rfl,q _ (I.hok.fresh (bc _))⟩;exact⟨ig (V7 xs lo hi) hz,_,0,(r.drop (HT.Jp xs.length 0 lo)).take (HT.Jp xs.length xs.length hi-HT.Jp xs.length 0 lo),bf _ rfl⟩
theorem abd:Dc X (.builtin "len") (λxs H Q=>∃p ys,xs=[.ref p]/\(Jv X.K H p ys\/Ml X.K H p ys)/\Q (.int ys.length) H):=by
 intro pins s σ H xs us Q I r h;obtain⟨p,ys,rfl,hq,q⟩:=h;obtain⟨u,rfl,rx⟩:=vals1 r;cases rx;have hn:=aa7;rcases hq with hq|hq
 . obtain⟨its,r',pl,hz⟩:=I.list hq
   have hlen:=r'.length;exact Calls.call_len_list pl.isList (by simp only[du]<;>lia) ⟨.int ys.length,H,I.tok _,⟨s.toks+1,by rw[du,hlen]⟩,q⟩
 . obtain⟨its,r',pl,hz⟩:=I.tuple hq
   have hlen:=r'.length;exact len_tuple pl (by simp only[du]<;>lia) ⟨.int ys.length,H,I.tok _,⟨s.toks+1,by rw[du,hlen]⟩,q⟩
theorem abe:Dc X (.type "list") (λxs H Q=>∃p ys,xs=[.ref p]/\(Jv X.K H p ys\/Ml X.K H p ys)/\∀l,H l=none->Q (.ref l) (upd H l (.lst ys))):=by
 intro pins s σ H xs us Q I r h;obtain⟨p,ys,rfl,hq,q⟩:=h;obtain⟨u,rfl,rx⟩:=vals1 r;cases rx;have fin:∀(its:List Value),Vals ys its->ys.length<=sizeLine->∀(h':Heap)(c':Nat),(∀b o',s.heap.get? b=some o'->h'.get? b=some o') ->
  h'.get? s.heap.objs.size=some { cls:=.type "list",dict:=none,data:=.seq its.toArray c',slots:=#[] }->EP X pins σ Q (.ref s.heap.objs.size) { s with heap:=h' }:=λits r' hz h' c' kp e =>
  ⟨.ref s.heap.objs.size,_,I.laid (t':=s.toks) kp (bc _) (show zx X.prog X.w _ h' _ (.lst ys) from⟨hz,its,c',r',e⟩),rfl,q _ (I.hok.fresh (bc _))⟩
 rcases hq with hq|hq
 . obtain⟨its,r',pl,hz⟩:=I.list hq
   have hlen:=r'.length;obtain⟨o,ho,hc,n,hd⟩:=pl.isList;exact call_list_seq p (.inl rfl) ho hc hd (λh' c' kp e=>fin its r' hz h' c' kp e) (by simp only[du]<;>exact a_ (g_ hlen) hz)
 . obtain⟨its,r',pl,hz⟩:=I.tuple hq
   have hlen:=r'.length;obtain⟨o,ho,hc,n,hd⟩:=pl;exact call_list_seq p (.inr rfl) ho hc hd (λh' c' kp e=>fin its r' hz h' c' kp e) (by simp only[du]<;>exact a_ (g_ hlen) hz)
theorem Zg:Dc X (.type "tuple") (λxs H Q=>∃p ys,xs=[.ref p]/\((Jv X.K H p ys/\∀l,H l=none->Q (.ref l) (upd H l (.tup ys)))\/(Ml X.K H p ys/\Q (.ref p) H))):=by
 intro pins s σ H xs us Q I r h;obtain⟨p,ys,rfl,h⟩:=h;obtain⟨u,rfl,rx⟩:=vals1 r;cases rx;rcases h with⟨hq,q⟩|⟨hq,q⟩
 . obtain⟨its,r',pl,hz⟩:=I.list hq
   have hlen:=r'.length;refine call_tuple_list pl.isList (λh' kp=>?_) (by simp only[du]<;>exact a_ (g_ hlen) hz);have I1:Inv X pins σ H { s with heap:=h' }:=I.kept (t':=s.toks) kp;have I2:Inv X pins σ (upd H h'.objs.size (.tup ys)) { s with heap:=h'.push { cls:=.type "tuple",data:=.seq its.toArray } } :=
    I1.laid (t':=s.toks) (λb o e=>ao _ e) (bc _) (show zx X.prog X.w _ _ _ (.tup ys) from⟨hz,its,r',Xg.new _ _⟩)
   exact⟨.ref h'.objs.size,_,I2,rfl,q _ (I1.hok.fresh (bc _))⟩
 . obtain⟨its,r',pl,hz⟩:=I.tuple hq
   exact call_tuple_same pl ⟨.ref p,H,I,rfl,q⟩
def tyV(K:Fg)(T:String)(x:V)(H:Hp):Prop:=match x with
 |.str _=>T = "str"|.int _=>T = "int"
 |.ref p=>(T = "list"/\∃xs,Jv K H p xs)\/(T = "tuple"/\∃o,K.lookup p=some o/\o.cls=.type "tuple"/\o.dict=none) \/
  (T = "dict"/\((∃kvs,H p=some (.dK kvs))\/∃kvs,H p=some (.dT kvs)))\/(T = "set"/\∃S n,H p=some (.set S n))
 |_=>False
theorem ax1(I:Inv X pins σ H s)(r:RelV x v)(ty:tyV X.K T x H) :
 s.TypeIs v T/\∀a,v=.ref a->∃ob,s.heap.get? a=some ob/\ob.dict=none:=by
 cases x with
 |str z =>
  obtain⟨t,rfl⟩:=r;cases(show T = "str" from ty);exact⟨typeIs_str s z t,λ_ e=>nomatch e⟩
 |int i =>
  obtain⟨t,rfl⟩:=r;cases(show T = "int" from ty);exact⟨typeIs_int s i t,λ_ e=>nomatch e⟩
 |ref p =>
  cases r;rcases ty with⟨rfl,xs,hq⟩|⟨rfl,o,hk,hc,hd⟩|⟨rfl,hk⟩|⟨rfl,S,n,hk⟩
  . obtain⟨its,_,pl,_⟩:=I.list hq
    refine⟨pl.isList.typeIs,λa e=>?_⟩;cases e;obtain⟨o,n,e,c,hd,_⟩:=pl;exact⟨o,e,hd⟩
  . refine⟨⟨o,I.Wt p o hk,hc⟩,λa e=>?_⟩
    cases e;exact⟨o,I.Wt _ o hk,hd⟩
  . have z:∃o,s.heap.get? p=some o/\o.ExactDict:=by
     rcases hk with⟨kvs,hk⟩|⟨kvs,hk⟩
     . obtain⟨_,_,_,_,o,_,_,e,ex,_⟩:=I.hok p _ hk
       exact⟨o,e,ex⟩
     . obtain⟨_,_,_,_,o,_,_,e,ex,_⟩:=I.hok p _ hk
       exact⟨o,e,ex⟩
    obtain⟨o,e,ex⟩:=z;refine⟨⟨o,e,ex.1⟩,λa e2=>?_⟩;cases e2;exact⟨o,e,ex.2.1⟩
  . obtain⟨o,_,_,_,e,ex,_⟩:=I.hok p _ hk
    refine⟨⟨o,e,ex.1⟩,λa e2=>?_⟩;cases e2;exact⟨o,e,ex.2.1⟩
 |_=>exact False.elim ty
def tBM(K:Fg)(T:String)(r:V->List V->Hp->VK->Prop)(to:TE)(t:TA):TE:=fun σ H Q=>to σ H λx H1=>tyV K T x H1/\t σ H1 λxs H2=>r x xs H2 Q
variable{o e:Expr}{es:List Expr}{to:TE}{t:TA}{name:Str}{apos cpos:Pos}{T id:String}{r:V->List V->Hp->VK->Prop}
theorem a2g(pa:PlainAttrs T)(slot:Slot T name id)(hty:typeOf (.builtin id)=pure (.type "method_descriptor"))(hm:MtR X id r)(ho:PE X o to)(ha:PA X (e::es) t)
 (hbase:attributeBase o name X.env (eval o X.env)=eval o X.env:=by rfl)
 (hfew:((backTo cpos (starEach (e::es) X.env)).all (λx=>!x.1)&&(backToKw cpos (keywordEach [] X.env)).all (λx=>x.1.isSome)
 &&decide ((e::es).length+([]:List Keyword).length+(if([]:List Keyword).isEmpty then 0 else 1)<30))=true:=by rfl)
 (hline:(apos.endLine==cpos.line)=true:=by rfl) (hs:starEach (e::es) X.env=(false,eval e X.env)::starEach es X.env:=by rfl) (hplain:(backTo cpos (starEach es X.env)).any (·.1)=false:=by rfl) :
 PE X (.Call (.Attribute o name apos) (e::es) [] cpos) (tBM X.K T r to t):=by
 intro pins s σ H Q I h;refine wpAny_Call_method_late hbase hfew hline rfl (Bp (ho pins s σ H _ I h) λv s1 ⟨x,H1,I1,r1,ty,q1⟩=>?_);obtain⟨h1,h2⟩:=ax1 I1 r1 ty;refine⟨T,id,pa,slot,hty,h1,h2,?_⟩;have hA:=ha cpos pins s1 σ H1 _ I1 q1;rw[hs] at hA ⊢;refine Calls.callWith_builtin (by show(false||(backTo cpos (starEach es X.env)).any (·.1))=false;rw[hplain]<;>rfl) (Calls.evalArgs_plain ?_);exact Bp hA λus s2 ⟨vs,H2,I2,r2,q2⟩=>hm pins s2 σ H2 x vs v us Q I2 r1 r2 q2
end
end L2
namespace L2
open PySem PySem.Spec PyProof.Rows
def MtM(X:Cx)(id:String)(r:V->List V->Hp->VK->Prop):Prop :=
 ∀(pins:List (Addr×Obj))(s:Shared)(σ:St)(H:Hp)(x:V)(xs:List V)(v:Value)(us:List Value)(Q:VK),Inv X pins σ H s->RelV x v->Vals xs us->r x xs H Q ->
  wpAny (model X.prog X.w) X.A (call (.builtin id) (v::us)) (EP X pins σ Q) X.xe s
theorem Vals.one:∀{x:V}{us:List Value},Vals [x] us->∃u,us=[u]/\RelV x u
 |_,_,.cons r .nil=>⟨_,rfl,r⟩
theorem Vals.eraseIdx:∀{xs:List V}{us:List Value}(i:Nat),Vals xs us->Vals (xs.eraseIdx i) (us.eraseIdx i)
 |_,_,_,.nil=>.nil|_,_,0,.cons _ t=>t|_,_,i+1,.cons r t=>.cons r (Vals.eraseIdx i t)
theorem Zw{α:Type}:∀(l:List α)(i:Nat),(l.eraseIdx i).length<=l.length
 |[],_=>bc _|_::_,0=>qj _|_::r,i+1=>Nat.succ_le_succ (Zw r i)
section
variable{X:Cx}{pins:List (Addr×Obj)}{σ:St}{H:Hp}{s:Shared}{l b:Addr}{xs ys zs:List V}
theorem Inv.a2h{its:List Value}(I:Inv X pins σ H s)(hH:H l=some (.lst xs))(e:s.heap.get? l=some { cls:=.type "list",data:=.seq its.toArray n })(hf:f its.toArray=its'.toArray)(hv:Vals ys its')(hz:ys.length<=sizeLine) :
 Inv X pins σ (upd H l (.lst ys)) { s with heap:=s.heap.update l (Obj.mapSeq f),toks:=t' }:=by
 have q:=PySem.IsL.update e f;rw[hf] at q;refine I.write (x:=l) (e:=l) (by rw[hH];exact trivial) (.inl rfl) (λb' u hb hu=>(qw s.heap (Obj.mapSeq f) (jz hb)).trans hu) ⟨_,q⟩ ?_;exact⟨hz,its',_,hv,q⟩
theorem Inv.a8x(I:Inv X pins σ H s)(hv:Vals ys its)(hz:ys.length<=sizeLine) :
 Inv X pins σ (upd H s.heap.objs.size (.lst ys)) { s with heap:=s.heap.push { cls:=.type "list",data:=.seq its.toArray },toks:=t' } :=
 I.laid (λ_ _ q=>ao _ q) (bc _) ⟨hz,its,0,hv,bf _ rfl⟩
theorem Inv.fresh(I:Inv X pins σ H s):H s.heap.objs.size=none:=I.hok.fresh (bc _)
theorem Inv.ajk(I:Inv X pins σ H s)(hH:H l=some (.lst xs)):xs.length<=sizeLine/\∃(its:List Value)(n:Nat),Vals xs its/\xs.length=its.length/\s.heap.get? l=some { cls:=.type "list",data:=.seq its.toArray n }:=by obtain⟨z,its,n,r,e⟩:=I.hok l _ hH;exact⟨z,its,n,r,r.length,e⟩
end
section
variable{X:Cx}
def ari:V->List V->Hp->VK->Prop:=λx vs H Q=>∃l xs y,x=.ref l/\vs=[y]/\H l=some (.lst xs)/\xs.length<sizeLine/\Q .non (upd H l (.lst (xs++[y])))
theorem Zx:MtM X "list.append" ari:=by intro pins s σ H x vs v us Q I rx rv h;obtain⟨l,xs,y,rfl,rfl,hH,hz,q⟩:=h;cases rx;obtain⟨u,rfl,ru⟩:=rv.one;obtain⟨z,its,n,r,hl,e⟩:=I.ajk hH;refine call_meets Eo ⟨_,e,rfl⟩ F.entry_list_append (F.args_list_append_2 _ _) (PySem.list_append l its.toArray n u (by rw[du];exact e_ (c_ (g_ hl) hz))) ⟨e,?_⟩;refine⟨.non,_,I.a2h (its':=its++[u]) hH e (by simp) (r.append (.cons ru .nil)) ?_,rfl,q⟩;rw[qx,List.length_singleton];exact hz
def ax2:V->List V->Hp->VK->Prop:=λx vs H Q=>∃l xs i k y,x=.ref l/\vs=[.int i]/\H l=some (.lst xs)/\-(2 ^ 63)<=i/\i<2 ^ 63/\seqIndex? i xs.length=some k/\xs[k]?=some y/\Q y (upd H l (.lst (xs.eraseIdx k)))
theorem al4:MtM X "list.pop" ax2:=by
 intro pins s σ H x vs v us Q I rx rv h;obtain⟨l,xs,i,k,y,rfl,rfl,hH,h1,h2,hk,hy,q⟩:=h;cases rx;obtain⟨u,rfl,ru⟩:=rv.one;obtain⟨t,rfl⟩:=ru;obtain⟨z,its,n,r,hl,e⟩:=I.ajk hH;obtain⟨w,hw,rw'⟩:=r.get hy;refine call_meets F.slot_list_pop ⟨_,e,rfl⟩ F.entry_list_pop (F.args_list_pop_2 _ _)
  (MeetsSeq.list_pop_at l its.toArray n i t k w (fitsIndex_both h1 h2) (by rw[du,<- hl];exact hk) (by rw[<- lg];exact hw) (by rw[du];exact a_ (g_ hl) z)) ⟨e,?_⟩
 refine⟨y,_,I.a2h (its':=its.eraseIdx k) hH e ?_ (r.eraseIdx k) ?_,rw',q⟩
 . show its.toArray.eraseIdxIfInBounds k=(its.eraseIdx k).toArray
   rw[List.eraseIdxIfInBounds_toArray]
 . have:=Zw xs k
   exact a_ this z
def a2i:R2:=λx y H Q=>∃l b xs zs,x=.ref l/\y=.ref b/\H l=some (.lst xs)/\H b=some (.lst zs)/\xs.length+zs.length<=sizeLine/\∀p,H p=none->Q (.ref p) (upd H p (.lst (xs++zs)))
theorem al5:Ge X (binaryOp .Add) a2i:=by
 intro pins s σ H x y v u Q I rx ry h;obtain⟨l,b,xs,zs,rfl,rfl,hH,hB,hz,q⟩:=h;cases rx;cases ry;obtain⟨z,its,n,r,hl,e⟩:=I.ajk hH;obtain⟨z2,its2,n2,r2,hl2,e2⟩:=I.ajk hB;refine PySem.P.add_list e e2 ?_ (by rw[du,du];lia);have ea:its.toArray++its2.toArray=(its++its2).toArray:=by simp
 rw[ea];exact⟨.ref _,_,I.a8x (t':=s.toks) (r.append r2) (by rw[qx];exact hz),rfl,q _ I.fresh⟩
end
end L2
namespace L2
open PySem PySem.Spec PyProof.Rows
section
variable{κ:Type}[DecidableEq κ]
def T7(kvs:List (κ×V))(k:κ):Option V:=(kvs.find? λkv=>decide (kv.1=k)).map (·.2)
def putK(kvs:List (κ×V))(k:κ)(v:V):List (κ×V) :=
 if(kvs.any λkv=>decide (kv.1=k))=true then kvs.map (λkv=>if kv.1=k then(kv.1,v) else kv) else kvs++[(k,v)]
theorem T8{p:κ×V}(e:p.1=k):T7 (p::r) k=some p.2:=by simp[T7,t7,e]
theorem T9{p:κ×V}(e:¬p.1=k):T7 (p::r) k=T7 r k:=by simp[T7,t7,e]
theorem adk(k:κ):∀kvs:List (κ×V),(kvs.any λkv=>decide (kv.1=k))=(T7 kvs k).isSome
 |[]=>rfl
 |p::r=>by
  rw[Cr]
  by_cases e:p.1=k
  . simp only[T8 e,Er e,Bool.true_or,Option.isSome_some]
  . rw[T9 e,yx e,Bool.false_or];exact adk k r
theorem V8(kvs:List (κ×V))(k:κ)(v:V):(putK kvs k v).length<=kvs.length+1:=by
 unfold putK;split
 . rw[fc];exact x_
 . rw[qx,gf,Dh];exact bc _
theorem Pq.Kp(r:Pq o u):o.isSome=u.isSome:=by
 cases o with
 |none=>cases u with
  |none=>rfl|some _=>exact(show False from r).elim
 |some _=>cases u with
  |none=>exact(show False from r).elim
  |some _=>rfl
theorem Pq.getD(r:Pq o u)(rd:RelV d d'):RelV (o.getD d) (u.getD d'):=by
 cases o with
 |none=>cases u with
  |none=>exact rd|some _=>exact(show False from r).elim
 |some _=>cases u with
  |none=>exact(show False from r).elim
  |some _=>exact r
theorem KV.val(r:KV kvs vs)(k:κ):Pq (T7 kvs k) (valueAt vs k):=by
 unfold KV at r
 induction r with
 |nil=>exact True.intro
 |@cons p q ps qs h t ih =>
  obtain⟨h1,h2⟩:=h
  by_cases e:p.1=k
  . have e':q.1=k:=h1.symm.trans e
    have b:valueAt (q::qs) k=some q.2:=by simp[valueAt,t7,e']
    rw[T8 e,b];exact h2
  . have e':¬q.1=k:=λz=>e (h1.trans z)
    have b:valueAt (q::qs) k=valueAt qs k:=by simp[valueAt,t7,e']
    rw[T9 e,b];exact ih
theorem KV.any(r:KV kvs vs)(k:κ):(kvs.any λkv=>decide (kv.1=k))=vs.any λkv=>decide (kv.1=k):=by
 unfold KV at r
 induction r with
 |nil=>rfl|cons h t ih=>rw[Cr,Cr,ih,h.1]
theorem KV.repl(r:KV kvs vs)(k:κ)(ry:RelV y u) :
 KV (kvs.map λkv=>if kv.1=k then(kv.1,y) else kv) (vs.map λkv=>if kv.1=k then(kv.1,u) else kv):=by
 unfold KV at r ⊢
 induction r with
 |nil=>exact .nil
 |@cons p q ps qs h t ih =>
  rw[gq,gq];refine .cons ?_ ih;obtain⟨h1,h2⟩:=h
  by_cases e:p.1=k
  . rw[cu e,cu (h1.symm.trans e)];exact⟨h1,ry⟩
  . rw[bz e,bz (λz=>e (h1.trans z))];exact⟨h1,h2⟩
theorem KV.put(r:KV kvs vs)(k:κ)(ry:RelV y u):KV (putK kvs k y) (stored vs k u):=by
 unfold putK stored;rw[r.any k]
 by_cases e:(vs.any λkv=>decide (kv.1=k))=true
 . rw[cu e,cu e];exact r.repl k ry
 . rw[bz e,bz e];exact Paired.snoc r ⟨rfl,ry⟩
theorem KV.length{kvs:List (κ×V)}{vs:List (κ×Value)}(r:KV kvs vs):kvs.length=vs.length:=Paired.length r
end
theorem Zy(r:RelV (kV k) u):(iu P w).is k u=true:=by
 cases k with
 |inl i=>obtain⟨t,e⟩:=(show ∃t,u=Value.int i t from r);subst e;exact ac9 P w i t
 |inr x=>obtain⟨t,e⟩:=(show ∃t,u=Value.str x t from r);subst e;exact ada P w x t
theorem Zz{P:Program}{w:World}:∀{ks:List Key}{us:List Value},Vals (ks.map kV) us->ItemsAre (iu P w) ks us
 |[],_,r=>by rw[Jq] at r;cases r;exact .nil
 |k::ks,_,r=>by
  rw[gq] at r;cases r with
  |cons h t=>exact .cons (Zy h) (Zz t)
abbrev KT(H:Hp):List (List Key×V)->List (List Key×Addr×Value)->Prop:=Paired λp q=>p.1=q.1/\H q.2.1=some (.tup (p.1.map kV))/\RelV p.2 q.2.2
theorem KT.val(r:KT H kvs xs)(k:List Key):Pq (T7 kvs k) ((atKey xs k).map (·.2)):=by
 induction r with
 |nil=>exact True.intro
 |@cons p q ps qs h t ih =>
  obtain⟨h1,_,h2⟩:=h
  by_cases e:p.1=k
  . have e':q.1=k:=h1.symm.trans e
    have b:atKey (q::qs) k=some q.2:=by simp[atKey,t7,e']
    rw[T8 e,b];exact h2
  . have e':¬q.1=k:=λz=>e (h1.trans z)
    have b:atKey (q::qs) k=atKey qs k:=by simp[atKey,t7,e']
    rw[T9 e,b];exact ih
theorem KT.repl(r:KT H kvs xs)(k:List Key)(ry:RelV y u) :
 KT H (kvs.map λkv=>if kv.1=k then(kv.1,y) else kv) (xs.map (putAt k u)):=by
 induction r with
 |nil=>exact .nil
 |@cons p q ps qs h t ih =>
  rw[gq,gq];refine .cons ?_ ih;obtain⟨h1,h2,h3⟩:=h;unfold putAt
  by_cases e:p.1=k
  . rw[cu e,cu (h1.symm.trans e)];exact⟨h1,h2,ry⟩
  . rw[bz e,bz (λz=>e (h1.trans z))];exact⟨h1,h2,h3⟩
theorem KT.put(r:KT H kvs xs)(k:List Key)(hb:H b=some (.tup (k.map kV)))(ry:RelV y u) :
 KT H (putK kvs k y) (storedH xs k b u):=by
 have e:(kvs.any λkv=>decide (kv.1=k))=(atKey xs k).isSome:=by rw[adk,(r.val k).Kp,Ez]
 unfold putK storedH;rw[e]
 by_cases q:(atKey xs k).isSome=true
 . rw[cu q,cu q];exact r.repl k ry
 . rw[bz q,bz q];exact Paired.snoc r ⟨rfl,hb,ry⟩
theorem KT.keeps(r:KT H kvs xs)(ht:∀b ys,H b=some (.tup ys)->H' b=some (.tup ys)):KT H' kvs xs :=
 Paired.aws r λ_ _ z=>⟨z.1,ht _ _ z.2.1,z.2.2⟩
section
variable{P:Program}{w:World}{H:Hp}{h:Heap}{a:Addr}
theorem avy(ok:Rx P w H h)(e:Rd H a u):zx P w H h a u:=e.ok ok
theorem Xj(ok:Rx P w H h)(e:Rd H a (.dK kvs)):kvs.length<=sizeLine/\(a==sysModules)=false/\∃vs,KV kvs vs/\h.DictOf (iu P w) a vs :=
 show zx P w H h a (.dK kvs) from avy ok e
theorem a2j(ok:Rx P w H h)(e:H a=some (.dK kvs)):kvs.length<=sizeLine/\(a==sysModules)=false/\∃vs,KV kvs vs/\h.DictOf (iu P w) a vs:=Xj ok (.inl e)
theorem Qd(ok:Rx P w H h)(e:H a=some (.tup (ks.map kV))):(tupleKind (iu P w)).is h ks a:=by obtain⟨_,its,r,o,h1,h2,n,h3,_⟩:=(show zx P w H h a (.tup (ks.map kV)) from ok a _ e);exact⟨o,its.toArray,n,h1,h2,h3,by simpa using Zz r⟩
theorem Z0(ok:Rx P w H h)(e:Rd H a (.dT kvs)):kvs.length<=sizeLine/\(a==sysModules)=false /\
 ∃xs,KT H kvs xs/\h.DictOfH (tupleKind (iu P w)) a xs:=by
 obtain⟨z,y,xs,r,o,es,ep,h1,h2,h3,h4,h5⟩:=(show zx P w H h a (.dT kvs) from avy ok e);refine⟨z,y,xs,r,o,es,ep,h1,h2,h3,h4,λx hx=>?_,h5⟩;have all:∀{l:List (List Key×V)}{m:List (List Key×Addr×Value)},KT H l m->∀x∈m,(tupleKind (iu P w)).is h x.1 x.2.1:=by
  intro l m q
  induction q with
  |nil=>intro x hx;exact nomatch hx
  |@cons p q ps qs hq t ih =>
   intro x hx;rcases bw.mp hx with e|hx
   . subst e
     exact Qd ok (by rw[<- hq.1];exact hq.2.1)
   . exact ih x hx
 exact all r x hx
theorem adl(ok:Rx P w H h)(e:H a=some (.dT kvs)):kvs.length<=sizeLine/\(a==sysModules)=false /\
 ∃xs,KT H kvs xs/\h.DictOfH (tupleKind (iu P w)) a xs:=Z0 ok (.inl e)
end
def Pr(H:Hp)(a:Addr)(y:V)(r:Option V):Prop :=
 (∃kvs k,Rd H a (.dK kvs)/\y=kV k/\r=T7 kvs k)\/∃kvs k b,Rd H a (.dT kvs)/\y=.ref b/\H b=some (.tup (k.map kV))/\r=T7 kvs k
def af3(H:Hp)(a:Addr)(y v:V)(H':Hp):Prop :=
 (∃kvs k,H a=some (.dK kvs)/\y=kV k/\kvs.length<sizeLine/\H'=upd H a (.dK (putK kvs k v))) \/
 ∃kvs k b,H a=some (.dT kvs)/\y=.ref b/\H b=some (.tup (k.map kV))/\kvs.length<sizeLine/\H'=upd H a (.dT (putK kvs k v))
theorem Pr.k{k:Key}(e:H a=some (.dK kvs)):Pr H a (kV k) (T7 kvs k):=.inl ⟨kvs,k,.inl e,rfl,rfl⟩
theorem Pr.t{k:List Key}(e:H a=some (.dT kvs))(eb:H b=some (.tup (k.map kV))):Pr H a (.ref b) (T7 kvs k):=.inr ⟨kvs,k,b,.inl e,rfl,eb,rfl⟩
theorem af3.k{k:Key}(e:H a=some (.dK kvs))(hl:kvs.length<sizeLine):af3 H a (kV k) v (upd H a (.dK (putK kvs k v))):=.inl ⟨kvs,k,e,rfl,hl,rfl⟩
theorem af3.t{k:List Key}(e:H a=some (.dT kvs))(eb:H b=some (.tup (k.map kV)))(hl:kvs.length<sizeLine) :
 af3 H a (.ref b) v (upd H a (.dT (putK kvs k v))):=.inr ⟨kvs,k,b,e,rfl,eb,hl,rfl⟩
section
variable{X:Cx}{pins:List (Addr×Obj)}{σ:St}{H:Hp}{s:Shared}{a:Addr}{y v:V}{u r:Value}{o:Option V}{A:Around}{E:Value->Shared->Prop}
theorem Inv.big(I:Inv X pins σ H s):sysModules<s.heap.objs.size:=by
 have h:mainGlobals<s.heap.objs.size:=(I.mod.glob.keeps I.bk).lt
 exact Js (by decide) h
theorem ajl(hu:A.units+1<cLine)(I:Inv X pins σ H s)(g:Pr H a y (some v))(ry:RelV y u)(h:∀w' s',Inv X pins σ H s'->RelV v w'->Q w' s') :
 wpAny (model X.prog X.w) A (getItem (.ref a) u) Q E s:=by
 rcases g with⟨kvs,k,e,ey,l⟩|⟨kvs,k,b,e,ey,eb,l⟩
 . subst ey
   obtain⟨z,hd,vs,rel,dd⟩:=Xj I.hok e;obtain⟨w',hw,rw'⟩:=Pq.some_of (v:=v) (o:=valueAt vs k) (by rw[l];exact rel.val k);exact wpAny_getItem_of (Zy ry) dd.mapOf hw (h w' _ (I.tok _) rw')
 . subst ey
   cases(show u=Value.ref b from ry);obtain⟨z,hd,xs,rel,dd⟩:=Z0 I.hok e;obtain⟨w',hw,rw'⟩:=Pq.some_of (v:=v) (o:=(atKey xs k).map (·.2)) (by rw[l];exact rel.val k);obtain⟨p,hp,hp2⟩:=bx.mp hw;refine wpAny_getItem_heap (ux hu) (Qd I.hok eb) dd hp ?_;rw[hp2];exact h w' _ (I.tok _) rw'
theorem a2k(hu:A.units+1<cLine)(I:Inv X pins σ H s)(g:Pr H a y o)(ry:RelV y u)(h:∀s',Inv X pins σ H s'->Q (.bool o.isSome) s') :
 wpAny (model X.prog X.w) A (compareOp .In u (.ref a)) Q E s:=by
 rcases g with⟨kvs,k,e,ey,l⟩|⟨kvs,k,b,e,ey,eb,l⟩
 . subst ey
   obtain⟨z,hd,vs,rel,dd⟩:=Xj I.hok e;refine wpAny_in_of (Zy ry) hd dd.mapOf ?_;rw[<- (rel.val k).Kp,<- l];exact h _ (I.tok _)
 . subst ey
   cases(show u=Value.ref b from ry);obtain⟨z,hd,xs,rel,dd⟩:=Z0 I.hok e;refine wpAny_in_heap (ux hu) (Qd I.hok eb) hd dd ?_;have q:=(rel.val k).Kp;rw[Ez] at q;rw[<- q,<- l];exact h _ (I.tok _)
theorem ahi(hu:A.units+1<cLine)(I:Inv X pins σ H s)(g:Pr H a y o)(ry:RelV y u)(h:∀s',Inv X pins σ H s'->Q (.bool (!o.isSome)) s') :
 wpAny (model X.prog X.w) A (compareOp .NotIn u (.ref a)) Q E s:=by
 rcases g with⟨kvs,k,e,ey,l⟩|⟨kvs,k,b,e,ey,eb,l⟩
 . subst ey
   obtain⟨z,hd,vs,rel,dd⟩:=Xj I.hok e;refine wpAny_notIn_of (Zy ry) hd dd.mapOf ?_;rw[<- (rel.val k).Kp,<- l];exact h _ (I.tok _)
 . subst ey
   cases(show u=Value.ref b from ry);obtain⟨z,hd,xs,rel,dd⟩:=Z0 I.hok e;refine wpAny_notIn_heap (ux hu) (Qd I.hok eb) hd dd ?_;have q:=(rel.val k).Kp;rw[Ez] at q;rw[<- q,<- l];exact h _ (I.tok _)
theorem ahj(I:Inv X pins σ H s)(mu:Mut (H a))(hs:Heap.SameBut a s.heap h')(he:∃q,h'.get? a=some q)(new:zx X.prog X.w (upd H a ob) h' a ob) :
 Inv X pins σ (upd H a ob) { s with heap:=h',toks:=t' } :=
 I.write (x:=a) (e:=a) mu (.inl rfl) (λb q hb z=>(hs.2 b hb).trans z) he new
theorem al6(z:kvs.length<=sizeLine)(hd:(a==sysModules)=false)(rel:KV kvs vs)(dd:h'.DictOf (iu P w) a vs) :
 zx P w H' h' a (.dK kvs):=⟨z,hd,vs,rel,dd⟩
theorem Z1(hu:A.units+1<cLine)(I:Inv X pins σ H s)(g:af3 H a y v H')(ry:RelV y u)(rv:RelV v r)(h:∀s',Inv X pins σ H' s'->Q () s') :
 wpAny (model X.prog X.w) A (setItem (.ref a) u r) Q E s:=by
 rcases g with⟨kvs,k,e,ey,l,eH⟩|⟨kvs,k,b,e,ey,eb,l,eH⟩
 . subst ey eH
   obtain⟨z,hd,vs,rel,dd⟩:=a2j I.hok e;have hz:vs.length<=sizeLine:=by rw[<- rel.length];exact z
   have hl:(putK kvs k v).length<=sizeLine:=by have:=V8 kvs k v;exact a_ this l
   refine wpAny_setItem_pairs (hsz:=hz) (Zy ry) dd λh' dd' hs=>h _ ?_
   have he:∃q,h'.get? a=some q:=let ⟨q,_,_,hq,_⟩:=dd';⟨q,hq⟩;exact ahj I (by rw[e];exact True.intro) hs he (al6 hl hd (rel.put k rv) dd')
 . subst ey eH
   cases(show u=Value.ref b from ry);obtain⟨z,hd,xs,rel,dd⟩:=adl I.hok e;have hz:xs.length<=sizeLine:=by rw[<- Paired.length rel];exact z
   have hl:(putK kvs k v).length<=sizeLine:=by have:=V8 kvs k v;exact a_ this l
   refine wpAny_setItem_heap (hsz:=hz) (ux hu) (Qd I.hok eb) dd λh' dd' hs=>h _ ?_
   obtain⟨q,es,ep,hq,h2,h3,h4,_,h5⟩:=dd';refine ahj I (by rw[e];exact True.intro) hs ⟨q,hq⟩ ⟨hl,hd,_,(rel.put k eb rv).keeps λc ys ec=>?_,q,es,ep,hq,h2,h3,h4,h5⟩;rw[j4 (alc ec e (λz=>nomatch z))];exact ec
end
theorem adm(I:Inv X pins σ H s)(g:Pr H a y o):s.TypeIs (.ref a) "dict" := by
 rcases g with⟨kvs,k,e,_,_⟩|⟨kvs,k,b,e,_,_,_⟩
 . obtain⟨_,_,vs,_,dd⟩:=Xj I.hok e
   exact dd.typeIs
 . obtain⟨_,_,xs,_,dd⟩:=Z0 I.hok e
   exact dd.typeIs
theorem al7(h:Heap)(hb:sysModules<h.objs.size):zx P w H (h.push { cls:=.type "dict",data:=.dict #[] }) h.objs.size (.dK []) :=
 ⟨jr _,ql.mpr (jz (dj hb)),[],.nil,Heap.DictOf.new h⟩
theorem al8(h:Heap)(hb:sysModules<h.objs.size):zx P w H (h.push { cls:=.type "dict",data:=.dict #[] }) h.objs.size (.dT []) :=
 ⟨jr _,ql.mpr (jz (dj hb)),[],.nil,_,#[],0,bf _ rfl,⟨rfl,rfl,rfl⟩,rfl,rfl,Bt⟩
def ax3:TE:=λ_ H Q=>∀p,H p=none->Q (.ref p) (upd H p (.dK []))
def ax4:TE:=λ_ H Q=>∀p,H p=none->Q (.ref p) (upd H p (.dT []))
section
variable{X:Cx}{pos:Pos}
theorem al9:PE X (.Dict [] [] pos) ax3:=λpins s σ H Q I h =>
 wpAny_Dict_empty ⟨.ref s.heap.objs.size,_,I.laid (a:=s.heap.objs.size) (o:=.dK []) (t':=s.toks) (λ_ _ q=>ao _ q) (bc _) (al7 s.heap I.big),rfl,h _ (I.hok.fresh (bc _))⟩
theorem ama:PE X (.Dict [] [] pos) ax4:=λpins s σ H Q I h =>
 wpAny_Dict_empty ⟨.ref s.heap.objs.size,_,I.laid (a:=s.heap.objs.size) (o:=.dT []) (t':=s.toks) (λ_ _ q=>ao _ q) (bc _) (al8 s.heap I.big),rfl,h _ (I.hok.fresh (bc _))⟩
end
section
variable{X:Cx}{pins:List (Addr×Obj)}{σ:St}{H:Hp}{s:Shared}{a:Addr}{y d:V}{u r:Value}{o:Option V}{A:Around}{E:Value->Shared->Prop}
theorem amb(hu:A.units+1<cLine)(I:Inv X pins σ H s)(g:Pr H a y o)(ry:RelV y u)(rd:RelV d r)(h:∀w' s',Inv X pins σ H s'->RelV (o.getD d) w'->Q w' s') :
 wpAny (model X.prog X.w) A (call (.builtin "dict.get") [.ref a,u,r]) Q E s:=by
 rcases g with⟨kvs,k,e,ey,l⟩|⟨kvs,k,b,e,ey,eb,l⟩
 . subst ey
   obtain⟨z,hd,vs,rel,dd⟩:=Xj I.hok e;refine Be Cg dd.typeIs Ga (Fb _ _ _) (meets_dict_get_default (iu X.prog X.w) a (Zy ry) hd r) ⟨_,dd.mapOf,h _ _ (I.tok _) ?_⟩;rw[l];exact(rel.val k).getD rd
 . subst ey
   cases(show u=Value.ref b from ry);obtain⟨z,hd,xs,rel,dd⟩:=Z0 I.hok e;refine Be Cg dd.typeIs Ga (Fb _ _ _) (meetsH_dict_get_default (tupleKind (iu X.prog X.w)) a b hd r) ⟨ux hu,k,xs,Qd I.hok eb,dd,h _ _ (I.tok _) ?_⟩;rw[l];exact(rel.val k).getD rd
end
section
variable{X:Cx}{pins:List (Addr×Obj)}{σ:St}{H:Hp}{s:Shared}{a:Addr}{kvs:List (Key×V)}{A:Around}{E:Value->Shared->Prop}
theorem amc(I:Inv X pins σ H s)(e:Rd H a (.dK kvs))(h:∀p s',H p=none->Inv X pins σ (upd H p (.dK kvs)) s'->Q (.ref p) s'):wpAny (model X.prog X.w) A (call (.type "dict") [.ref a]) Q E s:=by
 obtain⟨z,hd,vs,rel,dd⟩:=Xj I.hok e;refine kt_call_dict hd dd (by rw[<- rel.length];exact z) λh' dd' hs=>?_
 refine h _ _ (I.hok.fresh (bc _)) (I.laid (a:=s.heap.objs.size) (o:=.dK kvs) (t':=s.toks) (λb q hq=>?_) (bc _) (al6 z (ql.mpr (jz (dj I.big))) rel dd'));exact(hs.2 b (dj (au hq))).trans (ao _ hq)
end
end L2
namespace Att
open PySem PySem.W PySem.Calls PyProof.Rows
theorem Wv:∀(ns:List Int)(vs:List Value),WellAll P h vs (ns.map WData.int)->IntsAre vs ns:=by
 intro ns
 induction ns with
 |nil =>
  intro vs w;rw[Jq] at w;cases w;exact .nil
 |cons n ns ih =>
  intro vs w;rw[gq] at w;cases w with
  |cons a b =>
   cases a;exact .cons _ _ (ih _ b)
theorem ajm{l:OpenLaw}(hn:l.most=some n)(hpre:l.row.toRowW.claim.pre args=true)(hwl:WellAll P h vals args) :
 ∃a vs ns,vals=[Value.ref a]/\args=[WData.list (ns.map WData.int)]/\h.get? a=some { cls:=.type "list",data:=.seq vs.toArray }/\IntsAre vs ns/\ns.length<=n:=by
 have hsh:WShape.hasAll [] args [.list .int]=true:=(pre_splitW hpre).1;have hc:l.pre.holds [] { args:=args }=true:=(pre_splitW hpre).2;obtain⟨d,r,rfl,h1,h2⟩:=hasAllW_cons hsh;obtain rfl:=hasAllW_nil h2;obtain⟨xs,rfl,h3⟩:=hasW_list h1;obtain⟨ns,rfl⟩:=items_int h3;have hlen:ns.length<=n:=by
  unfold OpenLaw.pre at hc;have h4:(WTm.not (.lt (.lit (.int (n:Int))) (.len (.arg 0)))).holds [] { args:=[.list (ns.map .int)] }=true:=by have h4:=(holds_andW hc).1;rw[hn] at h4;exact h4
  have h5:=condW_of h4 (w_not (w_lt w_lit (w_len_list (w_arg rfl))));rw[fc] at h5;refine Gj λq=>?_
  have q':(n:Int)<((ns.length:Nat):Int):=m_ q
  first
   |(rw[Er q'] at h5;exact absurd h5 (by decide))
   |(simp at h5;omega)
 cases hwl with
 |cons w1 w2 =>
  cases w2;cases w1 with
  |list ho hall=>exact⟨_,_,ns,rfl,rfl,ho,Wv ns _ hall,hlen⟩
theorem ajn(l:OpenLaw)(args:List WData):l.row.toRowW.claim.post args (.bool true) args=true :=
 postW_of (r:=l.row.toRowW) (X:=(true==true))
  (show WShape.has [] (.bool true) .bool=true by first|rfl|decide|simp[WShape.has,WShape.arms,WShape.armsAll])
  (show(WTm.eq .res (.lit (.bool true))).value [] { args:=args,res:=some (.bool true),after:=args }=some (.bool (true==true)) from w_eq_bool (w_res rfl) w_lit) rfl
theorem adn{l:OpenLaw}(hn:l.most=some n)(hdf:d.params.defaults=[])(call:∀(w:World) (s₀ s₁:Shared) (mg mb:Str->Option Value) (fa:Addr) (o:Obj) (pm cd doc:Value) (a:Addr) (vs:List Value) (ns:List Int),
 Ground q loose [] XP w s₀ mg mb s₁.heap->YP w s₁.heap ->
 s₁.heap.get? fa=some o->o.data=.func (docDef d.name d.params d.body d.scope pm cd doc)->s₁.heap.CodeRec cd d.name->mg d.name=some (.ref fa) ->
 s₁.heap.get? a=some { cls:=.type "list",data:=.seq vs.toArray }->IntsAre vs ns->ns.length<=n->s₁.gens=#[] ->
 codeAny (model l.prog w) callerA (.call (.ref fa) ⟨[.ref a],[]⟩) (λr s'=>r=.ok (.ret (.bool true))/\OldK s₁.heap s'.heap/\s'.os=s₁.os/\AllBare s'.gens) s₁) :
 WalkO q loose XP YP l.row.toRowW d [] (λf vs=>PySem.call f vs):=by
 intro w s₀ s₁ mg mb G Y fa o pm cd doc dV kV ho hd hcd hD hmg hg args vals as hpre hlay hrd hwl hlo;obtain rfl:dV=.none:=Dflts.none hD hdf;obtain rfl:kV=.none:=Dflts.noKw hD;obtain⟨a,vs,ns,rfl,rfl,hobj,hints,hlen⟩:=ajm hn hpre hwl;refine enter_call (uv (call w s₀ s₁ mg mb fa o pm cd doc a vs ns G Y ho (fd_plain hd) hcd hmg hobj hints hlen hg) λr s' hq=>?_);obtain⟨rfl,h2,h3,h4⟩:=hq;exact⟨.inl ⟨.bool true,.bool true,[],rfl,λ_=>rfl,.bool true,ajn l _,λ_=>⟨List.Pairwise.nil,λ_ hm=>(nomatch hm)⟩⟩,h2,h3,h4⟩
end Att
namespace L2
open PySem PySem.Spec PyProof.Rows
theorem Z2:∀{vs:List Value}{ns:List Int},IntsAre vs ns->Vals (ns.map V.int) vs
 |_,_,.nil=>.nil|_,_,.cons n t h=>.cons ⟨t,rfl⟩ (Z2 h)
def Only(H:Hp):Prop:=∀b,H b=none\/∃o xs,H b=some (.Py o (.lst xs))
theorem amd{K:Fg}(KX:K.In s₁.heap)(hns:s₁.heap.Ns mainGlobals mg)(hb:s₁.heap.Ns builtinsNs mb)(hbb:∀x:Str,x≠"__name__" -> mb x=bootBuiltins x)(hlim:s₁.heap.NoLimit)(hg:s₁.gens=#[])(ha:s₁.heap.get? a=some { cls:=.type "list",data:=.seq vs.toArray })(hi:IntsAre vs ns)(hl:ns.length<=sizeLine)(hr:zj k callerA)(F:∀base:Heap,K.In base->base.Ns mainGlobals mg->Ij P w K mg base CX k fa fd [x] sp)(hbind:∀(s:Shared) (u:Value),BindsTo s fd ⟨[u],[]⟩ [(x,u)])(hsp:∀H:Hp,Only H->Jv K H a (ns.map V.int)->sp [.ref a] H (λv _=>v=.bl true) λ_ _ _=>False)(hCX:∀H e s',CX [] H s₁ (λ_ _ _=>False) e s'->False) :
 codeAny (model P w) callerA (.call (.ref fa) ⟨[.ref a],[]⟩) (λr s'=>r=.ok (.ret (.bool true))/\OldK s₁.heap s'.heap/\s'.os=s₁.os/\AllBare s'.gens) s₁:=by
 have rv:=Z2 hi;have lenV:=hi.length;have core:∀H:Hp,Only H->Jv K H a (ns.map V.int)->Rx P w H s₁.heap->(∀b,H b≠none->b=a)->(H a≠none->K.lookup a=none) ->
  codeAny (model P w) callerA (.call (.ref fa) ⟨[.ref a],[]⟩) (λr s'=>r=.ok (.ret (.bool true))/\OldK s₁.heap s'.heap/\s'.os=s₁.os/\AllBare s'.gens) s₁:=by
  intro H hO hS hok hA hK;have Jh:∀{b:Addr}{o:Obj},s₁.heap.get? b=some o->H b=none->(aa2 s₁.heap H).get? b=some o:=λe n=>ald e n
  have noA:∀{b:Addr}{o:Obj}{es:Array DictEntry}{ep:Nat},s₁.heap.get? b=some o->o.data=.dict es ep->H b=none:=fun{b o es ep} e d=>by
   cases q:H b with
   |none=>rfl
   |some u =>
    have e':b=a:=hA b (by rw[q];simp);subst e';rw[ha] at e;cases e;have d':Data.seq vs.toArray _=Data.dict es ep:=d;cases d'
  have nsK:∀{b:Addr}{m:Str->Option Value},s₁.heap.Ns b m->(aa2 s₁.heap H).Ns b m:=fun{b m} ⟨o,es,ep,e,d,r⟩=>⟨o,es,ep,Jh e (noA e d),d,r⟩
  have hKb:K.In (aa2 s₁.heap H):=λb o e=>Jh (KX b o e) (by
   cases q:H b with
   |none=>rfl
   |some u =>
    have e':b=a:=hA b (by rw[q];simp);subst e';rw[hK (by rw[q];simp)] at e;cases e)
  have hM:Mod K mg (aa2 s₁.heap H):=⟨hKb,nsK hns,⟨mb,nsK hb,hbb⟩,let ⟨mc,h1,h2⟩:=hlim;⟨mc,nsK h1,h2⟩⟩;have e0:afx P w K mg (aa2 s₁.heap H) callerA [] s₁ H:=⟨rfl,hM,λb o e=>aqq e,Gz (ai7 _ _),trivial,λb hb=>absurd (show b∈([]:List Addr) from hb) (by simp),hok,.of_eq hg⟩;refine uv ((F _ hKb (nsK hns)).run callerA [] s₁ H ⟨[.ref a],[]⟩ [.ref a] [.ref a] _ _ hr e0 (hbind s₁ (.ref a)) (.cons rfl .nil) (hsp H hO hS)) λr s' h=>?_
  cases r with
  |error e=>exact(hCX H e s' h).elim
  |ok fl =>
   cases fl with
   |next=>exact False.elim h|brk=>exact False.elim h|cont=>exact False.elim h
   |ret u =>
    obtain⟨v,H',os,bare,un,hok',r',q⟩:=h;have q':v=.bl true:=q;subst q';obtain rfl:u=Value.bool true:=r';refine⟨rfl,OldK.of_keep λb o e=>?_,os,bare⟩;cases q:H b with
    |none=>exact un.keep b o e q (by intro z;exact absurd (show b∈([]:List Addr) from z) (by simp)) (by simp)
    |some u =>
     rcases hO b with z|⟨ob,xs,z⟩
     . rw[q] at z;cases z
     . have z2:=un.aa1 b ob _ z
       obtain⟨e1,_⟩:=hok b _ z;obtain⟨e2,_⟩:=hok' b _ z2;rw[e] at e1;cases e1;exact e2
 cases hk:K.lookup a with
 |some o =>
  have e:=KX a o hk;rw[ha] at e;cases e;refine core (λ_=>none) (λ_=>.inl rfl) (.inr ⟨_,vs.toArray,_,hk,rfl,rfl,rfl,by rw[du,lenV];exact hl,by simpa using rv⟩) (λb u z=>by have z':(none:Option HO)=some u:=z;cases z') (λb z=>absurd rfl z) λz=>absurd rfl z
 |none =>
  refine core (λb=>if b=a then some (.Py { cls:=.type "list",data:=.seq vs.toArray } (.lst (ns.map V.int))) else none) (λb=>?_) (.inl (.inr ⟨{ cls:=.type "list",data:=.seq vs.toArray },cu rfl⟩)) (λb u z=>?_) (λb z=>?_) λ_=>hk
  . by_cases hb:b=a
    . exact .inr ⟨_,_,cu hb⟩
    . exact .inl (bz hb)
  . by_cases hb:b=a
    . have z':=(cu hb).symm.trans z
      cases z';subst hb;exact⟨ha,by rw[fc];exact hl,vs,_,rv,ha⟩
    . have z':=(bz hb).symm.trans z
      cases z'
  . by_cases hb:b=a
    . exact hb
    . exact absurd (bz hb) z
end L2
namespace L2
open PySem PySem.Spec PyProof.Rows
theorem arj{l:PySem.W.OpenLaw}{K:Params->Fg}{CX:World->CXT}{sp:World->Sp}(hn:l.most=some n)(hn2:n<=sizeLine)(hdf:d.params.defaults=[])(hr:zj k callerA)(hY:∀(w:World) (h:Heap),YP w h->(K w.params).In h)(F:∀(w:World) (mg:Str->Option Value) (fa:Addr) (h:Heap),(K w.params).In h->h.Ns mainGlobals mg->mg d.name=some (.ref fa) ->
 ∃fd:FuncData,(∀(s:Shared) (u:Value),BindsTo s fd ⟨[u],[]⟩ [(x,u)]) /\
  ∀base:Heap,(K w.params).In base->base.Ns mainGlobals mg->Ij l.prog w (K w.params) mg base (CX w) k fa fd [x] (sp w))(hsp:∀(w:World) (H:Hp) (a:Addr) (ns:List Int),ns.length<=n->Only H->Jv (K w.params) H a (ns.map V.int)->sp w [.ref a] H (λv _=>v=.bl true) λ_ _ _=>False)(hCX:∀(w:World) (H:Hp) (s:Shared) (e:Value) (s':Shared),CX w [] H s (λ_ _ _=>False) e s'->False) :
 PySem.W.WalkO q loose XP YP l.row.toRowW d [] (λf vs=>PySem.call f vs):=by
 refine Att.adn hn hdf λw s₀ s₁ mg mb fa o pm cd doc a vs ns G Y ho hd hcd hmg hobj hints hlen hg=>?_
 have KX:=hY w _ Y;obtain⟨fd,hb,hF⟩:=F w mg fa _ KX G.T.g hmg;exact amd KX G.T.g G.T.b G.T.builtins G.T.nolimit hg hobj hints (ig hlen hn2) hr hF hb (λH hO hS=>hsp w H a ns hlen hO hS) λH e s'=>hCX w H s₁ e s'
end L2
namespace L2
open PySem PySem.Spec PyProof.Rows
def inClass(s:Stmt)(j:Nat):Stmt:=match s with
 |.ClassDef _ _ _ body _ _ _ _ _ _ _=>body.getD j (.Pass ⟨0,0,0,0⟩)|_=>.Pass ⟨0,0,0,0⟩
def Lr(s:Stmt):Arguments:=match s with
 |.FunctionDef _ a _ _ _ _ _ _ _ _=>a|_=>{ posonlyargs:=[],args:=[],vararg:=none,kwonlyargs:=[],kw_defaults:=[],kwarg:=none,defaults:=[] }
def Ji(s:Stmt):List Stmt:=match s with
 |.FunctionDef _ _ b _ _ _ _ _ _ _=>b|_=>[]
def Ba(s:Stmt):Scope:=match s with
 |.FunctionDef _ _ _ _ _ _ sc _ _ _=>sc|_=>{ kind:=.function,names:=[],isGenerator:=false,isCoroutine:=false }
abbrev CX0:CXT:=λ_ _ _ _ _ _=>False
abbrev E0:XK:=λ_ _ _=>False
theorem ahk:Passes CX0 X E0:=λ_ _ _ _ _ _ _ h=>h.elim
structure Fun(K:Fg)(x qual:Str)(st:Stmt)(f:Addr)(fd:FuncData):Prop where
 ex:∃(oc:Value)(od:Option Addr)(kV doc pm:Value)(an:Option Addr)(cdv ct:Value)(osl:Array (Option Value)),
  fd=PySem.W.fnOf x qual (Lr st) (Ji st) (Ba st) .none kV doc pm an cdv ct/\K.lookup f=some ⟨oc,od,.func fd,osl⟩/\PySem.W.codeIn K cdv qual=true
 kp:PySem.W.keepIn K (.ref f)=true
section
variable{P:Program}{w:World}{K:Fg}{mg:Str->Option Value}{base:Heap}
theorem Fun.ok{st:Stmt}(F:Fun K x qual st f fd)(S:W2 N ps (Ba st))(len:∀vs H Q E,sp vs H Q E->vs.length=ps.length)(hbody:∀(cdv:Value) (A:Around) (outer:List Env) (s:Shared) (H:Hp) (vs:List V) (Q:VK) (E:XK),zj k (A.deeper (envOfC qual (Ba st) s.heap.objs.size f cdv))->sp vs H Q E ->
 ∃t,T5 (afz CX0 P w K mg base N qual (Ba st) f cdv A outer s H E).nox (Ji st) t/\t { nx:=λ_ H'=>Q .non H',rt:=Q } (start N vs) H):Ij P w K mg base CX0 (k+1) f fd ps sp:=by
 obtain⟨oc,od,kV,doc,pm,an,cdv,ct,osl,rfl,lk,hcd⟩:=F.ex;refine a1z lk hcd S len λA outer s H vs Q E hr hsp=>?_
 obtain⟨t,h,q⟩:=hbody cdv A outer s H vs Q E hr hsp;exact⟨t,h.nox,q⟩
theorem Fun.binds{st:Stmt}(F:Fun K x qual st f fd)(h:∀(kV doc pm:Value) (an:Option Addr) (cdv ct:Value) (us:List Value),us.length=ps.length->bindArgs (PySem.W.fnOf x qual (Lr st) (Ji st) (Ba st) .none kV doc pm an cdv ct) ⟨us,[]⟩=pure (ps.zip us)):Binds K fd ps []:=by obtain⟨oc,od,kV,doc,pm,an,cdv,ct,osl,rfl,lk,hcd⟩:=F.ex;exact .all (h kV doc pm an cdv ct)
theorem ame{st:Stmt}{f:Addr}{oc:Value}{od an:Option Addr}{osl:Array (Option Value)}{kV doc pm cdv ct:Value}(l:K.lookup f=some ⟨oc,od,.func (PySem.W.fnOf x qual (Lr st) (Ji st) (Ba st) .none kV doc pm an cdv ct),osl⟩)(c:PySem.W.codeIn K cdv qual=true)(k:PySem.W.keepIn K (.ref f)=true):Fun K x qual st f (PySem.W.fnOf x qual (Lr st) (Ji st) (Ba st) .none kV doc pm an cdv ct):=⟨⟨oc,od,kV,doc,pm,an,cdv,ct,osl,rfl,l,c⟩,k⟩
end
theorem ado{A:Around}{k:Nat}(hr:zj k A):A.units+1<cLine:=Eg (Hi (by decide:1<=64) _) hr.units
end L2
namespace MW
open PySem (Str)
set_option genInjectivity true in
inductive D where
 |non|bl (b:Bool)|int (i:Int)|str (s:Str)|tup (ds:List D)|vl (ds:List D)|fz (ds:List D)|ref (n:Nat)
noncomputable abbrev Kx:=Sum Int Str
set_option genInjectivity true in
inductive MO where
 |lst (ds:List D)|dT (kvs:List (List Kx×D))|dK (kvs:List (Kx×D))|ins (c:Nat) (fs:List (Nat×D))
noncomputable abbrev Store:=List MO
noncomputable abbrev Env:=List (Option D)
set_option genInjectivity true in
inductive Res(α:Type) where
 |ok (a:α) (M:Store)|err (c:Nat) (M:Store)|bad
namespace Res
noncomputable def bind{α β:Type}(r:Res α)(f:α->Store->Res β):Res β :=
 match r with|ok a M=>f a M|err c M=>err c M|bad=>bad
@[simp] theorem zy(a:α)(M:Store)(f:α->Store->Res β):(ok a M).bind f=f a M:=rfl
@[simp] theorem a2l(c:Nat)(M:Store)(f:α->Store->Res β):(err c M:Res α).bind f=err c M:=rfl
@[simp] theorem a2m(f:α->Store->Res β):(bad:Res α).bind f=bad:=rfl
noncomputable def ofOpt{α:Type}(o:Option α)(M:Store):Res α:=match o with|some a=>ok a M|none=>bad
@[simp] theorem Dl(a:α)(M:Store):ofOpt (some a) M=ok a M:=rfl
@[simp] theorem ax5(M:Store):ofOpt (none:Option α) M=bad:=rfl
end Res
inductive Op2 where|add|amf|sub|mul|fdiv|mod|pow
inductive Cp where|eq|ne|lt|le|gt|ge|is|amg|inn|V9
inductive Blt where
 |len|tuple|list|max|min|sum|sorted|dict|all|isList|isTuple|isInt|isBool|Jj|isSeq
inductive Bm where|append|pop|index|get|N8
inductive Tg where
 |name (i:Nat)|names (is:List Nat)
mutual
inductive Ex where
 |var (i:Nat)|cst (d:D)
 |bin (op:Op2) (a b:Ex)|neg (a:Ex)
 |cmp (op:Cp) (a b:Ex)|chain (o1 o2:Cp) (a b c:Ex)
 |and (a b:Ex)|or (a b:Ex)|not (a:Ex)|ite (c a b:Ex)
 |tup (es:Dr)|lst (es:Dr)|Mv (es:Dr)|ajo|af4
 |ix (a b:Ex)|cut (a:Ex) (lo hi:Z3)
 |call (f:Nat) (es:Dr)|make (c:Nat) (es:Dr)|meth (o:Ex) (m:Nat) (es:Dr)|fld (o:Ex) (f:Nat)
 |blt (b:Blt) (es:Dr)|bm (m:Bm) (o:Ex) (es:Dr)
 |comp (v:Bool) (k:Nat) (t:Tg) (it:Rp) (e:Ex)|Gm (v:Bool) (k:Nat) (t:Tg) (it:Rp) (c:Ex) (e:Ex)
 |Xk (a b:Ex)|af5 (e:Ex)|abg (e:Ex)
inductive Dr where
 |nil|cons (e:Ex) (es:Dr)
inductive Z3 where
 |none|some (e:Ex)
inductive Rp where
 |val (e:Ex)|Px (e:Ex)|enm (e:Ex)|zip (a b:Ex)
end
inductive Lv where
 |tg (t:Tg)|sub (o i:Ex)|fld (o:Ex) (f:Nat)
mutual
inductive Fl where
 |asg (l:Lv) (e:Ex)|expr (e:Ex)|iff (c:Ex) (a b:m7)|whl (c:Ex) (b:m7)|for_ (t:Tg) (it:Rp) (b:m7)
 |ret (e:Ex)|ark|brk|cont|pass|raise (c:Nat) (es:Dr)
inductive m7 where
 |nil|cons (s:Fl) (r:m7)
end
structure Fn where
 np:Nat
 ns:Nat
 body:m7
structure Cl where
 init:Nat
 meths:List (Nat×Nat)
noncomputable def asList(M:Store):D->Option (List D)
 |.vl ds=>some ds|.ref n=>match M[n]? with|some (.lst ds)=>some ds|_=>none
 |_=>none
noncomputable def yq(M:Store):D->Option (List D)
 |.tup ds=>some ds|d=>asList M d
noncomputable def Ve:D->Option Kx
 |.int i=>some (.inl i)|.str s=>some (.inr s)|_=>none
noncomputable def abh:List D->Option (List Kx)
 |[]=>some []
 |d::ds=>match Ve d,abh ds with
  |some k,some ks=>some (k::ks)|_,_=>none
noncomputable def Tc:D->Option (List Kx)
 |.tup ds=>abh ds|_=>none
noncomputable def amh:Kx->D
 |.inl i=>.int i|.inr s=>.str s
noncomputable def ami(ks:List Kx):D:=.tup (ks.map amh)
noncomputable def Hj:List D->Option (List (List Kx))
 |[]=>some []
 |d::ds=>match Tc d,Hj ds with
  |some k,some ks=>some (k::ks)|_,_=>none
noncomputable def Ov(f:D->D->Option Bool):List D->List D->Option Bool
 |[],[]=>some true
 |a::as,b::bs=>match f a b,Ov f as bs with
  |some x,some y=>some (x&&y)|_,_=>none
 |_,_=>some false
instance:DecidableEq Kx:=inferInstanceAs (DecidableEq (Sum Int Str))
noncomputable def Bf{κ:Type}[DecidableEq κ](kvs:List (κ×D))(k:κ):Option D:=(kvs.find? λp=>decide (p.1=k)).map (·.2)
noncomputable def Z4(kvs:List (List Kx×D)):Bool:=kvs.all λp=>p.1.all λx=>match x with|.inl _=>true|.inr _=>false
noncomputable def eqK(f:D->D->Option Bool)(kb:List (List Kx×D)):List (List Kx×D)->Option Bool
 |[]=>some true
 |(k,v)::r=>match Bf kb k with
  |none=>some false
  |some y=>match f v y,eqK f kb r with
   |some e,some b=>some (e&&b)|_,_=>none
noncomputable def Z5(f:D->D->Option Bool)(M:Store)(a b:D):Option Bool :=
 match a,b with
 |.ref i,.ref j=>match M[i]?,M[j]? with
  |some (.dT ka),some (.dT kb)=>if Z4 ka&&Z4 kb then(if i=j then some true else if ka.length=kb.length then eqK f kb ka else some false) else none
  |_,_=>none
 |_,_=>none
noncomputable def Z6(M:Store):D->Bool
 |.ref n=>match M[n]? with|some (.dT _)=>true|_=>false
 |_=>false
noncomputable def Hd(M:Store):Nat->D->D->Option Bool
 |0,_,_=>none
 |n+1,a,b=>match a,b with
  |.int i,.int j=>some (decide (i=j))|.bl i,.bl j=>some (i==j)|.str i,.str j=>some (decide (i=j))|.non,.non=>some true|.tup as,.tup bs=>Ov (Hd M n) as bs
  |a,b=>match asList M a,asList M b with
   |some as,some bs=>if as.length=bs.length then Ov (Hd M n) as bs else some false
   |none,none=>Z5 (Hd M n) M a b|_,_=>none
noncomputable def xx(M:Store)(a b:D):Option Bool:=if Z6 M a then none else Hd M 6 a b
noncomputable def Rq(M:Store)(x:D):List D->Option (List Bool)
 |[]=>some []
 |y::ys=>match xx M y x,Rq M x ys with
  |some a,some b=>some (a::b)|_,_=>none
noncomputable def memD(M:Store)(x:D)(ds:List D):Option Bool:=(Rq M x ds).map (·.any id)
noncomputable def Ua(M:Store)(x:D)(ds:List D):Option Nat:=(Rq M x ds).bind (·.findIdx? id)
noncomputable def Ww:List D->Option (List Int)
 |[]=>some []|.int i::r=>(Ww r).map (i::·)|_::_=>none
noncomputable def Rr(n:Nat)(i:Int):Option Nat:=if 0<=i then(if i<n then some i.toNat else none) else if -(n:Int)<=i then some (i+n).toNat else none
noncomputable def clip(n:Nat)(d:Nat):Option Int->Nat
 |none=>d|some i=>if 0<=i then min i.toNat n else(i+n).toNat
noncomputable def abi(ds:List D)(lo hi:Option Int):List D:=(ds.drop (clip ds.length 0 lo)).take (clip ds.length ds.length hi-clip ds.length 0 lo)
noncomputable def ax6:List Int->Option Int
 |[]=>none|a::r=>some (r.foldl (λm x=>if m<x then x else m) a)
noncomputable def a2o:List Int->Option Int
 |[]=>none|a::r=>some (r.foldl (λm x=>if x<m then x else m) a)
noncomputable def insI(x:Int):List Int->List Int
 |[]=>[x]|y::ys=>if x<y then x::y::ys else y::insI x ys
noncomputable def sortI(xs:List Int):List Int:=xs.foldr insI []
noncomputable def Bb:List Int->List Int
 |[]=>[]|x::xs=>if x∈xs then Bb xs else x::Bb xs
noncomputable def keysOf(M:Store)(d:D):Option (List D) :=
 match d with
 |.ref n=>match M[n]? with
  |some (.dT kvs)=>some (kvs.map λp=>ami p.1)
  |_=>asList M d
 |_=>asList M d
noncomputable def Ib{κ:Type}[DecidableEq κ](kvs:List (κ×D))(k:κ)(v:D):List (κ×D) :=
 if(kvs.any λkv=>decide (kv.1=k))=true then kvs.map (λkv=>if kv.1=k then(kv.1,v) else kv) else kvs++[(k,v)]
noncomputable def Hk(xs:List (List Kx)):Bool:=decide (xs.length<=30)&&xs.all λk=>k.all λx=>match x with|.inl _=>true|.inr _=>false
noncomputable def Ls(xs ys:List (List Kx)):Bool:=xs.all (λx=>ys.any λy=>decide (y=x))&&ys.all (λy=>xs.any λx=>decide (x=y))
noncomputable def new(o:MO)(M:Store):Res D:=.ok (.ref M.length) (M++[o])
noncomputable def amj(a b:D)(M:Store):Res D :=
 match a,b with
 |.int i,.int j=>.ok (.int (i+j)) M|.tup xs,.tup ys=>if xs.length+ys.length<=100000/\xs.isEmpty=false then .ok (.tup (xs++ys)) M else .bad
 |x,y=>match asList M x,asList M y with
  |some xs,some ys=>if xs.length+ys.length<=100000 then .ok (.vl (xs++ys)) M else .bad
  |_,_=>.bad
noncomputable def af6(x y:D)(M:Store):Res D :=
 match asList M x,asList M y with
 |some xs,some ys=>if xs.length+ys.length<=100000 then new (.lst (xs++ys)) M else .bad
 |_,_=>.bad
noncomputable def ii{α:Type}(x y:D)(f:Int->Int->α)(z:α):α:=match x with|.int i=>(match y with|.int j=>f i j|_=>z)|_=>z
theorem af7{f:Int->Int->α}{z r:α}(h:ii x y f z=r)(hz:z≠r):∃i j,x=.int i/\y=.int j/\f i j=r:=by
 cases x with
 |int i=>cases y with
  |int j=>exact⟨i,j,rfl,rfl,h⟩|_=>exact absurd h hz
 |_=>exact absurd h hz
@[simp] theorem a8z(i j:Int)(f:Int->Int->α)(z:α):ii (.int i) (.int j) f z=f i j:=rfl
noncomputable def a2p(a b:D)(M:Store):Res D:=ii a b (λi j=>.ok (.int (i-j)) M) .bad
noncomputable def a2q(a b:D)(M:Store):Res D:=ii a b (λi j=>if(-(2 ^ 64)<i/\i<2 ^ 64)\/(-(2 ^ 64)<j/\j<2 ^ 64) then .ok (.int (i*j)) M else .bad) .bad
noncomputable def ax7(a b:D)(M:Store):Res D:=ii a b (λi j=>if 0<j/\j<1073741824 then .ok (.int (i / j)) M else .bad) .bad
noncomputable def a2r(a b:D)(M:Store):Res D:=ii a b (λi j=>if 0<j then .ok (.int (i%j)) M else .bad) .bad
noncomputable def av0(a b:D)(M:Store):Res D:=ii a b (λi j=>if 0<=j/\j<=64/\i.natAbs<2 ^ 64 then .ok (.int (i ^ j.toNat)) M else .bad) .bad
noncomputable def Kg(op:Op2):D->D->Store->Res D :=
 match op with
 |.add=>amj|.amf=>af6|.sub=>a2p|.mul=>a2q|.fdiv=>ax7|.mod=>a2r|.pow=>av0
noncomputable def Ub(M:Store)(a b:D):Option Bool :=
 match b with
 |.ref n=>match M[n]? with
  |some (.dT kvs)=>(Tc a).map λk=>(Bf kvs k).isSome
  |some (.dK kvs)=>(Ve a).map λk=>(Bf kvs k).isSome
  |_=>(yq M b).bind (memD M a)
 |_=>(yq M b).bind (memD M a)
noncomputable def a2s:D->D->Option Bool
 |.non,.non=>some true|.bl a,.bl b=>some (a==b)|.non,_=>some false|_,.non=>some false|.bl _,_=>some false|_,.bl _=>some false|_,_=>none
noncomputable def adp(f:Int->Int->Bool)(a b:D):Option Bool:=ii a b (λi j=>some (f i j)) none
noncomputable def Qe(op:Cp)(a b:D)(M:Store):Option Bool :=
 match op with
 |.lt=>adp (λi j=>decide (i<j)) a b
 |.le=>adp (λi j=>decide (i<=j)) a b
 |.gt=>adp (λi j=>decide (j<i)) a b
 |.ge=>adp (λi j=>decide (j<=i)) a b
 |.eq=>xx M a b|.ne=>(xx M a b).map not|.inn=>Ub M a b|.V9=>(Ub M a b).map not|.is=>a2s a b|.amg=>(a2s a b).map not
noncomputable def Bc(a b:D)(M:Store):Option D :=
 match a with
 |.ref n=>match M[n]? with
  |some (.dT kvs)=>(Tc b).bind (Bf kvs)|some (.dK kvs)=>(Ve b).bind (Bf kvs)
  |_=>match asList M a,b with
   |some ds,.int i=>(Rr ds.length i).bind λj=>ds[j]?
   |_,_=>none
 |.fz ds=>match b with
  |.int i=>(Rr ds.length i).bind λj=>ds[j]?
  |_=>none
 |_=>match yq M a,b with
  |some ds,.int i=>(Rr ds.length i).bind λj=>ds[j]?
  |_,_=>none
noncomputable def cutOp(a:D)(lo hi:Option Int)(M:Store):Option D :=
 match a with
 |.tup ds=>if clip ds.length 0 lo=0/\clip ds.length ds.length hi=ds.length then none else some (.tup (abi ds lo hi))
 |_=>(asList M a).map λds=>.vl (abi ds lo hi)
noncomputable def allB:List D->Option Bool
 |[]=>some true|.bl b::r=>(allB r).map (b&&·)|_::_=>none
noncomputable def isL(M:Store):D->Option Bool
 |.vl _=>some true|.fz _=>none
 |.ref n=>match M[n]? with
  |some (.lst _)=>some true|some (.dT _)=>some false|some (.dK _)=>some false|_=>none
 |_=>some false
noncomputable def af8(kvs:List (List Kx×D)):Bool:=kvs.all λp=>match p.1 with
 |[.inl i,.inl j]=>decide (-1<=i)&&decide (i<9)&&decide (-1<=j)&&decide (j<9)|_=>false
noncomputable def Vf(M:Store):D->Res D
 |.ref n=>match M[n]? with
  |some (.lst ds)=>.ok (.int ds.length) M|_=>.bad
 |.fz ds=>.ok (.int ds.length) M|.tup ds=>.ok (.int ds.length) M|.vl ds=>.ok (.int ds.length) M|_=>.bad
noncomputable def ahm(M:Store):D->Res D
 |.ref n=>match M[n]? with
  |some (.dT kvs)=>if af8 kvs then new (.dT kvs) M else .bad
  |some (.dK kvs)=>new (.dK kvs) M|_=>.bad
 |_=>.bad
noncomputable def isT(M:Store):D->Option Bool
 |.tup _=>some true|.fz _=>none
 |.ref n=>match M[n]? with
  |some (.lst _)=>some false|some (.dT _)=>some false|some (.dK _)=>some false|_=>none
 |_=>some false
noncomputable def isB:D->Option Bool
 |.bl _=>some true|.fz _=>none|.ref _=>none|_=>some false
noncomputable def isS:D->Option Bool
 |.tup _=>some true|.vl _=>some true|.fz _=>none|.ref _=>none|_=>some false
noncomputable def abj:D->Option (List D)
 |.tup ds=>some ds|.vl ds=>some ds|_=>none
noncomputable def two(ds:List D)(f:Int->Int->Int)(g:D->Option Int)(M:Store):Res D :=
 match ds with
 |[a,b]=>(match a,b with|.int i,.int j=>.ok (.int (f i j)) M|_,_=>.bad)
 |[d]=>Res.ofOpt ((g d).map D.int) M|_=>.bad
noncomputable def Rt(ds:List D)(g:D->Res D):Res D :=
 match ds with
 |[d]=>g d|_=>.bad
noncomputable def o6(b:Blt)(ds:List D)(M:Store):Res D :=
 match b with
 |.len=>Rt ds (Vf M)|.tuple=>Rt ds λd=>Res.ofOpt ((yq M d).map D.tup) M
 |.list=>Rt ds λd=>match yq M d with
  |some ds=>new (.lst ds) M|none=>.bad
 |.max=>two ds (λi j=>if i<j then j else i) (λd=>((asList M d).bind Ww).bind ax6) M
 |.min=>two ds (λi j=>if j<i then j else i) (λd=>((asList M d).bind Ww).bind a2o) M
 |.sum=>Rt ds λd=>Res.ofOpt (((yq M d).bind Ww).map λis=>D.int is.sum) M
 |.sorted=>Rt ds λd=>Res.ofOpt (((yq M d).bind Ww).map λis=>D.vl ((sortI is).map D.int)) M
 |.Jj=>Rt ds λd=>Res.ofOpt (((asList M d).bind Ww).bind λis=>if is.length<31 then some (D.vl ((sortI (Bb is)).map D.int)) else none) M
 |.dict=>Rt ds (ahm M)|.all=>Rt ds λd=>Res.ofOpt (((asList M d).bind allB).map D.bl) M
 |.isList=>Rt ds λd=>Res.ofOpt ((isL M d).map D.bl) M
 |.isTuple=>Rt ds λd=>Res.ofOpt ((isT M d).map D.bl) M
 |.isInt=>Rt ds λd=>match d with
  |.int _=>.ok (.bl true) M|_=>.bad
 |.isBool=>Rt ds λd=>Res.ofOpt ((isB d).map D.bl) M
 |.isSeq=>Rt ds λd=>Res.ofOpt ((isS d).map D.bl) M
noncomputable def Mw(m:Bm)(x:D)(M:Store):Bool :=
 match m,x with
 |.append,.ref n=>match M[n]? with|some (.lst _)=>true|_=>false
 |.pop,.ref n=>match M[n]? with|some (.lst _)=>true|_=>false
 |.index,x=>(asList M x).isSome|.N8,.tup _=>true|.get,.ref n=>match M[n]? with|some (.dT _)=>true|some (.dK _)=>true|_=>false
 |_,_=>false
noncomputable def Hx(m:Bm)(o:D)(ds:List D)(M:Store):Res D :=
 match m,o,ds with
 |.append,.ref n,[d]=>match M[n]? with
  |some (.lst xs)=>if xs.length<100000 then .ok .non (M.set n (.lst (xs++[d]))) else .bad
  |_=>.bad
 |.pop,.ref n,[.int i]=>match M[n]? with
  |some (.lst xs)=>match(Rr xs.length i).bind λj=>(xs[j]?).map λd=>(j,d) with
   |some (j,d)=>.ok d (M.set n (.lst (xs.eraseIdx j)))|none=>.bad
  |_=>.bad
 |.index,o,[d]=>Res.ofOpt (((yq M o).bind (Ua M d)).map λj=>D.int (j:Int)) M
 |.N8,.tup xs,[d]=>Res.ofOpt ((Ua M d xs).map λj=>D.int (j:Int)) M
 |.get,.ref n,[k,d]=>match M[n]? with
  |some (.dT kvs)=>Res.ofOpt ((Tc k).map λq=>(Bf kvs q).getD d) M
  |some (.dK kvs)=>Res.ofOpt ((Ve k).map λq=>(Bf kvs q).getD d) M
  |_=>.bad
 |_,_,_=>.bad
noncomputable def setOp(o i v:D)(M:Store):Option Store :=
 match o with
 |.ref n=>match M[n]? with
  |some (.lst xs)=>match i with
   |.int j=>(Rr xs.length j).map λq=>M.set n (.lst (xs.set q v))
   |_=>none
  |some (.dT kvs)=>(Tc i).bind λk=>if kvs.length<100000 then some (M.set n (.dT (Ib kvs k v))) else none
  |some (.dK kvs)=>(Ve i).bind λk=>if kvs.length<100000 then some (M.set n (.dK (Ib kvs k v))) else none
  |_=>none
 |_=>none
noncomputable def Wa(f:Nat)(v:D):List (Nat×D)->List (Nat×D)
 |[]=>[(f,v)]|(g,x)::r=>if g=f then(g,v)::r else(g,x)::Wa f v r
noncomputable def Uc(o:D)(f:Nat)(M:Store):Option D :=
 match o with
 |.ref n=>match M[n]? with
  |some (.ins _ fs)=>fs.lookup f|_=>none
 |_=>none
noncomputable def Ud(o:D)(f:Nat)(v:D)(M:Store):Option Store :=
 match o with
 |.ref n=>match M[n]? with
  |some (.ins c fs)=>if fs.length<1000 then some (M.set n (.ins c (Wa f v fs))) else none
  |_=>none
 |_=>none
inductive Src where
 |con (ds:List D)|live (n:Nat) (len:Nat)
noncomputable def Src.len:Src->Nat
 |.con ds=>ds.length|.live _ k=>k
noncomputable def Src.item(s:Src)(i:Nat)(M:Store):Option D :=
 match s with
 |.con ds=>ds[i]?
 |.live n k=>match M[n]? with
  |some (.lst ds)=>if ds.length=k then ds[i]? else none
  |_=>none
noncomputable def Src.fin(s:Src)(M:Store):Bool :=
 match s with
 |.con _=>true
 |.live n k=>match M[n]? with
  |some (.lst ds)=>ds.length==k|_=>false
noncomputable def srcOf(M:Store)(d:D):Option Src :=
 match d with
 |.tup ds=>some (.con ds)|.vl ds=>some (.con ds)
 |.ref n=>match M[n]? with
  |some (.lst ds)=>some (.live n ds.length)|_=>none
 |_=>none
inductive Flow where
 |next|brk|cont|ret (d:D)
noncomputable def Td:List Nat->List D->Env->Env
 |i::is,d::ds,ρ=>Td is ds (ρ.set i (some d))|_,_,ρ=>ρ
noncomputable def Tg.put(t:Tg)(d:D)(ρ:Env):Option Env :=
 match t with
 |.name i=>some (ρ.set i (some d))
 |.names is=>match d with
  |.tup ds=>if ds.length=is.length then some (Td is ds ρ) else none
  |_=>none
structure Dy where
 call:Nat->List D->Store->Res D
 cls:List Cl
noncomputable def Gf(fin:Store->Bool)(item:Nat->Store->Option D)(body:D->Env->Store->Res (Flow×Env)):Nat->Nat->Env->Store->Res (Flow×Env)
 |0,_,ρ,M=>if fin M then .ok (.next,ρ) M else .bad
 |k+1,i,ρ,M=>match item i M with
  |none=>.bad
  |some d=>(body d ρ M).bind λr M1=>match r.1 with
   |.next=>Gf fin item body k (i+1) r.2 M1|.cont=>Gf fin item body k (i+1) r.2 M1|.brk=>.ok (.next,r.2) M1|.ret v=>.ok (.ret v,r.2) M1
noncomputable def Gn(fin:Store->Bool)(item:Nat->Store->Option D)(body:D->Store->Res (Option D)):Nat->Nat->Store->Res (List D)
 |0,_,M=>if fin M then .ok [] M else .bad
 |k+1,i,M=>match item i M with
  |none=>.bad|some d=>(body d M).bind λo M1=>(Gn fin item body k (i+1) M1).bind λds M2=>.ok (match o with|some x=>x::ds|none=>ds) M2
noncomputable def Al(s:Src)(body:D->Store->Res (Option D))(M:Store):Res (List D):=if s.len<=100000 then Gn s.fin s.item body s.len 0 M else .bad
noncomputable def Jk(c:Env->Store->Res D)(body:Env->Store->Res (Flow×Env)):Nat->Env->Store->Res (Flow×Env)
 |0,_,_=>.bad
 |k+1,ρ,M=>(c ρ M).bind λb M1=>match b with
  |.bl false=>.ok (.next,ρ) M1
  |.bl true=>(body ρ M1).bind λr M2=>match r.1 with
   |.next=>Jk c body k r.2 M2|.cont=>Jk c body k r.2 M2|.brk=>.ok (.next,r.2) M2|.ret v=>.ok (.ret v,r.2) M2
  |_=>.bad
noncomputable def af9:Nat:=1000000
noncomputable def Ks(ds:List D):Nat->List D:=λn=>(ds.zipIdx n).map λp=>D.tup [.int p.2,p.1]
mutual
noncomputable def Ex.den(W:Dy):Ex->Env->Store->Res D
 |.var i,ρ,M=>match ρ[i]? with
  |some (some d)=>.ok d M|_=>.bad
 |.cst d,_,M=>.ok d M|.bin op a b,ρ,M=>(a.den W ρ M).bind λx M1=>(b.den W ρ M1).bind λy M2=>Kg op x y M2
 |.neg a,ρ,M=>(a.den W ρ M).bind λx M1=>match x with|.int i=>.ok (.int (-i)) M1|_=>.bad
 |.cmp op a b,ρ,M=>(a.den W ρ M).bind λx M1=>(b.den W ρ M1).bind λy M2=>Res.ofOpt ((Qe op x y M2).map D.bl) M2
 |.chain o1 o2 a b c,ρ,M=>(a.den W ρ M).bind λx M1=>(b.den W ρ M1).bind λy M2=>(Res.ofOpt (Qe o1 x y M2) M2).bind λq M2=>if q then(c.den W ρ M2).bind λz M3=>Res.ofOpt ((Qe o2 y z M3).map D.bl) M3 else .ok (.bl false) M2
 |.and a b,ρ,M=>(a.den W ρ M).bind λx M1=>match x with|.bl true=>b.den W ρ M1|.bl false=>.ok (.bl false) M1|_=>.bad
 |.or a b,ρ,M=>(a.den W ρ M).bind λx M1=>match x with|.bl true=>.ok (.bl true) M1|.bl false=>b.den W ρ M1|_=>.bad
 |.not a,ρ,M=>(a.den W ρ M).bind λx M1=>match x with|.bl b=>.ok (.bl !b) M1|_=>.bad
 |.ite c a b,ρ,M=>(c.den W ρ M).bind λx M1=>match x with|.bl true=>a.den W ρ M1|.bl false=>b.den W ρ M1|_=>.bad
 |.tup es,ρ,M=>(es.den W ρ M).bind λds M1=>.ok (.tup ds) M1
 |.lst es,ρ,M=>(es.den W ρ M).bind λds M1=>new (.lst ds) M1
 |.Mv es,ρ,M=>(es.den W ρ M).bind λds M1=>.ok (.vl ds) M1
 |.ajo,_,M=>new (.dT []) M|.af4,_,M=>new (.dK []) M|.ix a b,ρ,M=>(a.den W ρ M).bind λx M1=>(b.den W ρ M1).bind λy M2=>Res.ofOpt (Bc x y M2) M2
 |.cut a lo hi,ρ,M=>(a.den W ρ M).bind λx M1=>(lo.den W ρ M1).bind λl M2=>(hi.den W ρ M2).bind λh M3=>Res.ofOpt (cutOp x l h M3) M3
 |.call f es,ρ,M=>(es.den W ρ M).bind λds M1=>W.call f ds M1
 |.make c es,ρ,M=>(es.den W ρ M).bind λds M1=>match W.cls[c]? with
  |some C=>(W.call C.init (.ref M1.length::ds) (M1++[.ins c []])).bind λr M2=>match r with|.non=>.ok (.ref M1.length) M2|_=>.bad
  |none=>.bad
 |.meth o m es,ρ,M=>(o.den W ρ M).bind λx M1=>(es.den W ρ M1).bind λds M2=>match x with
  |.ref n=>match M1[n]? with
   |some (.ins c _)=>match(W.cls[c]?).bind λC=>C.meths.lookup m with
    |some f=>W.call f (.ref n::ds) M2|none=>.bad
   |_=>.bad
  |_=>.bad
 |.fld o f,ρ,M=>(o.den W ρ M).bind λx M1=>Res.ofOpt (Uc x f M1) M1
 |.blt b es,ρ,M=>(es.den W ρ M).bind λds M1=>o6 b ds M1
 |.bm m o es,ρ,M=>(o.den W ρ M).bind λx M1=>if Mw m x M1 then(es.den W ρ M1).bind λds M2=>Hx m x ds M2 else .bad
 |.comp v k t it e,ρ,M=>(it.den W ρ M).bind λs M1 =>
  (Al s (λd M=>match t.put d (ρ++List.replicate k none) with
   |some ρ'=>(e.den W ρ' M).bind λx M'=>.ok (some x) M'
   | none=>.bad) M1).bind λds M2=>if v then .ok (.vl ds) M2 else new (.lst ds) M2
 |.Gm v k t it c e,ρ,M=>(it.den W ρ M).bind λs M1 =>
  (Al s (λd M=>match t.put d (ρ++List.replicate k none) with
   |some ρ'=>(c.den W ρ' M).bind λb M'=>match b with
    |.bl true=>(e.den W ρ' M').bind λx M''=>.ok (some x) M''
    |.bl false=>.ok none M'|_=>.bad
   | none=>.bad) M1).bind λds M2=>if v then .ok (.vl ds) M2 else new (.lst ds) M2
 |.Xk a b,ρ,M=>(a.den W ρ M).bind λx M1 =>
  match(keysOf M1 x).bind Hj with
  |some xs=>if Hk xs then(b.den W ρ M1).bind λy M2 =>
   match(keysOf M2 y).bind Hj with
   |some ys=>if Hk ys then .ok (.bl !Ls xs ys) M2 else .bad
   |none=>.bad
   else .bad
  |none=>.bad
 |.af5 e,ρ,M=>(e.den W ρ M).bind λx M1=>match x with
  |.int i=>if i.natAbs<=100000 then .ok (.tup ((List.range i.toNat).map λ(k:Nat)=>D.int (k:Int))) M1 else .bad
  |_=>.bad
 |.abg e,ρ,M=>(e.den W ρ M).bind λx M1=>match x with
  |.int i=>if i.natAbs<=100000 then new (.lst ((List.range i.toNat).map λ(k:Nat)=>D.int (k:Int))) M1 else .bad
  |_=>.bad
noncomputable def Dr.den(W:Dy):Dr->Env->Store->Res (List D)
 |.nil,_,M=>.ok [] M|.cons e es,ρ,M=>(e.den W ρ M).bind λx M1=>(es.den W ρ M1).bind λxs M2=>.ok (x::xs) M2
noncomputable def Z3.den(W:Dy):Z3->Env->Store->Res (Option Int)
 |.none,_,M=>.ok none M|.some e,ρ,M=>(e.den W ρ M).bind λx M1=>match x with|.int i=>.ok (some i) M1|_=>.bad
noncomputable def Rp.den(W:Dy):Rp->Env->Store->Res Src
 |.val e,ρ,M=>(e.den W ρ M).bind λx M1=>Res.ofOpt (srcOf M1 x) M1
 |.Px e,ρ,M=>(e.den W ρ M).bind λx M1=>match x with
  |.int i=>if i.natAbs<=100000 then .ok (.con ((List.range i.toNat).map λ(k:Nat)=>D.int (k:Int))) M1 else .bad
  |_=>.bad
 |.enm e,ρ,M=>(e.den W ρ M).bind λx M1=>match x with
  |.tup ds=>.ok (.con (Ks ds 0)) M1|.vl ds=>.ok (.con (Ks ds 0)) M1|_=>.bad
 |.zip a b,ρ,M=>(a.den W ρ M).bind λx M1=>(b.den W ρ M1).bind λy M2=>(Res.ofOpt (abj x) M2).bind λds M2=>(Res.ofOpt (abj y) M2).bind λes M2=>.ok (.con ((ds.zip es).map λp=>D.tup [p.1,p.2])) M2
end
noncomputable def Lv.put(W:Dy)(l:Lv)(d:D)(ρ:Env)(M:Store):Res Env :=
 match l with
 |.tg t=>Res.ofOpt (t.put d ρ) M|.sub o i=>(o.den W ρ M).bind λx M1=>(i.den W ρ M1).bind λy M2=>(Res.ofOpt (setOp x y d M2) M2).bind λM3 _=>.ok ρ M3
 |.fld o f=>(o.den W ρ M).bind λx M1=>(Res.ofOpt (Ud x f d M1) M1).bind λM2 _=>.ok ρ M2
mutual
noncomputable def Fl.den(W:Dy):Fl->Env->Store->Res (Flow×Env)
 |.asg l e,ρ,M=>(e.den W ρ M).bind λx M1=>(l.put W x ρ M1).bind fun ρ' M2=>.ok (.next,ρ') M2
 |.expr e,ρ,M=>(e.den W ρ M).bind λ_ M1=>.ok (.next,ρ) M1
 |.iff c a b,ρ,M=>(c.den W ρ M).bind λx M1=>match x with|.bl true=>a.den W ρ M1|.bl false=>b.den W ρ M1|_=>.bad
 |.whl c b,ρ,M=>Jk (c.den W) (b.den W) af9 ρ M
 | .for_ t it b,ρ,M=>(it.den W ρ M).bind λs M1=>Gf s.fin s.item (λd ρ M=>match t.put d ρ with
  | some ρ'=>b.den W ρ' M|none=>.bad) s.len 0 ρ M1
 |.ret e,ρ,M=>(e.den W ρ M).bind λx M1=>.ok (.ret x,ρ) M1
 |.ark,ρ,M=>.ok (.ret .non,ρ) M|.brk,ρ,M=>.ok (.brk,ρ) M|.cont,ρ,M=>.ok (.cont,ρ) M|.pass,ρ,M=>.ok (.next,ρ) M|.raise c es,ρ,M=>(es.den W ρ M).bind λ_ M1=>.err c M1
noncomputable def m7.den(W:Dy):m7->Env->Store->Res (Flow×Env)
 |.nil,ρ,M=>.ok (.next,ρ) M
 |.cons s r,ρ,M=>(s.den W ρ M).bind λp M1=>match p.1 with
  |.next=>r.den W p.2 M1|.brk=>.ok (.brk,p.2) M1|.cont=>.ok (.cont,p.2) M1|.ret d=>.ok (.ret d,p.2) M1
end
structure Prog where
 fns:List Fn
 cls:List Cl
noncomputable def Fn.run(W:Dy)(f:Fn)(ds:List D)(M:Store):Res D :=
 if ds.length=f.np then
  (f.body.den W (ds.map some++List.replicate (f.ns-f.np) none) M).bind λp M1=>match p.1 with
   |.ret d=>.ok d M1|.next=>.ok .non M1|_=>.bad
 else .bad
noncomputable def Prog.call(P:Prog):Nat->Nat->List D->Store->Res D
 |0,_,_,_=>.bad
 |n+1,f,ds,M=>match P.fns[f]? with
  |some F=>F.run ⟨P.call n,P.cls⟩ ds M|none=>.bad
section
variable{W:Dy}{ρ:Env}{M:Store}
@[simp] theorem ahn(i:Nat):(Ex.var i).den W ρ M=match ρ[i]? with|some (some d)=>.ok d M|_=>.bad:=rfl
@[simp high] theorem a81(d:D)(r:Env):(Ex.var 0).den W (some d::r) M=.ok d M:=rfl
@[simp high] theorem a82(a0:Option D)(d:D)(r:Env):(Ex.var 1).den W (a0::some d::r) M=.ok d M:=rfl
@[simp high] theorem a83(a0 a1:Option D)(d:D)(r:Env):(Ex.var 2).den W (a0::a1::some d::r) M=.ok d M:=rfl
@[simp high] theorem a84(a0 a1 a2:Option D)(d:D)(r:Env):(Ex.var 3).den W (a0::a1::a2::some d::r) M=.ok d M:=rfl
@[simp high] theorem a85(a0 a1 a2 a3:Option D)(d:D)(r:Env):(Ex.var 4).den W (a0::a1::a2::a3::some d::r) M=.ok d M:=rfl
@[simp high] theorem a86(a0 a1 a2 a3 a4:Option D)(d:D)(r:Env):(Ex.var 5).den W (a0::a1::a2::a3::a4::some d::r) M=.ok d M:=rfl
@[simp high] theorem a87(a0 a1 a2 a3 a4 a5:Option D)(d:D)(r:Env):(Ex.var 6).den W (a0::a1::a2::a3::a4::a5::some d::r) M=.ok d M:=rfl
@[simp high] theorem a88(a0 a1 a2 a3 a4 a5 a6:Option D)(d:D)(r:Env):(Ex.var 7).den W (a0::a1::a2::a3::a4::a5::a6::some d::r) M=.ok d M:=rfl
@[simp high] theorem a89(a0 a1 a2 a3 a4 a5 a6 a7:Option D)(d:D)(r:Env):(Ex.var 8).den W (a0::a1::a2::a3::a4::a5::a6::a7::some d::r) M=.ok d M:=rfl
@[simp high] theorem a9a(a0 a1 a2 a3 a4 a5 a6 a7 a8:Option D)(d:D)(r:Env):(Ex.var 9).den W (a0::a1::a2::a3::a4::a5::a6::a7::a8::some d::r) M=.ok d M:=rfl
@[simp high] theorem a6w(a0 a1 a2 a3 a4 a5 a6 a7 a8 a9:Option D)(d:D)(r:Env):(Ex.var 10).den W (a0::a1::a2::a3::a4::a5::a6::a7::a8::a9::some d::r) M=.ok d M:=rfl
@[simp high] theorem a6x(a0 a1 a2 a3 a4 a5 a6 a7 a8 a9 a10:Option D)(d:D)(r:Env):(Ex.var 11).den W (a0::a1::a2::a3::a4::a5::a6::a7::a8::a9::a10::some d::r) M=.ok d M:=rfl
@[simp high] theorem a6y(a0 a1 a2 a3 a4 a5 a6 a7 a8 a9 a10 a11:Option D)(d:D)(r:Env):(Ex.var 12).den W (a0::a1::a2::a3::a4::a5::a6::a7::a8::a9::a10::a11::some d::r) M=.ok d M:=rfl
@[simp] theorem Ue(d:D):(Ex.cst d).den W ρ M=.ok d M:=rfl
@[simp] theorem arl(op:Op2)(a b:Ex):(Ex.bin op a b).den W ρ M=(a.den W ρ M).bind λx M1=>(b.den W ρ M1).bind λy M2=>Kg op x y M2:=rfl
@[simp] theorem arn(a:Ex):(Ex.neg a).den W ρ M=(a.den W ρ M).bind λx M1=>match x with|.int i=>.ok (.int (-i)) M1|_=>.bad:=rfl
@[simp] theorem aro(op:Cp)(a b:Ex):(Ex.cmp op a b).den W ρ M=(a.den W ρ M).bind λx M1=>(b.den W ρ M1).bind λy M2=>Res.ofOpt ((Qe op x y M2).map D.bl) M2:=rfl
@[simp] theorem ajp(o1 o2:Cp)(a b c:Ex):(Ex.chain o1 o2 a b c).den W ρ M=(a.den W ρ M).bind λx M1=>(b.den W ρ M1).bind λy M2=>(Res.ofOpt (Qe o1 x y M2) M2).bind λq M2=>if q then(c.den W ρ M2).bind λz M3=>Res.ofOpt ((Qe o2 y z M3).map D.bl) M3 else .ok (.bl false) M2:=rfl
theorem aho(a b:Ex):(Ex.and a b).den W ρ M=(a.den W ρ M).bind λx M1=>match x with|.bl true=>b.den W ρ M1|.bl false=>.ok (.bl false) M1|_=>.bad:=rfl
theorem amk(a b:Ex):(Ex.or a b).den W ρ M=(a.den W ρ M).bind λx M1=>match x with|.bl true=>.ok (.bl true) M1|.bl false=>b.den W ρ M1|_=>.bad:=rfl
@[simp] theorem ahp(a:Ex):(Ex.not a).den W ρ M=(a.den W ρ M).bind λx M1=>match x with|.bl b=>.ok (.bl !b) M1|_=>.bad:=rfl
theorem arp(c a b:Ex):(Ex.ite c a b).den W ρ M=(c.den W ρ M).bind λx M1=>match x with|.bl true=>a.den W ρ M1|.bl false=>b.den W ρ M1|_=>.bad:=rfl
@[simp] theorem arq(es:Dr):(Ex.tup es).den W ρ M=(es.den W ρ M).bind λds M1=>.ok (.tup ds) M1:=rfl
@[simp] theorem ars(es:Dr):(Ex.lst es).den W ρ M=(es.den W ρ M).bind λds M1=>new (.lst ds) M1:=rfl
@[simp] theorem aml(es:Dr):(Ex.Mv es).den W ρ M=(es.den W ρ M).bind λds M1=>.ok (.vl ds) M1:=rfl
@[simp] theorem amm:Ex.ajo.den W ρ M=new (.dT []) M:=rfl
@[simp] theorem amn:Ex.af4.den W ρ M=new (.dK []) M:=rfl
@[simp] theorem ax8(a b:Ex):(Ex.ix a b).den W ρ M=(a.den W ρ M).bind λx M1=>(b.den W ρ M1).bind λy M2=>Res.ofOpt (Bc x y M2) M2:=rfl
@[simp] theorem art(a:Ex)(lo hi:Z3):(Ex.cut a lo hi).den W ρ M=(a.den W ρ M).bind λx M1=>(lo.den W ρ M1).bind λl M2=>(hi.den W ρ M2).bind λh M3=>Res.ofOpt (cutOp x l h M3) M3:=rfl
@[simp] theorem amo(f:Nat)(es:Dr):(Ex.call f es).den W ρ M=(es.den W ρ M).bind λds M1=>W.call f ds M1:=rfl
@[simp] theorem adq(c:Nat)(es:Dr):(Ex.make c es).den W ρ M=(es.den W ρ M).bind λds M1=>match W.cls[c]? with
 |some C=>(W.call C.init (.ref M1.length::ds) (M1++[.ins c []])).bind λr M2=>match r with|.non=>.ok (.ref M1.length) M2|_=>.bad
 |none=>.bad:=rfl
@[simp] theorem Xl(o:Ex)(m:Nat)(es:Dr):(Ex.meth o m es).den W ρ M=(o.den W ρ M).bind λx M1=>(es.den W ρ M1).bind λds M2=>match x with
 |.ref n=>match M1[n]? with
  |some (.ins c _)=>match(W.cls[c]?).bind λC=>C.meths.lookup m with
   |some f=>W.call f (.ref n::ds) M2|none=>.bad
  |_=>.bad
 |_=>.bad:=rfl
@[simp] theorem aru(o:Ex)(f:Nat):(Ex.fld o f).den W ρ M=(o.den W ρ M).bind λx M1=>Res.ofOpt (Uc x f M1) M1:=rfl
@[simp] theorem abk(b:Blt)(es:Dr):(Ex.blt b es).den W ρ M=(es.den W ρ M).bind λds M1=>o6 b ds M1:=rfl
@[simp] theorem amq(m:Bm)(o:Ex)(es:Dr):(Ex.bm m o es).den W ρ M=(o.den W ρ M).bind λx M1=>if Mw m x M1 then(es.den W ρ M1).bind λds M2=>Hx m x ds M2 else .bad:=rfl
@[simp] theorem amr(e:Ex):(Ex.af5 e).den W ρ M=(e.den W ρ M).bind λx M1=>match x with
 |.int i=>if i.natAbs<=100000 then .ok (.tup ((List.range i.toNat).map λ(k:Nat)=>D.int (k:Int))) M1 else .bad
 |_=>.bad:=rfl
@[simp] theorem adt(e:Ex):(Ex.abg e).den W ρ M=(e.den W ρ M).bind λx M1=>match x with
 |.int i=>if i.natAbs<=100000 then new (.lst ((List.range i.toNat).map λ(k:Nat)=>D.int (k:Int))) M1 else .bad
 |_=>.bad:=rfl
theorem Qf(v:Bool)(k:Nat)(t:Tg)(it:Rp)(e:Ex):(Ex.comp v k t it e).den W ρ M=(it.den W ρ M).bind λs M1 =>
 (Al s (λd M=>match t.put d (ρ++List.replicate k none) with
  |some ρ'=>(e.den W ρ' M).bind λx M'=>.ok (some x) M'
  | none=>.bad) M1).bind λds M2=>if v then .ok (.vl ds) M2 else new (.lst ds) M2:=rfl
theorem Xm(v:Bool)(k:Nat)(t:Tg)(it:Rp)(c e:Ex):(Ex.Gm v k t it c e).den W ρ M=(it.den W ρ M).bind λs M1 =>
 (Al s (λd M=>match t.put d (ρ++List.replicate k none) with
  |some ρ'=>(c.den W ρ' M).bind λb M'=>match b with
   |.bl true=>(e.den W ρ' M').bind λx M''=>.ok (some x) M''
   |.bl false=>.ok none M'|_=>.bad
  | none=>.bad) M1).bind λds M2=>if v then .ok (.vl ds) M2 else new (.lst ds) M2:=rfl
@[simp] theorem Ug:Dr.nil.den W ρ M=.ok [] M:=rfl
@[simp] theorem Kq(e:Ex)(es:Dr):(Dr.cons e es).den W ρ M=(e.den W ρ M).bind λx M1=>(es.den W ρ M1).bind λxs M2=>.ok (x::xs) M2:=rfl
@[simp] theorem ajq:Z3.none.den W ρ M=.ok none M:=rfl
@[simp] theorem ajr(e:Ex):(Z3.some e).den W ρ M=(e.den W ρ M).bind λx M1=>match x with|.int i=>.ok (some i) M1|_=>.bad:=rfl
@[simp] theorem Oa(e:Ex):(Rp.val e).den W ρ M=(e.den W ρ M).bind λx M1=>Res.ofOpt (srcOf M1 x) M1:=rfl
@[simp] theorem Uh(e:Ex):(Rp.Px e).den W ρ M=(e.den W ρ M).bind λx M1=>match x with
 |.int i=>if i.natAbs<=100000 then .ok (.con ((List.range i.toNat).map λ(k:Nat)=>D.int (k:Int))) M1 else .bad
 |_=>.bad:=rfl
@[simp] theorem ahq(e:Ex):(Rp.enm e).den W ρ M=(e.den W ρ M).bind λx M1=>match x with
 |.tup ds=>.ok (.con (Ks ds 0)) M1|.vl ds=>.ok (.con (Ks ds 0)) M1|_=>.bad:=rfl
theorem arv(a b:Ex):(Rp.zip a b).den W ρ M=(a.den W ρ M).bind λx M1=>(b.den W ρ M1).bind λy M2=>(Res.ofOpt (abj x) M2).bind λds M2=>(Res.ofOpt (abj y) M2).bind λes M2=>.ok (.con ((ds.zip es).map λp=>D.tup [p.1,p.2])) M2:=rfl
@[simp] theorem abl(l:Lv)(e:Ex):(Fl.asg l e).den W ρ M=(e.den W ρ M).bind λx M1=>(l.put W x ρ M1).bind fun ρ' M2=>.ok (.next,ρ') M2:=rfl
@[simp] theorem arw(e:Ex):(Fl.expr e).den W ρ M=(e.den W ρ M).bind λ_ M1=>.ok (.next,ρ) M1:=rfl
theorem ax9(c:Ex)(a b:m7):(Fl.iff c a b).den W ρ M=(c.den W ρ M).bind λx M1=>match x with|.bl true=>a.den W ρ M1|.bl false=>b.den W ρ M1|_=>.bad:=rfl
@[simp] theorem aya(e:Ex):(Fl.ret e).den W ρ M=(e.den W ρ M).bind λx M1=>.ok (.ret x,ρ) M1:=rfl
@[simp] theorem a6z:Fl.ark.den W ρ M=.ok (.ret .non,ρ) M:=rfl
@[simp] theorem ayb:Fl.brk.den W ρ M=.ok (.brk,ρ) M:=rfl
@[simp] theorem arx:Fl.cont.den W ρ M=.ok (.cont,ρ) M:=rfl
@[simp] theorem arz:Fl.pass.den W ρ M=.ok (.next,ρ) M:=rfl
@[simp] theorem ams(c:Nat)(es:Dr):(Fl.raise c es).den W ρ M=(es.den W ρ M).bind λ_ M1=>.err c M1:=rfl
theorem abm(c:Ex)(b:m7):(Fl.whl c b).den W ρ M=Jk (c.den W) (b.den W) af9 ρ M:=rfl
theorem Vg(t:Tg)(it:Rp)(b:m7):(Fl.for_ t it b).den W ρ M=(it.den W ρ M).bind λs M1=>Gf s.fin s.item (λd ρ M=>match t.put d ρ with
 | some ρ'=>b.den W ρ' M|none=>.bad) s.len 0 ρ M1:=rfl
@[simp] theorem ar0:m7.nil.den W ρ M=.ok (.next,ρ) M:=rfl
theorem amt(s:Fl)(r:m7):(m7.cons s r).den W ρ M=(s.den W ρ M).bind λp M1=>match p.1 with
 |.next=>r.den W p.2 M1|.brk=>.ok (.brk,p.2) M1|.cont=>.ok (.cont,p.2) M1|.ret d=>.ok (.ret d,p.2) M1:=rfl
noncomputable def ajs(W:Dy)(r:m7)(x:Res (Flow×Env)):Res (Flow×Env):=x.bind λp M1=>match p.1 with
 |.next=>r.den W p.2 M1|.brk=>.ok (.brk,p.2) M1|.cont=>.ok (.cont,p.2) M1|.ret d=>.ok (.ret d,p.2) M1
@[simp] theorem a65(s:Fl)(r:m7):(m7.cons s r).den W ρ M=ajs W r (s.den W ρ M):=rfl
@[simp] theorem a2t(r:m7):ajs W r (.ok (.next,ρ) M)=r.den W ρ M:=rfl
@[simp] theorem a66(r:m7):ajs W r (.ok (.brk,ρ) M)=.ok (.brk,ρ) M:=rfl
@[simp] theorem a2u(r:m7):ajs W r (.ok (.cont,ρ) M)=.ok (.cont,ρ) M:=rfl
@[simp] theorem a67(r:m7)(d:D):ajs W r (.ok (.ret d,ρ) M)=.ok (.ret d,ρ) M:=rfl
@[simp] theorem a68(r:m7)(c:Nat):ajs W r (.err c M)=.err c M:=rfl
noncomputable def ifK{α:Type}(a b:Store->Res α)(x:Res D):Res α:=x.bind λx M1=>match x with|.bl true=>a M1|.bl false=>b M1|_=>.bad
@[simp] theorem a2v(c:Ex)(a b:m7):(Fl.iff c a b).den W ρ M=ifK (a.den W ρ) (b.den W ρ) (c.den W ρ M):=rfl
@[simp] theorem a9b(c a b:Ex):(Ex.ite c a b).den W ρ M=ifK (a.den W ρ) (b.den W ρ) (c.den W ρ M):=rfl
@[simp] theorem a9c(a b:Ex):(Ex.and a b).den W ρ M=ifK (b.den W ρ) (.ok (.bl false)) (a.den W ρ M):=rfl
@[simp] theorem bcf(a b:Ex):(Ex.or a b).den W ρ M=ifK (.ok (.bl true)) (b.den W ρ) (a.den W ρ M):=rfl
@[simp] theorem bcg(a b:Store->Res α):ifK a b (.ok (.bl true) M)=a M:=rfl
@[simp] theorem bch(a b:Store->Res α):ifK a b (.ok (.bl false) M)=b M:=rfl
@[simp] theorem a9d(a b:Store->Res α)(c:Nat):ifK a b (.err c M)=.err c M:=rfl
theorem Z7(a b:Ex):(Ex.Xk a b).den W ρ M=(a.den W ρ M).bind λx M1 =>
 match(keysOf M1 x).bind Hj with
 |some xs=>if Hk xs then(b.den W ρ M1).bind λy M2 =>
  match(keysOf M2 y).bind Hj with
  |some ys=>if Hk ys then .ok (.bl !Ls xs ys) M2 else .bad
  |none=>.bad
  else .bad
 |none=>.bad:=rfl
@[simp] theorem amu(t:Tg)(d:D):(Lv.tg t).put W d ρ M=Res.ofOpt (t.put d ρ) M:=rfl
@[simp] theorem ar3(o i:Ex)(d:D):(Lv.sub o i).put W d ρ M=(o.den W ρ M).bind λx M1=>(i.den W ρ M1).bind λy M2=>(Res.ofOpt (setOp x y d M2) M2).bind λM3 _=>.ok ρ M3:=rfl
@[simp] theorem ar4(o:Ex)(f:Nat)(d:D):(Lv.fld o f).put W d ρ M=(o.den W ρ M).bind λx M1=>(Res.ofOpt (Ud x f d M1) M1).bind λM2 _=>.ok ρ M2:=rfl
@[simp] theorem ayd(i:Nat)(d:D):(Tg.name i).put d ρ=some (ρ.set i (some d)):=rfl
@[simp] theorem av1(is:List Nat)(ds:List D)(h:ds.length=is.length):(Tg.names is).put (.tup ds) ρ=some (Td is ds ρ):=by simp[Tg.put,h]
@[simp] theorem av2(i:Nat)(is:List Nat)(d:D)(ds:List D):Td (i::is) (d::ds) ρ=Td is ds (ρ.set i (some d)):=rfl
@[simp] theorem aye(ds:List D):Td [] ds ρ=ρ:=by cases ds<;>rfl
@[simp] theorem a2w(i j:Int):Kg .add (.int i) (.int j) M=.ok (.int (i+j)) M:=rfl
@[simp] theorem a2x(i j:Int):Kg .sub (.int i) (.int j) M=.ok (.int (i-j)) M:=rfl
theorem Qg(i j:Int)(h:(-(2 ^ 64)<i/\i<2 ^ 64)\/(-(2 ^ 64)<j/\j<2 ^ 64)):Kg .mul (.int i) (.int j) M=.ok (.int (i*j)) M:=cu h
theorem Z8(i j:Int)(h:0<j)(h2:j<1073741824):Kg .fdiv (.int i) (.int j) M=.ok (.int (i / j)) M:=cu ⟨h,h2⟩
@[simp] theorem a2y(i j:Int)(h:0<j):Kg .mod (.int i) (.int j) M=.ok (.int (i%j)) M:=cu h
@[simp] theorem ayf:Kg .pow (.int 10) (.int 18) M=.ok (.int (10 ^ 18)) M:=by simp[Kg,av0]
theorem Z9(xs ys:List D)(h:xs.length+ys.length<=100000):Kg .add (.vl xs) (.vl ys) M=.ok (.vl (xs++ys)) M:=cu h
@[simp] theorem a9e(i j:Int):Qe .lt (.int i) (.int j) M=some (decide (i<j)):=rfl
@[simp] theorem a9f(i j:Int):Qe .le (.int i) (.int j) M=some (decide (i<=j)):=rfl
@[simp] theorem cmp_gt(i j:Int):Qe .gt (.int i) (.int j) M=some (decide (j<i)):=rfl
@[simp] theorem a9g(i j:Int):Qe .ge (.int i) (.int j) M=some (decide (j<=i)):=rfl
@[simp] theorem a9h(a b:D):Qe .eq a b M=xx M a b:=rfl
@[simp] theorem a9i(a b:D):Qe .ne a b M=(xx M a b).map not:=rfl
@[simp] theorem a9j(a b:D):Qe .inn a b M=Ub M a b:=rfl
@[simp] theorem a0o(a b:D):Qe .V9 a b M=(Ub M a b).map not:=rfl
theorem ahr(n:Nat)(i j:Int):Hd M (n+1) (.int i) (.int j)=some (decide (i=j)):=rfl
theorem Dt(h1:f a b=some x)(h2:Ov f as bs=some y):Ov f (a::as) (b::bs)=some (x&&y):=by simp[Ov,h1,h2]
@[simp] theorem eq_int(i j:Int):xx M (.int i) (.int j)=some (decide (i=j)):=rfl
@[simp] theorem bci(i j:Bool):xx M (.bl i) (.bl j)=some (i==j):=rfl
@[simp] theorem ajt(ds:List D):asList M (.vl ds)=some ds:=rfl
@[simp] theorem a2z(ds:List D):yq M (.vl ds)=some ds:=rfl
@[simp] theorem a0p(ds:List D):yq M (.tup ds)=some ds:=rfl
theorem j6(h:M[n]?=some (.lst ds)):asList M (.ref n)=some ds:=by simp[asList,h]
theorem Jo(h:asList M d=some ds):yq M d=some ds:=by cases d<;>first|exact h|(simp[asList] at h)
set_option tactic.hygienic true in
theorem len_list(h:asList M d=some ds):o6 .len [d] M=.ok (.int ds.length) M:=by
 show Vf M d=_;cases d with
 |vl xs=>simp[asList] at h;subst h;rfl
 |ref n =>
  simp only[asList] at h;split at h<;>simp at h;rename_i xs hx;subst h;simp[Vf,hx]
 |_=>simp[asList] at h
@[simp] theorem a3a(d:D)(g:D->Res D):Rt [d] g=g d:=rfl
@[simp] theorem a3b(g:D->Res D):Rt [] g=.bad:=rfl
@[simp] theorem a0q(a b:D)(l:List D)(g:D->Res D):Rt (a::b::l) g=.bad:=rfl
@[simp] theorem a9k(i j:Int)(f:Int->Int->Int)(g:D->Option Int):two [.int i,.int j] f g M=.ok (.int (f i j)) M:=rfl
@[simp] theorem ar5(d:D)(f:Int->Int->Int)(g:D->Option Int):two [d] f g M=Res.ofOpt ((g d).map D.int) M:=rfl
@[simp] theorem ayg(ds:List D):Vf M (.tup ds)=.ok (.int ds.length) M:=rfl
@[simp] theorem av3(n:Nat):ahm M (.ref n)=match M[n]? with
 |some (.dT kvs)=>if af8 kvs then new (.dT kvs) M else .bad
 |some (.dK kvs)=>new (.dK kvs) M|_=>.bad:=rfl
theorem Fq(h:asList M d=some ds)(h0:0<=i)(hx:ds[i.toNat]?=some x):Bc d (.int i) M=some x:=by
 obtain⟨hl,hxx⟩:=ak.mp hx;have hi:i<ds.length:=by lia
 cases d with
 |vl xs=>simp[asList] at h;subst h;simp[Bc,yq,Rr,h0,hi,hl,hxx]
 |ref n =>
  simp only[asList] at h;cases e:M[n]? with
  |none=>rw[e] at h;simp at h|some o=>rw[e] at h;cases o<;>simp at h<;>subst h<;>simp[Bc,asList,e,Rr,h0,hi,hl,hxx]
 |_=>simp[asList] at h
theorem N7(h0:0<=i)(hx:ds[i.toNat]?=some x):Bc (.tup ds) (.int i) M=some x:=by
 obtain⟨hl,hxx⟩:=ak.mp hx;have hi:i<ds.length:=by lia
 simp[Bc,yq,Rr,h0,hi,hl,hxx]
theorem a3c(h0:0<=i)(hx:ds[i.toNat]?=some x):Bc (.fz ds) (.int i) M=some x:=by
 obtain⟨hl,hxx⟩:=ak.mp hx;have hi:i<ds.length:=by lia
 simp[Bc,Rr,h0,hi,hl,hxx]
theorem amv:o6 .len [.fz ds] M=.ok (.int ds.length) M:=rfl
@[simp] theorem a69(x:D)(r:List D):Bc (.tup (x::r)) (.int 0) M=some x:=N7 (by decide) rfl
@[simp] theorem a7a(x y:D)(r:List D):Bc (.tup (x::y::r)) (.int 1) M=some y:=N7 (by decide) rfl
@[simp] theorem a7b(x y z:D)(r:List D):Bc (.tup (x::y::z::r)) (.int 2) M=some z:=N7 (by decide) rfl
theorem adu(h:M[n]?=some (.dT kvs))(hk:Tc b=some k):Bc (.ref n) b M=Bf kvs k:=by simp[Bc,h,hk]
theorem a3d(h:M[n]?=some (.dT kvs))(hk:Tc b=some k):Ub M b (.ref n)=some (Bf kvs k).isSome:=by simp[Ub,h,hk]
theorem a3e(h:M[n]?=some (.dK kvs))(hk:Ve b=some k):Bc (.ref n) b M=Bf kvs k:=by simp[Bc,h,hk]
@[simp] theorem aaa(i j:Int):Tc (.tup [.int i,.int j])=some [.inl i,.inl j]:=rfl
@[simp] theorem bck(i:Int):Ve (.int i)=some (.inl i):=rfl
theorem Ik(h:M[n]?=some (.lst xs)):Mw .append (.ref n) M=true:=by simp[Mw,h]
theorem Hl(h:M[n]?=some (.lst xs))(hl:xs.length<100000):Hx .append (.ref n) [d] M=.ok .non (M.set n (.lst (xs++[d]))):=by simp[Hx,h,hl]
theorem W3{i:Int}(h:M[n]?=some (.lst xs))(h0:0<=i)(hi:i<xs.length):setOp (.ref n) (.int i) d M=some (M.set n (.lst (xs.set i.toNat d))):=by simp[setOp,h,Rr,h0,hi]
theorem ayh(h:M[n]?=some (.dT kvs))(hk:Tc b=some k)(hs:kvs.length<100000):setOp (.ref n) b d M=some (M.set n (.dT (Ib kvs k d))):=by simp[setOp,h,hk,hs]
end
section
variable{M:Store}{a b:Nat}{o p:MO}
theorem v5(h:M[a]?=some o):a<M.length:=(ak.mp h).1
theorem qb(h:M[a]?=some p):(M.set a o)[a]?=some o:=by rw[Bl (v5 h)]
theorem m5(h:b≠a):(M.set b o)[a]?=M[a]?:=uz h
theorem vq(h:M[a]?=some o):(M++X)[a]?=some o:=by rw[dq (v5 h)];exact h
@[simp] theorem a7c:(M++[o])[M.length]?=some o:=by simp
end
end MW
namespace Sm
open PySem L2
open MW (Ex Dr Z3 Rp Fl m7 Lv Tg Res Store MO Dy Cp Op2 Blt Bm Kx)
abbrev Dv:=MW.D
abbrev En:=MW.Env
structure Io where
 l:List Addr
 δ:List Addr
def Io.add(ι:Io)(p:Addr):Io:=⟨ι.l++[p],ι.δ⟩
def Io.hide(ι:Io)(p:Addr):Io:=⟨ι.l,p::ι.δ⟩
def Io.off(ι:Io)(a:Addr):Prop:=a∉ι.l/\a∉ι.δ
def aga(K:Fg)(H:Hp)(a:Addr)(vs:List V):Prop :=
 (∃o,H a=some (.Py o (.lst vs))) \/
  ∃(o:Obj)(its:Array Value)(n:Nat),K.lookup a=some o/\o.cls=.type "list"/\o.dict=none/\o.data=.seq its n/\its.size<=sizeLine/\Vals vs its.toList
theorem aga.sq(h:aga K H a vs):Jv K H a vs:=by
 rcases h with⟨o,h⟩|h
 . exact .inl (.inr ⟨o,h⟩)
 . exact .inr h
mutual
inductive Rep(K:Fg)(ι:Io)(H:Hp):Dv->V->Prop
 |non:Rep K ι H .non .non
 |bl (b:Bool):Rep K ι H (.bl b) (.bl b)
 |int (i:Int):Rep K ι H (.int i) (.int i)
 |str (s:Str):Rep K ι H (.str s) (.str s)
 |tup {a:Addr} {ds:List Dv} {vs:List V} (e:H a=some (.tup vs)) (r:kj K ι H ds vs):Rep K ι H (.tup ds) (.ref a)
 |vl {a:Addr} {ds:List Dv} {vs:List V} (e:H a=some (.lst vs)) (n:ι.off a) (r:kj K ι H ds vs):Rep K ι H (.vl ds) (.ref a)
 |fz {a:Addr} {ds:List Dv} {vs:List V} (e:aga K H a vs) (r:kj K ι H ds vs):Rep K ι H (.fz ds) (.ref a)
 |ref {n:Nat} {a:Addr} (e:ι.l[n]?=some a):Rep K ι H (.ref n) (.ref a)
inductive kj(K:Fg)(ι:Io)(H:Hp):List Dv->List V->Prop
 |nil:kj K ι H [] []
 |cons {d:Dv} {v:V} {ds:List Dv} {vs:List V} (h:Rep K ι H d v) (t:kj K ι H ds vs):kj K ι H (d::ds) (v::vs)
end
structure Le(ι:Io)(H:Hp)(ι':Io)(H':Hp):Prop where
 ext:∃Y,ι'.l=ι.l++Y/\∀a∈Y,H a=none
 del:ι'.δ=ι.δ
 tup:∀a vs,H a=some (.tup vs)->H' a=some (.tup vs)
 Py:∀a o u,H a=some (.Py o u)->H' a=some (.Py o u)
 lst:∀a vs,a∉ι.l->H a=some (.lst vs)->H' a=some (.lst vs)
 dom:∀a,H' a=none->H a=none
theorem Le.refl(ι:Io)(H:Hp):Le ι H ι H:=⟨⟨[],by simp,by simp⟩,rfl,λ_ _ h=>h,λ_ _ _ h=>h,λ_ _ _ h=>h,λ_ h=>h⟩
theorem Kh{H H':Hp}(hk:∀a u,H a=some u->∃u',H' a=some u')(h:H' a=none):H a=none:=by
 cases e:H a with
 |none=>rfl|some u=>obtain⟨u',e'⟩:=hk a u e;rw[h] at e';cases e'
theorem Le.get(l:Le ι H ι' H'){n:Nat}(h:ι.l[n]?=some a):ι'.l[n]?=some a:=by obtain⟨Y,e,_⟩:=l.ext;rw[e,dq (ak.mp h).1];exact h
theorem Le.ayi(l:Le ι H ι' H')(h:a∉ι.l)(ha:H a=some o):a∉ι'.l:=by
 obtain⟨Y,e,hy⟩:=l.ext;rw[e];intro m;rcases dw.mp m with q|q
 . exact h q
 . rw[hy a q] at ha;cases ha
theorem Le.out(l:Le ι H ι' H')(h:ι.off a)(ha:H a=some o):ι'.off a:=⟨l.ayi h.1 ha,by rw[l.del];exact h.2⟩
theorem Le.trans(a:Le ι H ι1 H1)(b:Le ι1 H1 ι2 H2):Le ι H ι2 H2:=by
 obtain⟨Y,e1,h1⟩:=a.ext;obtain⟨Z,e2,h2⟩:=b.ext;refine⟨⟨Y++Z,by rw[e2,e1,w6],λx m=>?_⟩,b.del.trans a.del,λx vs h=>b.tup x vs (a.tup x vs h),λx o u h=>b.Py x o u (a.Py x o u h),λx vs n h=>b.lst x vs (a.ayi n h) (a.lst x vs n h),λx h=>a.dom x (b.dom x h)⟩;rcases dw.mp m with q|q
 . exact h1 x q
 . exact a.dom x (h2 x q)
structure LeX(ι:Io)(H:Hp)(ι':Io)(H':Hp):Prop where
 ext:∃Y,ι'.l=ι.l++Y/\∀a∈Y,H a=none
 del:∀a∈ι'.δ,a∈ι.δ\/H a=none
 tup:∀a vs,H a=some (.tup vs)->H' a=some (.tup vs)
 Py:∀a o u,H a=some (.Py o u)->H' a=some (.Py o u)
 lst:∀a vs,a∉ι.l->H a=some (.lst vs)->H' a=some (.lst vs)
theorem Le.toX(l:Le ι H ι' H'):LeX ι H ι' H':=⟨l.ext,λa h=>.inl (by rw[<- l.del];exact h),l.tup,l.Py,l.lst⟩
theorem LeX.get(l:LeX ι H ι' H'){n:Nat}(h:ι.l[n]?=some a):ι'.l[n]?=some a:=by obtain⟨Y,e,_⟩:=l.ext;rw[e,dq (ak.mp h).1];exact h
theorem LeX.out(l:LeX ι H ι' H')(h:ι.off a)(ha:H a=some o):ι'.off a:=by
 obtain⟨Y,e,hy⟩:=l.ext;refine⟨λm=>?_,λm=>?_⟩
 . rw[e] at m
   rcases dw.mp m with q|q
   . exact h.1 q
   . rw[hy a q] at ha;cases ha
 . rcases l.del a m with q|q
   . exact h.2 q
   . rw[q] at ha;cases ha
mutual
theorem Rep.Ie{K:Fg}{ι ι':Io}{H H':Hp}(l:LeX ι H ι' H'):∀{d:Dv}{v:V},Rep K ι H d v->Rep K ι' H' d v
 |_,_,.non=>.non|_,_,.bl b=>.bl b|_,_,.int i=>.int i|_,_,.str s=>.str s|_,_,.tup e r=>.tup (l.tup _ _ e) (kj.Ie l r)|_,_,.vl e n r=>.vl (l.lst _ _ n.1 e) (l.out n e) (kj.Ie l r)
 | _,_,.fz e r=>.fz (by
  rcases e with⟨o,e⟩|e
  . exact .inl ⟨o,l.Py _ _ _ e⟩
  . exact .inr e) (kj.Ie l r)
 |_,_,.ref e=>.ref (l.get e)
theorem kj.Ie{K:Fg}{ι ι':Io}{H H':Hp}(l:LeX ι H ι' H'):∀{ds:List Dv}{vs:List V},kj K ι H ds vs->kj K ι' H' ds vs
 |_,_,.nil=>.nil|_,_,.cons h t=>.cons (Rep.Ie l h) (kj.Ie l t)
end
theorem Rep.mono(l:Le ι H ι' H')(r:Rep K ι H d v):Rep K ι' H' d v:=r.Ie l.toX
theorem kj.mono(l:Le ι H ι' H')(r:kj K ι H ds vs):kj K ι' H' ds vs:=r.Ie l.toX
theorem kj.length{K:Fg}{ι:Io}{H:Hp}:∀{ds:List Dv}{vs:List V},kj K ι H ds vs->ds.length=vs.length
 |_,_,.nil=>rfl|_,_,.cons _ t=>by rw[gf,gf,kj.length t]
theorem kj.get{K:Fg}{ι:Io}{H:Hp}:∀{ds:List Dv}{vs:List V}{i:Nat}{d:Dv},kj K ι H ds vs->ds[i]?=some d->∃v,vs[i]?=some v/\Rep K ι H d v
 |_,_,_,_,.nil,e=>by simp at e|_,_,0,_,.cons h _,e=>by simp at e;subst e;exact⟨_,rfl,h⟩
 |_,_,i+1,d,.cons _ t,e=>by
  obtain⟨v,h1,h2⟩:=kj.get (i:=i) t (by simpa using e);exact⟨v,by simpa using h1,h2⟩
theorem kj.set{K:Fg}{ι:Io}{H:Hp}{d:Dv}{v:V}(r:Rep K ι H d v):∀{ds:List Dv}{vs:List V}(i:Nat),kj K ι H ds vs->kj K ι H (ds.set i d) (vs.set i v)
 |_,_,_,.nil=>.nil|_,_,0,.cons _ t=>.cons r t|_,_,i+1,.cons h t=>.cons h (kj.set r i t)
theorem kj.append{K:Fg}{ι:Io}{H:Hp}:∀{ds es:List Dv}{vs us:List V},kj K ι H ds vs->kj K ι H es us->kj K ι H (ds++es) (vs++us)
 |_,_,_,_,.nil,r=>r|_,_,_,_,.cons h t,r=>.cons h (kj.append t r)
theorem kj.drop{K:Fg}{ι:Io}{H:Hp}:∀{ds:List Dv}{vs:List V}(n:Nat),kj K ι H ds vs->kj K ι H (ds.drop n) (vs.drop n)
 |_,_,0,r=>r|_,_,_+1,.nil=>.nil|_,_,n+1,.cons _ t=>kj.drop n t
theorem kj.take{K:Fg}{ι:Io}{H:Hp}:∀{ds:List Dv}{vs:List V}(n:Nat),kj K ι H ds vs->kj K ι H (ds.take n) (vs.take n)
 |_,_,0,_=>.nil|_,_,_+1,.nil=>.nil|_,_,n+1,.cons h t=>.cons h (kj.take n t)
theorem kj.eraseIdx{K:Fg}{ι:Io}{H:Hp}:∀{ds:List Dv}{vs:List V}(n:Nat),kj K ι H ds vs->kj K ι H (ds.eraseIdx n) (vs.eraseIdx n)
 |_,_,_,.nil=>.nil|_,_,0,.cons _ t=>t|_,_,n+1,.cons h t=>.cons h (kj.eraseIdx n t)
theorem kj.ints{K:Fg}{ι:Io}{H:Hp}:∀(ns:List Int),kj K ι H (ns.map MW.D.int) (ns.map V.int)
 |[]=>.nil|n::r=>.cons (.int n) (kj.ints r)
structure Nm where
 cls:Nat->Option Addr
 fld:Nat->Str
 inj:∀i j,fld i=fld j->i=j
inductive ou{κ κ':Type}(K:Fg)(ι:Io)(H:Hp)(f:κ->κ'->Prop):List (κ×Dv)->List (κ'×V)->Prop
 |nil:ou K ι H f [] []
 |cons {k:κ} {k':κ'} {d:Dv} {v:V} {l:List (κ×Dv)} {l':List (κ'×V)} (hk:f k k') (h:Rep K ι H d v) (t:ou K ι H f l l'):ou K ι H f ((k,d)::l) ((k',v)::l')
theorem ou.mono{κ κ':Type}{K:Fg}{ι ι':Io}{H H':Hp}{f:κ->κ'->Prop}(le:Le ι H ι' H'):∀{l:List (κ×Dv)}{l':List (κ'×V)},ou K ι H f l l'->ou K ι' H' f l l'
 |_,_,.nil=>.nil|_,_,.cons k h t=>.cons k (h.mono le) (ou.mono le t)
def Jx(nm:Nm)(K:Fg)(ι:Io)(H:Hp)(o:MO)(a:Addr):Prop :=
 match o with
 |.lst ds=>∃vs,H a=some (.lst vs)/\kj K ι H ds vs|.dT kvs=>∃l,H a=some (.dT l)/\ou K ι H (λk k'=>k=k') kvs l
 |.dK kvs=>∃l,H a=some (.dK l)/\ou K ι H (λk k'=>k=k') kvs l
 |.ins c fs=>∃C dx l,nm.cls c=some C/\H a=some (.ins C dx l)/\ou K ι H (λk k'=>k'=nm.fld k) fs l
structure kh(nm:Nm)(K:Fg)(ι:Io)(H:Hp)(M:Store):Prop where
 len:ι.l.length=M.length
 nd:ι.l.Nodup
 del:∀a∈ι.δ,a∉ι.l/\∃vs,H a=some (.lst vs)
 obj:∀(n:Nat)(o:MO)(a:Addr),M[n]?=some o->ι.l[n]?=some a->Jx nm K ι H o a
theorem Jx.some(h:Jx nm K ι H o a):∃u,H a=some u/\Mut (H a):=by
 cases o with
 |lst ds=>obtain⟨vs,e,_⟩:=h;exact⟨_,e,by rw[e];trivial⟩
 |dT kvs=>obtain⟨vs,e,_⟩:=h;exact⟨_,e,by rw[e];trivial⟩
 |dK kvs=>obtain⟨vs,e,_⟩:=h;exact⟨_,e,by rw[e];trivial⟩
 |ins c fs=>obtain⟨C,dx,l,_,e,_⟩:=h;exact⟨_,e,by rw[e];trivial⟩
theorem kh.addr(S:kh nm K ι H M){n:Nat}(h:M[n]?=some o):∃a,ι.l[n]?=some a/\Jx nm K ι H o a:=by
 have hl:n < ι.l.length:=by rw[S.len];exact MW.v5 h
 exact⟨ι.l[n],by simp[hl],S.obj n o _ h (by simp[hl])⟩
theorem kh.mem(S:kh nm K ι H M)(h:a∈ι.l):∃u,H a=some u/\Mut (H a):=by
 obtain⟨n,hn,rfl⟩:=uc h;have hm:n<M.length:=by rw[<- S.len];exact hn
 exact(S.obj n M[n] ι.l[n] (by simp[hm]) (by simp[hn])).some
theorem kh.fresh(S:kh nm K ι H M)(h:H a=none):ι.off a:=by
 refine⟨λm=>?_,λm=>?_⟩
 . obtain⟨u,e,_⟩:=S.mem m
   rw[h] at e;cases e
 . obtain⟨_,vs,e⟩:=S.del a m
   rw[h] at e;cases e
theorem Jx.move(h:Jx nm K ι H o a)(le:Le ι H ι' H')(e:H' a=H a):Jx nm K ι' H' o a:=by
 cases o with
 |lst ds=>obtain⟨vs,q,r⟩:=h;exact⟨vs,e.trans q,r.mono le⟩
 |dT kvs=>obtain⟨vs,q,r⟩:=h;exact⟨vs,e.trans q,r.mono le⟩
 |dK kvs=>obtain⟨vs,q,r⟩:=h;exact⟨vs,e.trans q,r.mono le⟩
 |ins c fs=>obtain⟨C,dx,l,hc,q,r⟩:=h;exact⟨C,dx,l,hc,e.trans q,r.mono le⟩
theorem kh.laid(S:kh nm K ι H M)(h:H p=none)(o:HO):kh nm K ι (upd H p o) M/\Le ι H ι (upd H p o):=by
 have ne:∀a u,H a=some u->a≠p:=λa u e=>j5 e h
 have le:Le ι H ι (upd H p o):=⟨⟨[],by simp,by simp⟩,rfl,λa vs e=>by rw[j4 (ne a _ e)];exact e,λa _ u e=>by rw[j4 (ne a _ e)];exact e,λa vs _ e=>by rw[j4 (ne a _ e)];exact e,
  λa h'=>Kh (λb u e=>⟨u,by rw[j4 (ne b _ e)];exact e⟩) h'⟩
 refine⟨⟨S.len,S.nd,λa ha=>?_,λn o' a hn ha=>?_⟩,le⟩
 . obtain⟨h1,vs,h2⟩:=S.del a ha
   exact⟨h1,vs,le.lst a vs h1 h2⟩
 . have q:=S.obj n o' a hn ha
   obtain⟨u,e,_⟩:=q.some;exact q.move le (by rw[j4 (ne a u e)])
theorem Dz{α:Type}{l:List α}{x y:α}(h:(l++[x])[n]?=some y):(l[n]?=some y)\/(n=l.length/\y=x):=by
 rcases Bo n l.length with q|q
 . rw[dq q] at h;exact .inl h
 . rw[je q] at h
   have:n-l.length=0:=by
    rcases Ef (n-l.length) with z|z
    . exact z
    . rw[qm (by simp;exact z)] at h;cases h
   rw[this] at h;simp at h;exact .inr ⟨by lia,h.symm⟩
theorem kh.new(S:kh nm K ι H M)(h:H p=none)(hk:∀a u,H a=some u->H' a=some u)(ho:Le ι H (ι.add p) H'->Jx nm K (ι.add p) H' o p):kh nm K (ι.add p) H' (M++[o])/\Le ι H (ι.add p) H':=by
 have le:Le ι H (ι.add p) H':=⟨⟨[p],rfl,by simpa using h⟩,rfl,λa vs e=>hk _ _ e,λa _ u e=>hk _ _ e,λa vs _ e=>hk _ _ e,λa h'=>Kh (H:=H) (H':=H') (λb u e=>⟨u,hk b u e⟩) h'⟩;refine⟨⟨by simp[Io.add,S.len],?_,λa ha=>?_,λn o' a hn ha=>?_⟩,le⟩
 . exact zm.mpr ⟨S.nd,by simp,by
    intro x hx y hy;have:y=p:=by simpa using hy
    subst this;intro e;subst e;exact(S.fresh h).1 hx⟩
 . obtain⟨h1,vs,h2⟩:=S.del a ha
   exact⟨le.ayi h1 h2,vs,hk _ _ h2⟩
 . rcases Dz hn with q|⟨q,rfl⟩
   . rcases Dz ha with r|⟨r,_⟩
     . have z:=S.obj n o' a q r
       obtain⟨u,e,_⟩:=z.some;exact z.move le ((hk a u e).trans e.symm)
     . exact absurd (MW.v5 q) (by rw[r,S.len];exact qd _)
   . rcases Dz ha with r|⟨_,rfl⟩
     . exact absurd (ak.mp r).1 (by rw[q,S.len];exact qd _)
     . exact ho le
theorem kh.put(S:kh nm K ι H M)(hn:M[n]?=some o₀)(ha:ι.l[n]?=some a)(ho:Le ι H ι (upd H a u)->Jx nm K ι (upd H a u) o a):kh nm K ι (upd H a u) (M.set n o)/\Le ι H ι (upd H a u):=by
 obtain⟨u₀,e₀,m₀⟩:=(S.obj n o₀ a hn ha).some;have hm:a∈ι.l:=az ha;have le:Le ι H ι (upd H a u):=⟨⟨[],by simp,by simp⟩,rfl,λb vs e=>by rw[j4 (λz=>by subst z;rw[e] at m₀;exact m₀)];exact e,
  λb _ _ e=>by rw[j4 (λz=>by subst z;rw[e] at m₀;exact m₀)];exact e,λb vs nb e=>by rw[j4 (λz=>by subst z;exact nb hm)];exact e,λb h'=>Kh (λc w e=>by
   by_cases z:c=a
   . exact⟨u,by rw[z,uy]⟩
   . exact⟨w,by rw[j4 z];exact e⟩) h'⟩
 refine⟨⟨by rw[G5];exact S.len,S.nd,λb hb=>?_,λm o' b hm' hb=>?_⟩,le⟩
 . obtain⟨h1,vs,h2⟩:=S.del b hb
   exact⟨h1,vs,le.lst b vs h1 h2⟩
 by_cases q:m=n
 . subst q
   rw[MW.qb hn] at hm';cases hm';rw[ha] at hb;cases hb;exact ho le
 . rw[MW.m5 (jz q)] at hm'
   have z:=S.obj m o' b hm' hb;have nb:b≠a:=λe=>by subst e;obtain⟨l1,e1⟩:=ak.mp hb;obtain⟨l2,e2⟩:=ak.mp ha;exact q ((qz S.nd).mp (e1.trans e2.symm))
   exact z.move le (by rw[j4 nb])
mutual
theorem Rep.hide{K:Fg}{ι:Io}{H:Hp}{D:Addr}{o:HO}(hD:H D=none):∀{d:Dv}{v:V},Rep K ι H d v->Rep K (ι.hide D) (upd H D o) d v
 |_,_,.non=>.non|_,_,.bl b=>.bl b|_,_,.int i=>.int i|_,_,.str s=>.str s|_,_,.tup e r=>.tup (by rw[j4 (j5 e hD)];exact e) (kj.hide hD r)
 | _,_,.vl e n r=>.vl (by rw[j4 (j5 e hD)];exact e) ⟨n.1,λm=>by
  rcases bw.mp m with q|q
  . exact j5 e hD q
  . exact n.2 q⟩ (kj.hide hD r)
 | _,_,.fz e r=>.fz (by
  rcases e with⟨q,e⟩|e
  . exact .inl ⟨q,by rw[j4 (j5 e hD)];exact e⟩
  . exact .inr e) (kj.hide hD r)
 |_,_,.ref e=>.ref e
theorem kj.hide{K:Fg}{ι:Io}{H:Hp}{D:Addr}{o:HO}(hD:H D=none):∀{ds:List Dv}{vs:List V},kj K ι H ds vs->kj K (ι.hide D) (upd H D o) ds vs
 |_,_,.nil=>.nil|_,_,.cons h t=>.cons (Rep.hide hD h) (kj.hide hD t)
end
mutual
theorem Rep.grow{K:Fg}{ι:Io}{H:Hp}{D:Addr}{vs ws:List V}(hD:H D=some (.lst vs))(hm:D∈ι.δ):∀{d:Dv}{v:V},Rep K ι H d v->Rep K ι (upd H D (.lst ws)) d v
 |_,_,.non=>.non|_,_,.bl b=>.bl b|_,_,.int i=>.int i|_,_,.str s=>.str s|_,_,.tup e r=>.tup (by rw[j4 (alc e hD (by intro z;cases z))];exact e) (kj.grow hD hm r)|_,_,.vl e n r=>.vl (by rw[j4 (λz=>by subst z;exact n.2 hm)];exact e) n (kj.grow hD hm r)
 | _,_,.fz e r=>.fz (by
  rcases e with⟨q,e⟩|e
  . exact .inl ⟨q,by rw[j4 (alc e hD (by intro z;cases z))];exact e⟩
  . exact .inr e) (kj.grow hD hm r)
 |_,_,.ref e=>.ref e
theorem kj.grow{K:Fg}{ι:Io}{H:Hp}{D:Addr}{vs ws:List V}(hD:H D=some (.lst vs))(hm:D∈ι.δ):∀{ds:List Dv}{us:List V},kj K ι H ds us->kj K ι (upd H D (.lst ws)) ds us
 |_,_,.nil=>.nil|_,_,.cons h t=>.cons (Rep.grow hD hm h) (kj.grow hD hm t)
end
mutual
theorem Rep.show{K:Fg}{ι:Io}{H:Hp}{D:Addr}:∀{d:Dv}{v:V},Rep K (ι.hide D) H d v->Rep K ι H d v
 |_,_,.non=>.non|_,_,.bl b=>.bl b|_,_,.int i=>.int i|_,_,.str s=>.str s|_,_,.tup e r=>.tup e (kj.show r)
 |_,_,.vl e n r=>.vl e ⟨n.1,λm=>n.2 (bh _ m)⟩ (kj.show r)
 |_,_,.fz e r=>.fz e (kj.show r)
 |_,_,.ref e=>.ref e
theorem kj.show{K:Fg}{ι:Io}{H:Hp}{D:Addr}:∀{ds:List Dv}{vs:List V},kj K (ι.hide D) H ds vs->kj K ι H ds vs
 |_,_,.nil=>.nil|_,_,.cons h t=>.cons (Rep.show h) (kj.show t)
end
theorem ou.map{κ κ':Type}{K:Fg}{ι ι':Io}{H H':Hp}{f:κ->κ'->Prop}(g:∀d v,Rep K ι H d v->Rep K ι' H' d v):∀{l:List (κ×Dv)}{l':List (κ'×V)},ou K ι H f l l'->ou K ι' H' f l l'
 |_,_,.nil=>.nil|_,_,.cons k h t=>.cons k (g _ _ h) (ou.map g t)
theorem kj.map{K:Fg}{ι ι':Io}{H H':Hp}(g:∀d v,Rep K ι H d v->Rep K ι' H' d v):∀{l:List Dv}{l':List V},kj K ι H l l'->kj K ι' H' l l'
 |_,_,.nil=>.nil|_,_,.cons h t=>.cons (g _ _ h) (kj.map g t)
theorem Jx.map(g:∀d v,Rep K ι H d v->Rep K ι' H' d v)(h:Jx nm K ι H o a)(e:H' a=H a):Jx nm K ι' H' o a:=by
 cases o with
 |lst ds=>obtain⟨vs,q,r⟩:=h;exact⟨vs,e.trans q,r.map g⟩
 |dT kvs=>obtain⟨vs,q,r⟩:=h;exact⟨vs,e.trans q,r.map g⟩
 |dK kvs=>obtain⟨vs,q,r⟩:=h;exact⟨vs,e.trans q,r.map g⟩
 |ins c fs=>obtain⟨C,dx,l,hc,q,r⟩:=h;exact⟨C,dx,l,hc,e.trans q,r.map g⟩
theorem kh.hide(S:kh nm K ι H M)(hD:H D=none):kh nm K (ι.hide D) (upd H D (.lst [])) M:=by
 refine⟨S.len,S.nd,λa ha=>?_,λn o a hn ha=>?_⟩
 . rcases bw.mp ha with q|q
   . subst q;exact⟨(S.fresh hD).1,[],uy⟩
   . obtain⟨h1,vs,h2⟩:=S.del a q
     exact⟨h1,vs,by rw[j4 (j5 h2 hD)];exact h2⟩
 . have z:=S.obj n o a hn ha
   obtain⟨u,e,_⟩:=z.some;exact z.map (λd v r=>r.hide hD) (by rw[j4 (j5 e hD)])
theorem kh.grow(S:kh nm K ι H M)(hD:H D=some (.lst vs))(hm:D∈ι.δ):kh nm K ι (upd H D (.lst ws)) M:=by
 refine⟨S.len,S.nd,λa ha=>?_,λn o a hn ha=>?_⟩
 . obtain⟨h1,us,h2⟩:=S.del a ha
   by_cases z:a=D
   . subst z;exact⟨h1,ws,uy⟩
   . exact⟨h1,us,by rw[j4 z];exact h2⟩
 . have z:=S.obj n o a hn ha
   have ne:a≠D:=λe=>by subst e;exact(S.del a hm).1 (az ha)
   exact z.map (λd v r=>r.grow hD hm) (by rw[j4 ne])
theorem kh.show(S:kh nm K (ι.hide D) H M):kh nm K ι H M :=
 ⟨S.len,S.nd,λa ha=>S.del a (bh _ ha),λn o a hn ha=>(S.obj n o a hn ha).map (λd v r=>r.show) rfl⟩
structure LeD(D:Addr)(ι:Io)(H:Hp)(ι':Io)(H':Hp):Prop where
 ext:∃Y,ι'.l=ι.l++Y/\∀a∈Y,H a=none
 del:ι'.δ=D::ι.δ
 tup:∀a vs,H a=some (.tup vs)->H' a=some (.tup vs)
 Py:∀a o u,H a=some (.Py o u)->H' a=some (.Py o u)
 lst:∀a vs,a∉ι.l->H a=some (.lst vs)->H' a=some (.lst vs)
 dom:∀a,H' a=none->H a=none
theorem LeD.toX(l:LeD D ι H ι' H')(hD:H D=none):LeX ι H ι' H':=⟨l.ext,λa h=>by
 rw[l.del] at h;rcases bw.mp h with q|q
 . exact .inr (by rw[q];exact hD)
 . exact .inl q,l.tup,l.Py,l.lst⟩
theorem LeD.start(hD:H D=none)(o:HO):LeD D ι H (ι.hide D) (upd H D o) :=
 ⟨⟨[],by simp[Io.hide],by simp⟩,rfl,λa vs e=>by rw[j4 (j5 e hD)];exact e,λa _ _ e=>by rw[j4 (j5 e hD)];exact e,λa vs _ e=>by rw[j4 (j5 e hD)];exact e,
  λa h'=>Kh (λb u e=>⟨u,by rw[j4 (j5 e hD)];exact e⟩) h'⟩
theorem LeD.go(a:LeD D ι H ι1 H1)(b:Le ι1 H1 ι2 H2):LeD D ι H ι2 H2:=by
 obtain⟨Y,e1,h1⟩:=a.ext;obtain⟨Z,e2,h2⟩:=b.ext;have out:∀x o,x∉ι.l->H x=some o->x∉ι1.l:=λx o n h m=>by
  rw[e1] at m;rcases dw.mp m with q|q
  . exact n q
  . rw[h1 x q] at h;cases h
 refine⟨⟨Y++Z,by rw[e2,e1,w6],λx m=>?_⟩,b.del.trans a.del,λx vs h=>b.tup x vs (a.tup x vs h),λx o u h=>b.Py x o u (a.Py x o u h),λx vs n h=>b.lst x vs (out x _ n h) (a.lst x vs n h),λx h=>a.dom x (b.dom x h)⟩;rcases dw.mp m with q|q
 . exact h1 x q
 . exact a.dom x (h2 x q)
theorem LeD.grow(a:LeD D ι H ι1 H1)(h0:H D=none)(hD:H1 D=some (.lst vs)):LeD D ι H ι1 (upd H1 D (.lst ws)) :=
 ⟨a.ext,a.del,λx us h=>by rw[j4 (j5 h h0)];exact a.tup x us h,λx o u h=>by rw[j4 (j5 h h0)];exact a.Py x o u h,λx us n h=>by rw[j4 (j5 h h0)];exact a.lst x us n h,
  λx h=>a.dom x (by
   by_cases z:x=D
   . rw[z,uy] at h;cases h
   . rw[j4 z] at h;exact h)⟩
theorem LeD.done(a:LeD D ι H ⟨ι1.l,D::ι1.δ⟩ H1):Le ι H ι1 H1 :=
 ⟨a.ext,(List.cons.inj a.del).2,a.tup,a.Py,a.lst,a.dom⟩
inductive tu(K:Fg)(ι:Io)(H:Hp):En->St->Prop
 |nil:tu K ι H [] []
 |skp {y:Option V} {ρ:En} {σ:St} (t:tu K ι H ρ σ):tu K ι H (none::ρ) (y::σ)
 |has {d:Dv} {v:V} {ρ:En} {σ:St} (h:Rep K ι H d v) (t:tu K ι H ρ σ):tu K ι H (some d::ρ) (some v::σ)
theorem tu.Ie{K:Fg}{ι ι':Io}{H H':Hp}(le:LeX ι H ι' H'):∀{ρ:En}{σ:St},tu K ι H ρ σ->tu K ι' H' ρ σ
 |_,_,.nil=>.nil|_,_,.skp t=>.skp (tu.Ie le t)|_,_,.has h t=>.has (h.Ie le) (tu.Ie le t)
theorem tu.mono{K:Fg}{ι ι':Io}{H H':Hp}(le:Le ι H ι' H'):∀{ρ:En}{σ:St},tu K ι H ρ σ->tu K ι' H' ρ σ
 |_,_,.nil=>.nil|_,_,.skp t=>.skp (tu.mono le t)|_,_,.has h t=>.has (h.mono le) (tu.mono le t)
theorem tu.get{K:Fg}{ι:Io}{H:Hp}:∀{ρ:En}{σ:St}{i:Nat}{d:Dv},tu K ι H ρ σ->ρ[i]?=some (some d)->∃v,σ[i]?=some (some v)/\Rep K ι H d v
 |_,_,_,_,.nil,e=>by simp at e|_,_,0,_,.skp _,e=>by simp at e|_,_,0,_,.has h _,e=>by simp at e;subst e;exact⟨_,rfl,h⟩
 |_,_,i+1,d,.skp t,e=>by
  obtain⟨v,h1,h2⟩:=tu.get (i:=i) t (by simpa using e);exact⟨v,by simpa using h1,h2⟩
 |_,_,i+1,d,.has _ t,e=>by
  obtain⟨v,h1,h2⟩:=tu.get (i:=i) t (by simpa using e);exact⟨v,by simpa using h1,h2⟩
theorem tu.set{K:Fg}{ι:Io}{H:Hp}{d:Dv}{v:V}(r:Rep K ι H d v):∀{ρ:En}{σ:St}(i:Nat),tu K ι H ρ σ->tu K ι H (ρ.set i (some d)) (σ.set i (some v))
 |_,_,_,.nil=>.nil|_,_,0,.skp t=>.has r t|_,_,0,.has _ t=>.has r t|_,_,i+1,.skp t=>.skp (tu.set r i t)|_,_,i+1,.has h t=>.has h (tu.set r i t)
theorem tu.length{K:Fg}{ι:Io}{H:Hp}:∀{ρ:En}{σ:St},tu K ι H ρ σ->ρ.length=σ.length
 |_,_,.nil=>rfl|_,_,.skp t=>by rw[gf,gf,tu.length t]|_,_,.has _ t=>by rw[gf,gf,tu.length t]
theorem tu.append{K:Fg}{ι:Io}{H:Hp}:∀{ρ ρ':En}{σ σ':St},tu K ι H ρ σ->tu K ι H ρ' σ'->tu K ι H (ρ++ρ') (σ++σ')
 |_,_,_,_,.nil,r=>r|_,_,_,_,.skp t,r=>.skp (tu.append t r)|_,_,_,_,.has h t,r=>.has h (tu.append t r)
theorem tu.nones{K:Fg}{ι:Io}{H:Hp}:∀(k:Nat){σ:St},σ.length=k->tu K ι H (List.replicate k none) σ
 |0,[],_=>.nil|k+1,_::r,h=>.skp (tu.nones k (by simpa using h))
theorem tu.amw{K:Fg}{ι:Io}{H:Hp}:∀{ds:List Dv}{vs:List V},kj K ι H ds vs->tu K ι H (ds.map some) (vs.map some)
 |_,_,.nil=>.nil|_,_,.cons h t=>.has h (tu.amw t)
theorem dm{r:Res α}{f:α->Store->Res β}{b:β}(h:r.bind f=.ok b M):∃a M1,r=.ok a M1/\f a M1=.ok b M:=by
 cases r with
 |ok a M1=>exact⟨a,M1,rfl,h⟩|err c M1=>cases h|bad=>cases h
theorem rz{o:Option α}{a:α}(h:Res.ofOpt o M=.ok a M'):o=some a/\M'=M:=by
 cases o with
 |none=>cases h|some x=>cases h;exact⟨rfl,rfl⟩
theorem PE.weak(h:PE X e t)(w:∀σ H Q,t' σ H Q->t σ H Q):PE X e t':=λpins s σ H Q I q=>h pins s σ H Q I (w σ H Q q)
theorem PT.weak(h:PT X e t)(w:∀σ H Q,t' σ H Q->t σ H Q):PT X e t':=λpins s σ H Q I q=>h pins s σ H Q I (w σ H Q q)
theorem PA.weak(h:PA X es t)(w:∀σ H Q,t' σ H Q->t σ H Q):PA X es t':=λpos pins s σ H Q I q=>h pos pins s σ H Q I (w σ H Q q)
theorem PS.weak(h:PS X e t)(w:∀D σ H,t' D σ H->t D σ H):PS X e t':=λpins s σ H D I q=>h pins s σ H D I (w D σ H q)
theorem T5.weak(h:T5 X e t)(w:∀D σ H,t' D σ H->t D σ H):T5 X e t':=λpins s σ H D I q=>h pins s σ H D I (w D σ H q)
theorem Ge.weak(h:Ge X f r)(w:∀x y H Q,r' x y H Q->r x y H Q):Ge X f r':=λpins s σ H x y v u Q I rx ry q=>h pins s σ H x y v u Q I rx ry (w x y H Q q)
section
variable(nm:Nm)(W:Dy)(K:Fg)
def tE(e:Ex):TE:=fun σ H Q=>∃ι ρ M d M',kh nm K ι H M/\tu K ι H ρ σ/\e.den W ρ M=.ok d M'/\∀ι' H' v,Le ι H ι' H'->kh nm K ι' H' M'->Rep K ι' H' d v->Q v H'
def tQ(e:Ex):TT:=fun σ H Q=>∃ι ρ M b M',kh nm K ι H M/\tu K ι H ρ σ/\e.den W ρ M=.ok (.bl b) M'/\∀ι' H',Le ι H ι' H'->kh nm K ι' H' M'->Q b H'
def W4(es:Dr):TA:=fun σ H Q=>∃ι ρ M ds M',kh nm K ι H M/\tu K ι H ρ σ/\es.den W ρ M=.ok ds M'/\∀ι' H' vs,Le ι H ι' H'->kh nm K ι' H' M'->kj K ι' H' ds vs->Q vs H'
def Xn(D:Ends)(ι:Io)(H:Hp)(fl:MW.Flow)(ρ:En)(M:Store):Prop :=
 ∀ι' H' σ',Le ι H ι' H'->kh nm K ι' H' M->tu K ι' H' ρ σ' ->
  match fl with
  |.next=>D.nx σ' H'|.brk=>D.bk σ' H'|.cont=>D.ct σ' H'|.ret d=>∀v,Rep K ι' H' d v->D.rt v H'
def tS(st:Fl):TS:=λD σ H=>∃ι ρ M fl ρ' M',kh nm K ι H M/\tu K ι H ρ σ/\st.den W ρ M=.ok (fl,ρ') M'/\Xn nm K D ι H fl ρ' M'
def tSs(st:m7):TS:=λD σ H=>∃ι ρ M fl ρ' M',kh nm K ι H M/\tu K ι H ρ σ/\st.den W ρ M=.ok (fl,ρ') M'/\Xn nm K D ι H fl ρ' M'
end
section
variable{nm:Nm}{W:Dy}{X:Cx}{a:Expr}
theorem PE.of(h:PE X a t)(w:∀σ H Q ι ρ M d M',kh nm X.K ι H M->tu X.K ι H ρ σ->e'.den W ρ M=.ok d M'->(∀ι' H' v,Le ι H ι' H'->kh nm X.K ι' H' M'->Rep X.K ι' H' d v->Q v H')->t σ H Q):PE X a (tE nm W X.K e'):=PE.weak h fun σ H Q ⟨ι,ρ,M,d,M',S,R,e,q⟩=>w σ H Q ι ρ M d M' S R e q
theorem PT.of(h:PT X a t)(w:∀σ H Q ι ρ M b M',kh nm X.K ι H M->tu X.K ι H ρ σ->e'.den W ρ M=.ok (.bl b) M'->(∀ι' H',Le ι H ι' H'->kh nm X.K ι' H' M'->Q b H')->t σ H Q):PT X a (tQ nm W X.K e'):=PT.weak h fun σ H Q ⟨ι,ρ,M,d,M',S,R,e,q⟩=>w σ H Q ι ρ M d M' S R e q
theorem PA.of(h:PA X es t)(w:∀σ H Q ι ρ M ds M',kh nm X.K ι H M->tu X.K ι H ρ σ->es'.den W ρ M=.ok ds M'->(∀ι' H' vs,Le ι H ι' H'->kh nm X.K ι' H' M'->kj X.K ι' H' ds vs->Q vs H')->t σ H Q):PA X es (W4 nm W X.K es'):=PA.weak h fun σ H Q ⟨ι,ρ,M,d,M',S,R,e,q⟩=>w σ H Q ι ρ M d M' S R e q
theorem PS.of(h:PS X st t)(w:∀D σ H ι ρ M fl ρ' M',kh nm X.K ι H M->tu X.K ι H ρ σ->s'.den W ρ M=.ok (fl,ρ') M'->Xn nm X.K D ι H fl ρ' M'->t D σ H):PS X st (tS nm W X.K s'):=PS.weak h λD σ H ⟨ι,ρ,M,fl,ρ',M',S,R,e,q⟩=>w D σ H ι ρ M fl ρ' M' S R e q
theorem T5.of(h:T5 X st t)(w:∀D σ H ι ρ M fl ρ' M',kh nm X.K ι H M->tu X.K ι H ρ σ->s'.den W ρ M=.ok (fl,ρ') M'->Xn nm X.K D ι H fl ρ' M'->t D σ H):T5 X st (tSs nm W X.K s'):=T5.weak h λD σ H ⟨ι,ρ,M,fl,ρ',M',S,R,e,q⟩=>w D σ H ι ρ M fl ρ' M' S R e q
end
section
variable{nm:Nm}{W:Dy}{X:Cx}{a b c:Expr}{a' b' c':Ex}{pos:Pos}{ι:Io}{H:Hp}{σ:St}{ρ:En}{M M1 M2:Store}{x y:Dv}
theorem one(S:kh nm X.K ι H M)(R:tu X.K ι H ρ σ)(ha:a'.den W ρ M=.ok x M1)(h:∀ι1 H1 v,Le ι H ι1 H1->kh nm X.K ι1 H1 M1->tu X.K ι1 H1 ρ σ->Rep X.K ι1 H1 x v->G v H1):tE nm W X.K a' σ H G :=
 ⟨ι,ρ,M,x,M1,S,R,ha,fun ι' H' v le S' r=>h ι' H' v le S' (R.mono le) r⟩
theorem two{G:V->V->Hp->Prop}(S:kh nm X.K ι H M)(R:tu X.K ι H ρ σ)(ha:a'.den W ρ M=.ok x M1)(hb:b'.den W ρ M1=.ok y M2)
 (h:∀ι2 H2 v u,Le ι H ι2 H2->kh nm X.K ι2 H2 M2->tu X.K ι2 H2 ρ σ->Rep X.K ι2 H2 x v->Rep X.K ι2 H2 y u->G v u H2) :
 tE nm W X.K a' σ H λv H1=>tE nm W X.K b' σ H1 λu H2=>G v u H2 :=
 one S R ha fun ι1 H1 v le1 S1 R1 r1=>one S1 R1 hb fun ι2 H2 u le2 S2 R2 r2=>h ι2 H2 v u (le1.trans le2) S2 R2 (r1.mono le2) r2
set_option tactic.hygienic true in
theorem a3f(hN:X.N[i]?=some n)(hv:Vis X.env.scope n)(hd:(n==("__debug__" : Str))=false)(hcd:(n==("__classdict__" : Str))=false):PE X (.Name n pos) (tE nm W X.K (.var i)) :=
 PE.of (awx hN hv hd hcd) fun σ H Q ι ρ M d M' S R e q=>by
  rw[MW.ahn] at e;split at e
  . rename_i d' hd
    cases e;obtain⟨v,h1,h2⟩:=R.get hd;exact⟨v,h1,q ι H v (Le.refl _ _) S h2⟩
  . cases e
theorem a3g:PE X (.Constant (.int i) j pos) (tE nm W X.K (.cst (.int i))) :=
 PE.of awy fun σ H Q ι ρ M d M' S R e q=>by rw[MW.Ue] at e;cases e;exact q ι H _ (Le.refl _ _) S (.int i)
theorem a9l:PE X (.Constant (.bool i) j pos) (tE nm W X.K (.cst (.bl i))) :=
 PE.of a06 fun σ H Q ι ρ M d M' S R e q=>by rw[MW.Ue] at e;cases e;exact q ι H _ (Le.refl _ _) S (.bl i)
theorem a3h:PE X (.Constant .none j pos) (tE nm W X.K (.cst .non)) :=
 PE.of awz fun σ H Q ι ρ M d M' S R e q=>by rw[MW.Ue] at e;cases e;exact q ι H _ (Le.refl _ _) S .non
theorem a3i:PE X (.Constant (.str i) j pos) (tE nm W X.K (.cst (.str i))) :=
 PE.of aw0 fun σ H Q ι ρ M d M' S R e q=>by rw[MW.Ue] at e;cases e;exact q ι H _ (Le.refl _ _) S (.str i)
theorem ayj(hg:Gl X n)(hm:X.mg n=some (.int i t))(hd:(n==("__debug__" : Str))=false):PE X (.Name n pos) (tE nm W X.K (.cst (.int i))) :=
 PE.of (aqt (v:=.int i) hg hm ⟨t,rfl⟩ hd) fun σ H Q ι ρ M d M' S R e q=>by rw[MW.Ue] at e;cases e;exact q ι H _ (Le.refl _ _) S (.int i)
def rOp(nm:Nm)(K:Fg)(f:Dv->Dv->Store->Res Dv):R2:=λv u H Q=>∃ι M x y d M',kh nm K ι H M/\Rep K ι H x v/\Rep K ι H y u/\f x y M=.ok d M' /\
 ∀ι' H' w,Le ι H ι' H'->kh nm K ι' H' M'->Rep K ι' H' d w->Q w H'
theorem Ge.of(h:Ge X f r)(w:∀v u H Q ι M x y d M',kh nm X.K ι H M->Rep X.K ι H x v->Rep X.K ι H y u->g x y M=.ok d M'->(∀ι' H' w,Le ι H ι' H'->kh nm X.K ι' H' M'->Rep X.K ι' H' d w->Q w H')->r v u H Q):Ge X f (rOp nm X.K g) :=
 Ge.weak h λv u H Q ⟨ι,M,x,y,d,M',S,rv,ru,e,q⟩=>w v u H Q ι M x y d M' S rv ru e q
theorem a3j(ho:Ge X (binaryOp op) (rOp nm X.K (MW.Kg op')))(ha:PE X a (tE nm W X.K a'))(hb:PE X b (tE nm W X.K b')):PE X (.BinOp a op b pos) (tE nm W X.K (.bin op' a' b')) :=
 PE.of (a1l ho ha hb) fun σ H Q ι ρ M d M' S R e q=>by rw[MW.arl] at e;obtain⟨x,M1,e1,e⟩:=dm e;obtain⟨y,M2,e2,e⟩:=dm e;exact two S R e1 e2 fun ι2 H2 v u le S2 _ rv ru=>⟨ι2,M2,x,y,d,M',S2,rv,ru,e,fun ι' H' w W5 S' r=>q ι' H' w (le.trans W5) S' r⟩
theorem a3k:Ge X (binaryOp .Sub) (rOp nm X.K (MW.Kg .sub)) :=
 Ge.of axm λv u H Q ι M x y d M' S rv ru e q=>by obtain⟨i,j,rfl,rfl,e2⟩:=MW.af7 e (by intro z;cases z);cases rv;cases ru;cases e2;exact⟨_,_,rfl,rfl,q ι H _ (Le.refl _ _) S (.int _)⟩
theorem ar7{g:Int->Int->Int}{P:Int->Int->Prop}[∀i j,Decidable (P i j)](h:Ge X (binaryOp op) r)(hb:∀x y M,MW.Kg op' x y M=MW.ii x y (λi j=>if P i j then .ok (.int (g i j)) M else .bad) .bad)(w:∀i j H Q,P i j->Q (.int (g i j)) H->r (.int i) (.int j) H Q):Ge X (binaryOp op) (rOp nm X.K (MW.Kg op')) :=
 Ge.of h λv u H Q ι M x y d M' S rv ru e q=>by
  rw[hb] at e;obtain⟨i,j,rfl,rfl,e2⟩:=MW.af7 e (by intro z;cases z)
  by_cases hp:P i j
  . rw[cu hp] at e2
    cases rv;cases ru;cases e2;exact w i j H Q hp (q ι H _ (Le.refl _ _) S (.int _))
  . rw[bz hp] at e2;cases e2
theorem a3l:Ge X (binaryOp .Mult) (rOp nm X.K (MW.Kg .mul)):=ar7 axn (λ_ _ _=>rfl) λi j H Q h q=>⟨_,_,rfl,rfl,h,q⟩
theorem a3m:Ge X (binaryOp .Mod) (rOp nm X.K (MW.Kg .mod)):=ar7 axo (λ_ _ _=>rfl) λi j H Q h q=>⟨_,_,rfl,rfl,h,q⟩
theorem ayk:Ge X (binaryOp .FloorDiv) (rOp nm X.K (MW.Kg .fdiv)):=ar7 aq1 (λ_ _ _=>rfl) λi j H Q h q=>⟨_,_,rfl,rfl,h,q⟩
theorem a3n:Ge X (binaryOp .Pow) (rOp nm X.K (MW.Kg .pow)):=ar7 axp (λ_ _ _=>rfl) λi j H Q h q=>⟨_,_,rfl,rfl,⟨h.1,by omega,h.2.2⟩,q⟩
set_option tactic.hygienic true in
theorem uw(S:kh nm X.K ι H M)(r:Rep X.K ι H d v)(h:MW.asList M d=some ds):∃p vs,v=.ref p/\H p=some (.lst vs)/\kj X.K ι H ds vs:=by
 cases r with
 |vl e n r=>simp[MW.asList] at h;subst h;exact⟨_,_,rfl,e,r⟩
 |ref e =>
  rename_i n p;simp only[MW.asList] at h;split at h<;>simp at h;rename_i ds' hn;subst h;obtain⟨vs,h1,h2⟩:=S.obj n _ p hn e;exact⟨p,vs,rfl,h1,h2⟩
 |_=>simp[MW.asList] at h
theorem Il(S:kh nm X.K ι H M)(r:Rep X.K ι H d v)(h:MW.yq M d=some ds):∃p vs,v=.ref p/\(H p=some (.lst vs)\/H p=some (.tup vs))/\kj X.K ι H ds vs:=by
 cases r with
 |tup e r=>simp[MW.yq] at h;subst h;exact⟨_,_,rfl,.inr e,r⟩
 |vl e n r =>
  obtain⟨p,vs,h1,h2,h3⟩:=uw S (.vl e n r) (show MW.asList M _=_ from h);exact⟨p,vs,h1,.inl h2,h3⟩
 |ref e =>
  obtain⟨p,vs,h1,h2,h3⟩:=uw S (.ref e) (show MW.asList M _=_ from h);exact⟨p,vs,h1,.inl h2,h3⟩
 |_=>simp[MW.yq,MW.asList] at h
theorem abn(S:kh nm X.K ι H M)(hp:H p=none)(r:kj X.K ι H ds vs):kh nm X.K ι (upd H p (.lst vs)) M/\Le ι H ι (upd H p (.lst vs))/\Rep X.K ι (upd H p (.lst vs)) (.vl ds) (.ref p):=by obtain⟨S1,le⟩:=S.laid hp (.lst vs);exact⟨S1,le,.vl uy (S.fresh hp) (r.mono le)⟩
theorem Ob(S:kh nm X.K ι H M)(hp:H p=none)(r:kj X.K ι H ds vs):kh nm X.K ι (upd H p (.tup vs)) M/\Le ι H ι (upd H p (.tup vs))/\Rep X.K ι (upd H p (.tup vs)) (.tup ds) (.ref p):=by obtain⟨S1,le⟩:=S.laid hp (.tup vs);exact⟨S1,le,.tup uy (r.mono le)⟩
theorem W6(S:kh nm X.K ι H M)(hp:H p=none)(r:kj X.K ι H ds vs):kh nm X.K (ι.add p) (upd H p (.lst vs)) (M++[.lst ds])/\Le ι H (ι.add p) (upd H p (.lst vs))/\Rep X.K (ι.add p) (upd H p (.lst vs)) (.ref M.length) (.ref p):=by
 obtain⟨S1,le⟩:=S.new (H':=upd H p (.lst vs)) (o:=.lst ds) hp (λa u e=>by rw[j4 (j5 e hp)];exact e) λle=>⟨vs,uy,r.mono le⟩
 exact⟨S1,le,.ref (by show(ι.l++[p])[M.length]?=some p;rw[<- S.len];simp)⟩
theorem Ui:(100000:Nat)<=sizeLine:=by decide
set_option tactic.hygienic true in
theorem ar8(h:MW.Kg .add x y M=.ok d M'):(∃i j,x=.int i/\y=.int j/\d=.int (i+j)/\M'=M) \/
 (∃xs ys,x=.tup xs/\y=.tup ys/\xs.length+ys.length<=100000/\xs.isEmpty=false/\d=.tup (xs++ys)/\M'=M) \/
 ∃xs ys,MW.asList M x=some xs/\MW.asList M y=some ys/\xs.length+ys.length<=100000/\d=.vl (xs++ys)/\M'=M:=by
 have h:MW.amj x y M=.ok d M':=h;unfold MW.amj at h;split at h<;>try cases h
 . exact .inl ⟨_,_,rfl,rfl,rfl,rfl⟩
 . split at h<;>cases h
   rename_i hc;exact .inr (.inl ⟨_,_,rfl,rfl,hc.1,hc.2,rfl,rfl⟩)
 . split at h
   . split at h<;>cases h
     rename_i h1 h2 hl;exact .inr (.inr ⟨_,_,h1,h2,hl,rfl,rfl⟩)
   . cases h
theorem a3o:Ge X (binaryOp .Add) (rOp nm X.K (MW.Kg .add)) :=
 Ge.of (axl.or (al5.or arf)) λv u H Q ι M x y d M' S rv ru e q=>by
  have lists:∀xs ys,MW.asList M x=some xs->MW.asList M y=some ys->xs.length+ys.length<=100000->d=.vl (xs++ys)->M'=M->a2i v u H Q:=λxs ys h1 h2 hl hd hm=>by
   subst hd hm;obtain⟨p,vs,rfl,e1,r1⟩:=uw S rv h1;obtain⟨p2,vs2,rfl,e2,r2⟩:=uw S ru h2;refine⟨p,p2,vs,vs2,rfl,rfl,e1,e2,?_,λp3 h3=>?_⟩
   . rw[<- r1.length,<- r2.length];exact ig hl Ui
   . obtain⟨a,b,c⟩:=abn S h3 (r1.append r2)
     exact q ι _ _ b a c
  rcases ar8 e with⟨i,j,rfl,rfl,rfl,rfl⟩|⟨xs,ys,rfl,rfl,hl,h2,rfl,rfl⟩|⟨xs,ys,h1,h2,hl,h3,h4⟩
  . cases rv;cases ru
    exact .inl ⟨_,_,rfl,rfl,q ι H _ (Le.refl _ _) S (.int _)⟩
  . cases rv with
    |tup e1 r1 =>
     cases ru with
     |tup e2 r2 =>
      refine .inr (.inr ⟨_,_,_,_,rfl,rfl,Ml.of e1,Ml.of e2,?_,?_,λhn=>?_,λ_ p hp=>?_⟩)
      . intro z
        have:=r1.length;rw[z] at this;rw[rm.mp this] at h2;cases h2
      . rw[<- r1.length,<- r2.length];exact ig hl Ui
      . have:=r2.length
        rw[hn] at this;rw[rm.mp this,wk] at q;exact q ι H _ (Le.refl _ _) S (.tup e1 r1)
      . obtain⟨a,b,c⟩:=Ob S hp (r1.append r2)
        exact q ι _ _ b a c
  . exact .inr (.inl (lists _ _ h1 h2 hl h3 h4))
end
end Sm
namespace L2
open PySem PySem.Spec PyProof.Rows
def Lw(cells:List (Str×Addr)):List (Str×NameKind)->List (Str×Addr)->List (Str×Addr)
 |[],cs=>cs|(n,k)::r,cs=>Lw cells r (if k==.free then(n,(cells.lookup n).getD 0)::cs else cs)
theorem Wb{α β:Type}{f:α->β->Sem (ForInStep β)}{g:α->β->β}:∀{l:List α}(c:β),(∀x∈l,∀c,f x c=pure (.yield (g x c)))->forIn l c f=pure (l.foldl (λc x=>g x c) c)
 |[],c,_=>rfl
 |x::l,c,h=>by
  rw[Dg,h x cj,pure_bind];exact Wb (g x c) λy hy=>h y (bh _ hy)
theorem Wc(cells:List (Str×Addr)):∀(l:List (Str×NameKind))(cs:List (Str×Addr)),Lw cells l cs=l.foldl (λc x=>if x.2==.free then(x.1,(cells.lookup x.1).getD 0)::c else c) cs
 |[],_=>rfl|(n,k)::r,cs=>Wc cells r _
theorem Xo(h:∀y∈scope.names,y.2=.free->∃c,env.cells.lookup y.1=some c):closureFor scope env=pure (Lw env.cells scope.names []):=by
 simp only[closureFor];rw[Wb (g:=λx c=>if x.2==.free then(x.1,(env.cells.lookup x.1).getD 0)::c else c) [] (λx hx c=>by
  obtain⟨n,k⟩:=x
  by_cases hk:k=.free
  . subst hk
    obtain⟨c',hc⟩:=h (n,.free) hx rfl;have hc:env.cells.lookup n=some c':=hc;simp[cellOf,hc]
  . have hb:(k==NameKind.free)=false:=by simpa using hk
    simp[hb]),Wc]
 rfl
theorem adw(cells:List (Str×Addr)):∀(l:List (Str×NameKind))(cs:List (Str×Addr))(x:Str)(c:Addr),(∀y∈l,y.2=.free->∃c,cells.lookup y.1=some c)->(Lw cells l cs).lookup x=some c ->
 cs.lookup x=some c\/cells.lookup x=some c
 |[],cs,x,c,_,h=>.inl h
 |(n,k)::r,cs,x,c,hy,h=>by
  rcases adw cells r _ x c (λz hz=>hy z (bh _ hz)) h with q|q
  . by_cases hk:k=.free
    . subst hk
      simp only[yo,jq,mq] at q;cases e:x==n with
      |true =>
       rw[e] at q;obtain⟨c',hc⟩:=hy (n,.free) cj rfl;have hc:cells.lookup n=some c':=hc;simp only[hc,ym,Option.some.injEq] at q;subst q;rw[eq_of_beq e];exact .inr hc
      |false=>rw[e] at q;exact .inl q
    . have hb:(k==NameKind.free)=false:=by simpa using hk
      simp only[hb,cg,jf] at q;exact .inl q
  . exact .inr q
theorem Xp(cells:List (Str×Addr)):∀(l:List (Str×NameKind))(cs:List (Str×Addr))(x:Str),(∃c,cs.lookup x=some c)->∃c,(Lw cells l cs).lookup x=some c
 |[],cs,x,h=>h
 |(n,k)::r,cs,x,h=>by
  refine Xp cells r _ x ?_
  by_cases hk:(k==NameKind.free)=true
  . rw[cu hk,mq]
    cases e:x==n with
    |true=>exact⟨_,rfl⟩|false=>exact h
  . rw[bz hk];exact h
theorem Vh(cells:List (Str×Addr)):∀(l:List (Str×NameKind))(cs:List (Str×Addr))(x:Str),(x,NameKind.free)∈l->∃c,(Lw cells l cs).lookup x=some c
 |(n,k)::r,cs,x,h=>by
  rcases bw.mp h with q|q
  . obtain⟨rfl,rfl⟩:=Prod.mk.inj q
    refine Xp cells r _ x ⟨(cells.lookup x).getD 0,?_⟩;rw[cu (by simp),mq,yo]
  . exact Vh cells r _ x q
theorem Qh{env:Env}:∀{names:List (Str×NameKind)}{x:Str},
 (names.map λ(y:Str×NameKind)=>if(y.2==NameKind.free&&env.scope.kind==.function&&env.kindOf y.1==some .cell) then(y.1,NameKind.cell) else(y.1,y.2)).lookup x
  = (names.lookup x).map λk=>if(k==NameKind.free&&env.scope.kind==.function&&env.kindOf x==some .cell) then NameKind.cell else k
 |[],_=>rfl
 |(n,k)::r,x=>by
  have ih:=@Qh env r x;rw[gq];cases hx:x==n with
  |true =>
   have e:=eq_of_beq hx;subst e;clear hx
   by_cases hc:(k==NameKind.free&&env.scope.kind==.function&&env.kindOf x==some .cell)=true
   . simp only[hc,jq,mq,yo,wz]
   . have hb:(k==NameKind.free&&env.scope.kind==.function&&env.kindOf x==some .cell)=false:=by simpa using hc
     simp only[hb,cg,jf,mq,yo,wz]
  |false =>
   by_cases hc:(k==NameKind.free&&env.scope.kind==.function&&env.kindOf n==some .cell)=true
   . simp only[hc,jq,mq,hx];exact ih
   . simp only[hc,mq,hx];simpa[mq,hx] using ih
theorem mem_of_lookup{α β:Type}[BEq α][LawfulBEq α]:∀{l:List (α×β)}{x:α}{y:β},l.lookup x=some y->(x,y)∈l
 |(a,b)::r,x,y,h=>by
  rw[mq] at h;cases e:x==a with
  |true=>rw[e] at h;cases h;rw[eq_of_beq e];exact cj|false=>rw[e] at h;exact bh _ (mem_of_lookup h)
def blk(X:Cx)(N:List Str)(scope:Scope)(C:Addr)(fp:List Addr)(s:Shared)(H:Hp):Cx where
 prog:=X.prog
 w:=X.w
 K:=X.K
 mg:=X.mg
 base:=X.base
 A:=X.A
 N:=N
 s₀:=s
 H₀:=H
 env:=compEnvC scope (Lw X.env.cells scope.names []) C X.env
 outer:=X.stack
 stack:=X.stack
 ex:=fp
 fn:=λ_=>false
 calm:=X.calm
 pn:=[]
 xe:=λ_ _=>False
structure Kd(X:Cx)(N:List Str)(scope:Scope):Prop where
 kind:scope.kind=.function
 amy:∀y∈scope.names,y.2≠.cell
 locs:∀y∈scope.names,y.2=.local->scope.names.lookup y.1=some .local
 frees:∀y∈scope.names,y.2=.free->X.env.kindOf y.1=some .cell\/X.env.kindOf y.1=some .free
 uniq:∀x k,(x,k)∈scope.names->scope.names.lookup x=some k
 long:X.N.length<=N.length
 vis:∀i x,i<X.N.length->N[i]?=some x->Vis (relabel scope X.env) x->X.N[i]?=some x/\scope.names.lookup x=some .free
section
variable{X:Cx}{N:List Str}{scope:Scope}{pins:List (Addr×Obj)}{σ:St}{H:Hp}{s:Shared}{fp:List Addr}
theorem Kd.cells(B:Kd X N scope)(ok:X.Ok):∀y∈scope.names,y.2=.free->∃c,X.env.cells.lookup y.1=some c:=λy hy hk=>ok.has y.1 (B.frees y hy hk)
theorem Kd.clos(B:Kd X N scope)(ok:X.Ok):closureFor scope X.env=pure (Lw X.env.cells scope.names []):=Xo (B.cells ok)
theorem Kd.inCells(B:Kd X N scope)(ok:X.Ok)(h:(Lw X.env.cells scope.names []).lookup x=some c):X.env.cells.lookup x=some c:=by
 rcases adw _ _ _ _ _ (B.cells ok) h with q|q
 . simp at q
 . exact q
theorem adx(x:Str):(compEnvC scope (Lw X.env.cells scope.names []) C X.env).kindOf x=(scope.names.lookup x).map λk=>if(k==NameKind.free&&X.env.scope.kind==.function&&X.env.kindOf x==some .cell) then NameKind.cell else k:=by show(relabel scope X.env).names.lookup x=_;exact Qh
theorem ajv(B:Kd X N scope)(I:Inv X pins σ H s)(hf:∀b∈fp,Wu X pins H b)(hfo:∀b∈fp,∃o,s.heap.get? b=some o)(hns:h₁.Ns (s.heap.objs.size+1) λ_=>none)(hk:∀b o,s.heap.get? b=some o->h₁.get? b=some o)(hacc:h₁.get? s.heap.objs.size=some { cls:=.type "list",data:=.seq ([]:List Value).toArray }) :
 Inv (blk X N scope (s.heap.objs.size+1) fp s H) [] (σ++List.replicate (N.length-X.N.length) none) (upd H s.heap.objs.size (.lst [])) { s with heap:=h₁,toks:=t }:=by
 have ok:=I.ok;have hD:H s.heap.objs.size=none:=I.hok.fresh (bc _);have hC:H (s.heap.objs.size+1)=none:=I.hok.fresh (qj _);have hCD:s.heap.objs.size+1≠s.heap.objs.size:=Nat.succ_ne_self _;have lt:∀b∈fp,b<s.heap.objs.size:=λb hb=>by obtain⟨o,e⟩:=hfo b hb;exact au e
 have clt:∀x c,X.env.cells.lookup x=some c->c<s.heap.objs.size:=λx c e=>by obtain⟨v,o,ho,_⟩:=I.cell x c e;exact au ho
 refine⟨⟨ok.mod,B.kind,ok.glob,ok.blt,qj _,?_,?_,?_,ok.hd,ok.frames,.inl rfl,?_,λb o e=>I.bs b o e,ig ok.bsz I.sz,?_,?_,I.stack,I.ag9⟩,rfl,I.bare,?_,?_,?_,?_,?_,?_,?_,?_⟩
 . intro x y c hx hy
   exact ok.inj x y c (B.inCells ok hx) (B.inCells ok hy)
 . intro x hx
   rw[show(blk X N scope (s.heap.objs.size+1) fp s H).env.kindOf x=_ from adx x] at hx;cases e:scope.names.lookup x with
   |none=>rw[e] at hx;rcases hx with q|q<;>simp at q
   |some k =>
    have hfree:k=.free:=by
     rw[e] at hx;cases k with
     |free=>rfl|cell=>exact absurd rfl (B.amy _ (mem_of_lookup e))|«local»=>rcases hx with q|q<;>simp at q
     |globalExplicit=>rcases hx with q|q<;>simp at q
     |globalImplicit=>rcases hx with q|q<;>simp at q
    subst hfree;exact Vh _ _ _ _ (mem_of_lookup e)
 . intro x c h;cases h
 . intro b hb
   refine⟨λe=>?_,λx c hc e=>?_⟩
   . have q:=lt b hb
     have e:b=s.heap.objs.size+1:=e;rw[e] at q;exact absurd q (Gv.mpr (qj _))
   . obtain⟨_,_,_,_,f4,_⟩:=hf b hb
     exact f4 x c (B.inCells ok hc) e
 . intro b o e hb
   obtain⟨_,_,_,f3,_⟩:=hf b hb;rcases f3 with q|q
   . exact ok.ale b o e q
   . exact qd _ (gh (au e) (ig ok.bsz q))
 . intro b hb q
   obtain⟨_,f1,f2,_⟩:=hf b hb;rcases bw.mp (I.aa3 b q) with z|z
   . exact f1 z
   . exact f2 z
 . exact Un.laid hk (bc _) hD
 . refine⟨_,hns,λi x v hN hσ hv=>?_⟩
   have hi:i<X.N.length:=by
    rcases Bo i σ.length with q|q
    . rw[I.len] at q;exact q
    . rw[je q] at hσ
      rw[Av] at hσ;split at hσ<;>simp at hσ
   rw[dq (by rw[I.len];exact hi)] at hσ;obtain⟨hx,hfree⟩:=B.vis i x hi hN hv;obtain⟨m,_,hl⟩:=I.loc;have hkx:=B.frees _ (mem_of_lookup hfree) rfl;have hvx:Vis X.env.scope x:=by
    rcases hkx with q|q
    . exact .inr (.inl q)
    . exact .inr (.inr q)
   obtain⟨u,ru,lu⟩:=hl i x v hx hσ hvx;refine⟨u,ru,.inr ⟨?_,?_⟩⟩
   . rw[show(blk X N scope (s.heap.objs.size+1) fp s H).env.kindOf x=_ from adx x,hfree]
     simp only[wz];split
     . exact .inl rfl
     . exact .inr rfl
   . rcases lu with⟨q,_⟩|⟨_,c,hc,ic⟩
     . rcases hkx with z|z<;>rw[q] at z<;>cases z
     . obtain⟨c',hc'⟩:=Vh X.env.cells scope.names [] x (mem_of_lookup hfree)
       have:=B.inCells ok hc';rw[hc] at this;cases this;exact⟨c,hc',ic.keeps hk⟩
 . intro x c hc
   obtain⟨v,iv⟩:=I.cell x c (B.inCells ok hc);exact⟨v,iv.keeps hk⟩
 . show upd H s.heap.objs.size (.lst []) (s.heap.objs.size+1)=none
   rw[j4 hCD];exact hC
 . intro x c hc
   have hc':=B.inCells ok hc;rw[j4 (dj (clt x c hc'))];exact I.Pz x c hc'
 . intro p hp;simp[blk] at hp
 . exact Rx.laid I.hok hk (bc _) ⟨jr _,[],0,.nil,hacc⟩
 . show(σ++List.replicate (N.length-X.N.length) none).length=N.length
   rw[qx,Ce,I.len];have:=B.long
   lia
end
section
variable{prog:Program}{w:World}{A:Around}{R:Result->Shared->Prop}{s:Shared}
theorem Qi(I:Nat->Shared->Prop)(turn:∀n s,I n s->wpAny (model prog w) A (pyNext it) (λr s₁=>match r with
 |none=>R (.ok .next) s₁
 | some v=>wpAny (model prog w) A (letOwnedTupleGo target it v) (λ_ s₁'=>wpAny (model prog w) A (assign target env v) (λ_ s₂ =>
  wpAny (model prog w) A (forIn ifs true λc r=>if r=true then do let ok <- isTrue c env (eval c env);pure (ForInStep.yield ok) else pure (ForInStep.yield r)) (λok s₃ =>
   if ok=true then wpAny (model prog w) A (eval elt env) (λx s₄ =>
    wpAny (model prog w) A (call (.builtin "list.append") [acc,x]) (λ_ s₅=>∃m,m<n/\I m s₅) (λ_ _=>False) s₄) (λ_ _=>False) s₃
   else ∃m,m<n/\I m s₃) (λ_ _=>False) s₂) (λ_ _=>False) s₁') (λ_ _=>False) s₁) (λ_ _=>False) s)(n:Nat)(h:I n s) :
 codeAny (model prog w) A (.compLoop (.ListComp elt [⟨target,iter,ifs,0⟩] scope pos) 0 it acc env) R s:=by
 have nv:∀{α:Type}{t:Sem α}{Q:α->Shared->Prop}{E:Value->Shared->Prop}{s:Shared},wpAny (model prog w) A t Q (λ_ _=>False) s->wpAny (model prog w) A t Q E s:=λh=>jt h (λ_ _ q=>q) λ_ _ f=>f.elim
 refine codeAny_loop rfl I (λn s hI=>?_) n h;show wpAny _ A ((compTurn (.ListComp elt [⟨target,iter,ifs,0⟩] scope pos) 0 it acc env).onRaise (λx=>do noteFrame x env;theTreesLotGoes x)) _ _ s;refine wpAny_noted ?_;rw[compTurn_list];refine aa (wpAny_standAt (aa (jt (turn n s hI) (λr s₁ h₁=>?_) λ_ _ h'=>h'.elim)));cases r with
 |none=>exact aj h₁
 |some v =>
  refine aa (jt h₁ (λ_ s₁' h₁'=>?_) λ_ _ h'=>h'.elim);refine aa (jt h₁' (λ_ s₂ h₂=>aa (jt h₂ (λok s₃ h₃=>?_) λ_ _ h'=>h'.elim)) λ_ _ h'=>h'.elim);cases ok with
  |false=>exact aj ⟨rfl,h₃⟩
  |true =>
   exact aa (aa (jt h₃ (λx s₄ h₄=>aa (jt h₄ (λ_ s₅ h₅=>aj (aj ⟨rfl,h₅⟩)) λ_ _ h'=>h'.elim)) λ_ _ h'=>h'.elim))
end
def ady(k:Nat)(wi:TI)(g:TG)(tc:TT)(te:TE):TE:=fun σ H Q=>wi σ H λJ H1=>∀D,H1 D=none->∃W:Nat->Nat->Hp->Prop,(∃m,W 0 m (upd H1 D (.lst [])))/\∀i m H,W i m H ->
 (J.stop i H/\Q (.ref D) H)\/(J.go i H/\∀x H',J.yld i H x H'->g x (σ++List.replicate k none) H' fun σ2 H2=>σ2.length=(σ++List.replicate k none).length /\
  (∀(j:Nat) v,(σ++List.replicate k none)[j]?=some (some v)->σ2[j]?=some (some v))/\tc σ2 H2 λb H3 =>
   if b=true then te σ2 H3 λv H4=>∃xs m',H4 D=some (.lst xs)/\xs.length<sizeLine/\m'<m/\W (i+1) m' (upd H4 D (.lst (xs++[v]))) else ∃m',m'<m/\W (i+1) m' H3)
def PTs(X:Cx)(ifs:List Expr)(tc:TT):Prop:=(ifs=[]/\tc=λ_ H Q=>Q true H)\/∃c,ifs=[c]/\PT X c tc
section
variable{X:Cx}{N:List Str}{scope:Scope}{pins:List (Addr×Obj)}{σ:St}{H H3:Hp}{s s3:Shared}{fp:List Addr}{elt tg iter:Expr}{ifs:List Expr}{pos:Pos}{wi:TI}{g:TG}{tc:TT}{te:TE}
theorem aab(I:Inv X pins σ H s)(hf:∀b∈fp,Wu X pins H b)(J:Inv (blk X N scope (s.heap.objs.size+1) fp s H) [] σ3 H3 s3):Inv X pins σ H3 s3/\∃m,s3.heap.Ns (s.heap.objs.size+1) m:=by
 refine⟨I.call' J.os J.base J.hok J.bare λb hb=>?_,?_⟩
 . obtain⟨_,f1,_,f3,f4,f5⟩:=hf b hb
   exact⟨f3,f1,f4,f5⟩
 . obtain⟨m,hn,_⟩:=J.loc
   exact⟨m,hn⟩
theorem ajw(I:Inv X pins σ H s)(I3:Inv X pins σ H3 s3)(hC:H3 (s.heap.objs.size+1)=none)(hs:Heap.SameBut (s.heap.objs.size+1) s3.heap h'):Inv X pins σ H3 { s3 with heap:=h' }:=by
 have big:∀b o,s.heap.get? b=some o->b≠s.heap.objs.size+1:=λb o e z=>by have:=au e;rw[z] at this;exact absurd this (Gv.mpr (qj _))
 refine I3.turned (t':=s3.toks) (λb o hb e=>hs.extBut b o hb e) hC ?_ (.inr (ig I.sz (qj _))) ?_ ?_
 . intro e
   obtain⟨m,⟨o,_,_,ho,_⟩,_⟩:=I.loc;exact big _ o ho e.symm
 . intro x c hc
   obtain⟨v,o,ho,_⟩:=I.cell x c hc;exact big c o ho
 . intro p hp
   exact big p.1 p.2 (I.pin p hp).1
theorem Xq{RR:Value->Addr->Result->Shared->Prop}(B:Kd X N scope)(hcalm:X.calm=true)(I:Inv X pins σ H s)(hf:∀b∈fp,Wu X pins H b)(T:Turn X.prog X.w X.K tg J fp it tn)(h0:tn 0 s.heap)(hg:∀C s H,PG (blk X N scope C fp s H) tg g)(hc:∀C s H,PTs (blk X N scope C fp s H) ifs tc)(he:∀C s H,PE (blk X N scope C fp s H) elt te){Q:VK}(W:Nat->Nat->Hp->Prop)(w0:W 0 m0 (upd H s.heap.objs.size (.lst [])))(turn:∀i m H,W i m H->(J.stop i H/\Q (.ref s.heap.objs.size) H)\/(J.go i H/\∀x H',J.yld i H x H'->g x (σ++List.replicate (N.length-X.N.length) none) H' fun σ2 H2=>σ2.length=(σ++List.replicate (N.length-X.N.length) none).length /\
 (∀(j:Nat) v,(σ++List.replicate (N.length-X.N.length) none)[j]?=some (some v)->σ2[j]?=some (some v))/\tc σ2 H2 λb H3 =>
  if b=true then te σ2 H3 λv H4=>∃xs m',H4 s.heap.objs.size=some (.lst xs)/\xs.length<sizeLine/\m'<m/\W (i+1) m' (upd H4 s.heap.objs.size (.lst (xs++[v]))) else ∃m',m'<m/\W (i+1) m' H3))(hRR:∀σ3 H3 s3,Inv (blk X N scope (s.heap.objs.size+1) fp s H) [] σ3 H3 s3->Q (.ref s.heap.objs.size) H3->RR (.ref s.heap.objs.size) (s.heap.objs.size+1) (.ok .next) s3) :
 wpAny (model X.prog X.w) X.A (newList []) (λacc s₃=>wpAny (model X.prog X.w) X.A (newFunctionEnv scope X.env.globals (Lw X.env.cells scope.names []) [] X.env.qual none .none (some X.env)) (λcenv s₄ =>
  codeAny (model X.prog X.w) X.A (.compStart (.ListComp elt [⟨tg,iter,ifs,0⟩] scope pos) 0 (.ref it) acc { cenv with scope:=relabel scope X.env }) (RR acc cenv.locals) s₄) E s₃) E s:=by
 refine jb (wpAny_newFunctionEnv B.amy (by intro y hy;simp at hy) (λh₁ hns₁ hsb₁=>?_) B.kind);dsimp only at hns₁ hsb₁ ⊢;have hsz:(s.heap.push { cls:=.type "list",dict:=none,data:=.seq ([]:List Value).toArray }).objs.size=s.heap.objs.size+1:=iz _ _;rw[hsz] at hns₁ hsb₁;have old:∀b o,s.heap.get? b=some o->h₁.get? b=some o:=λb o e=>hsb₁.extBut b o (λz=>absurd (au e) (by rw[z];exact Gv.mpr (qj _))) (ao _ (ao _ e))
 have hacc:h₁.get? s.heap.objs.size=some { cls:=.type "list",data:=.seq ([]:List Value).toArray }:=hsb₁.extBut _ _ (dj (ph _)) (ao _ (bf _ rfl));have hfo:∀b∈fp,∃o,s.heap.get? b=some o:=λb hb=>let ⟨o,e,_⟩:=T.obj 0 _ h0 b hb;⟨o,e⟩
 have I0:=ajv (t:=s.toks+([]:List (Str×Value)).length) B I hf hfo hns₁ old hacc;have stat:∀{H':Hp},(∀b∈fp,H' b=none)->∀b∈fp,Wu (blk X N scope (s.heap.objs.size+1) fp s H) [] H' b:=λhn b hb=>by
  obtain⟨f0,f1,f2,f3,f4,f5⟩:=hf b hb;refine⟨hn b hb,?_,?_,.inl hb,?_,λp hp=>(by simp[blk] at hp)⟩
  . intro z
    obtain⟨o,e⟩:=hfo b hb;have:=au e;rw[show b=s.heap.objs.size+1 from z] at this;exact absurd this (Gv.mpr (qj _))
  . intro q
    rcases bw.mp (I.aa3 b q) with z|z
    . exact f1 z
    . exact f2 z
  . intro x c hc
    exact f4 x c (B.inCells I.ok hc)
 have fr0:∀b∈fp,upd H s.heap.objs.size (.lst []) b=none:=λb hb=>by obtain⟨o,e⟩:=hfo b hb;rw[j4 (dj (au e))];exact(hf b hb).1
 have loop:∀s':Shared,s'={ s with heap:=h₁,toks:=s.toks+([]:List (Str×Value)).length }->codeAny (model X.prog X.w) X.A (.compLoop (.ListComp elt [⟨tg,iter,ifs,0⟩] scope pos) 0 (.ref it) (.ref s.heap.objs.size) (compEnvC scope (Lw X.env.cells scope.names []) (s.heap.objs.size+1) X.env))
  (RR (.ref s.heap.objs.size) (s.heap.objs.size+1)) s':=by
  rintro s' rfl;refine Qi (λn s'=>∃i σ' H',Inv (blk X N scope (s.heap.objs.size+1) fp s H) [] σ' H' s'/\(∀(j:Nat) v,(σ++List.replicate (N.length-X.N.length) none)[j]?=some (some v)->σ'[j]?=some (some v))/\tn i s'.heap/\(∀b∈fp,H' b=none)/\W i n H') ?_ m0
   ⟨0,_,_,I0,λ_ _ z=>z,T.keep 0 _ _ h0 (λb _ o e=>old b o e),fr0,w0⟩
  rintro n s3 ⟨i,σ3,H3,I3,k3,st3,fr3,w3⟩;have I3':=I3.weak (σ':=σ++List.replicate (N.length-X.N.length) none) (by rw[I3.len];exact I0.len) k3;rcases turn i n H3 w3 with⟨stop,qn⟩|⟨go,step⟩
  . refine Bp (T.done (blk X N scope (s.heap.objs.size+1) fp s H) rfl rfl rfl hcalm i [] s3 _ H3 (λ_ _=>False) I3' (stat fr3) st3 stop) λr s4 ⟨hr,I4⟩=>?_
    subst hr;exact hRR _ _ _ I4 qn
  . refine Bp (T.item (blk X N scope (s.heap.objs.size+1) fp s H) rfl rfl rfl hcalm i [] s3 _ H3 (λ_ _=>False) I3' (stat fr3) st3 go) λr s4 ⟨u,hr,h4⟩=>?_
    subst hr;refine Bp h4 λ_ s5 ⟨x,H5,I5,r5,y5,st5,fr5⟩=>?_
    have I5':=I5.pinned (stat fr5) (T.obj _ _ st5);refine Bp (hg _ _ _ _ s5 _ H5 x u _ I5' r5 (step x H5 y5)) λ_ s6 ⟨σ6,H6,I6,l6,k6,q6⟩=>?_
    have again:∀{aha:List (Addr×Obj)}{H7:Hp}{s7:Shared}{m:Nat},Inv (blk X N scope (s.heap.objs.size+1) fp s H) ([]++Va fp s5.heap) σ6 H7 s7->m<n->W (i+1) m H7 ->
     ∃m,m<n/\∃i σ' H',Inv (blk X N scope (s.heap.objs.size+1) fp s H) [] σ' H' s7/\(∀(j:Nat) v,(σ++List.replicate (N.length-X.N.length) none)[j]?=some (some v)->σ'[j]?=some (some v))/\tn i s7.heap/\(∀b∈fp,H' b=none)/\W i m H':=fun{_ H7 s7 m} I7 hm w7=>by
     refine⟨m,hm,i+1,σ6,H7,I7.Qa,k6,T.keep _ _ _ st5 λb hb o e=>(I7.pin (b,o) (gw _ (gw _ (N5 hb e)))).1,λb hb=>?_,w7⟩;obtain⟨o,e,d⟩:=T.obj _ _ st5 b hb;exact(I7.pin (b,o) (gw _ (gw _ (N5 hb e)))).2.1
    have tests:wpAny (model X.prog X.w) X.A (forIn ifs true λc r=>if r=true then do let ok <- isTrue c (compEnvC scope (Lw X.env.cells scope.names []) (s.heap.objs.size+1) X.env) (eval c (compEnvC scope (Lw X.env.cells scope.names []) (s.heap.objs.size+1) X.env));pure (ForInStep.yield ok) else pure (ForInStep.yield r))
     (TP (blk X N scope (s.heap.objs.size+1) fp s H) ([]++Va fp s5.heap) σ6 λb H3 =>
      if b=true then te σ6 H3 λv H4=>∃xs m',H4 s.heap.objs.size=some (.lst xs)/\xs.length<sizeLine/\m'<n/\W (i+1) m' (upd H4 s.heap.objs.size (.lst (xs++[v]))) else ∃m',m'<n/\W (i+1) m' H3) (λ_ _=>False) s6:=by
     rcases hc (s.heap.objs.size+1) s H with⟨rfl,rfl⟩|⟨c,rfl,hpt⟩
     . exact wpAny_tests_nil ⟨H6,I6,q6⟩
     . exact wpAny_tests_one (hpt _ s6 σ6 H6 _ I6 q6)
    refine Bp tests λok s7 ⟨H7,I7,q7⟩=>?_
    cases ok with
    |false =>
     obtain⟨m',hm,w7⟩:=(show ∃m',m'<n/\W (i+1) m' H7 from q7);exact again (aha:=[]) I7 hm w7
    |true =>
     show wpAny _ _ _ _ _ _;refine Bp (he _ _ _ _ s7 σ6 H7 _ I7 q7) λx s8 ⟨v,H8,I8,r8,xs,m',hD,hl,hm,w8⟩=>?_
     refine Bp (Zx _ s8 σ6 H8 (.ref s.heap.objs.size) [v] (.ref s.heap.objs.size) [x] (λ_ H'=>W (i+1) m' H') I8 rfl (.cons r8 .nil) ⟨_,xs,v,rfl,rfl,hD,hl,w8⟩) λ_ s9 ⟨_,H9,I9,_,w9⟩=>?_
     exact again (aha:=[]) I9 hm w9
 rw[hsz];exact codeAny_compStart_list (loop _ rfl) (T.self _ 0 _ _ _ (T.keep 0 _ _ h0 (λb _ o e=>old b o e)) (loop _ rfl))
end
section
variable{X:Cx}{N:List Str}{scope:Scope}{elt tg iter:Expr}{ifs:List Expr}{pos spos:Pos}{wi:TI}{g:TG}{tc:TT}{te:TE}
theorem ahs(B:Kd X N scope)(hcalm:X.calm=true)(hi:PI X tg iter wi)(hg:∀C fp s H,PG (blk X N scope C fp s H) tg g)(hc:∀C fp s H,PTs (blk X N scope C fp s H) ifs tc)(he:∀C fp s H,PE (blk X N scope C fp s H) elt te)
 (hs:∀x,foldedSetIterable iter X.env x=pure x):PE X (.ListComp elt [⟨tg,iter,ifs,0⟩] scope pos) (ady (N.length-X.N.length) wi g tc te):=by
 intro pins s σ H Q I h;rw[eval_ListComp];refine Bj (use:=none) rfl hs (B.clos I.ok) B.kind B.locs (Bp (hi pins s σ H _ I h) λv s1 h1=>Bp h1 λitv s2 h2=>?_);obtain⟨it,fp,tn,J,H2,rfl,I2,T,st2,f2,q2⟩:=h2;obtain⟨W,⟨m0,w0⟩,turn⟩:=q2 s2.heap.objs.size (I2.hok.fresh (bc _));refine Xq (RR:=λacc C=>compPost (model X.prog X.w) X.A X.xe none (EP X pins σ Q) acc C) B hcalm I2 f2 T st2 (λC s H=>hg C fp s H) (λC s H=>hc C fp s H) (λC s H=>he C fp s H) W w0 turn ?_;intro σ3 H3 s3 I3 q3;obtain⟨J3,m,hn⟩:=aab I2 f2 I3;exact⟨m,hn,λh' hs'=>⟨.ref s2.heap.objs.size,H3,ajw I2 J3 I3.free hs',rfl,q3⟩⟩
set_option tactic.hygienic true in
theorem aht(B:Kd X N scope)(hcalm:X.calm=true)(hi:PI X tg iter wi)(hg:∀C fp s H,PG (blk X N scope C fp s H) tg g)(hc:∀C fp s H,PTs (blk X N scope C fp s H) ifs tc)(he:∀C fp s H,PE (blk X N scope C fp s H) elt te)(hs:∀x,foldedSetIterable iter X.env x=pure x)(hN:X.N.Nodup)(hy:X.N[i]?=some y)(hl:X.env.scope.names.lookup y=some .local)(hsw:swapsWith (.ListComp elt [⟨tg,iter,ifs,0⟩] scope pos) (some (.Name y py)) spos.line X.env=pure true) :
 PS X (.Assign [.Name y py] (.ListComp elt [⟨tg,iter,ifs,0⟩] scope pos) spos) (axf (ady (N.length-X.N.length) wi g tc te) (ahb i)):=by
 intro pins s σ H D I h;rw[exec_Assign_Name_used _ _ _ _ hsw];refine aa (wpAny_standAt (aa ?_));show wpAny _ _ (do let _ <- comprehension (.ListComp elt [⟨tg,iter,ifs,0⟩] scope pos) scope X.env _ (newList []) false (eval iter X.env) (some (assign (.Name y py) X.env))) _ _ s;refine aa (jt (Bj (use:=some (assign (.Name y py) X.env)) (Q:=λ_ s'=>SP X pins D .next s') rfl hs (B.clos I.ok) B.kind B.locs
  (Bp (hi pins s σ H _ I h) λv s1 h1=>Bp h1 λitv s2 h2=>?_)) (λ_ s' hq=>aj (aj hq)) λ_ _ e=>e)
 obtain⟨it,fp,tn,J,H2,rfl,I2,T,st2,f2,q2⟩:=h2;obtain⟨W,⟨m0,w0⟩,turn⟩:=q2 s2.heap.objs.size (I2.hok.fresh (bc _));refine Xq (RR:=λacc C=>compPost (model X.prog X.w) X.A X.xe (some (assign (.Name y py) X.env)) (λ_ s'=>SP X pins D .next s') acc C) (Q:=λx H1=>ahb i x σ H1 D.nx) B hcalm I2 f2 T st2 (λC s H=>hg C fp s H) (λC s H=>hc C fp s H) (λC s H=>he C fp s H) W w0 turn ?_;intro σ3 H3 s3 I3 q3;obtain⟨J3,m,hn⟩:=aab I2 f2 I3;have hC3:=I3.free;obtain⟨oC,_,_,hoC,hdC,_⟩:=id hn;have big:∀b o,s2.heap.get? b=some o->b≠s2.heap.objs.size+1:=λb o e z=>by have:=au e;rw[z] at this;exact absurd this (Gv.mpr (qj _))
 have neL:s2.heap.objs.size+1≠X.env.locals:=λe=>by obtain⟨m,⟨o,_,_,ho,_⟩,_⟩:=I2.loc;exact big _ o ho e.symm
 have J4:Inv X (pins++[(s2.heap.objs.size+1,oC)]) σ H3 s3:=J3.T4 λp hp=>by
  rcases dw.mp hp with q|q
  . exact J3.pin p (gw _ q)
  . have e:p=(s2.heap.objs.size+1,oC):=by simpa using q
    subst e;refine⟨hoC,hC3,neL,λhb=>?_,λv z=>by rw[hdC] at z;cases z⟩;exact I2.awv (qj _) hb
 show wpAny (model X.prog X.w) X.A (assign (.Name y py) X.env (.ref s2.heap.objs.size)) _ _ s3;refine Bp (aa5 (pos:=py) hN hy (.inl hl) (.inr hl) (pins++[(s2.heap.objs.size+1,oC)]) s3 σ H3 (.ref s2.heap.objs.size) (.ref s2.heap.objs.size) D.nx J4 rfl q3) λ_ s4 ⟨σ4,H4,I4,q4⟩=>?_
 have pC:=I4.pin (s2.heap.objs.size+1,oC) (gw _ (gw _ (by simp)));refine⟨m,hn.at' λo e=>by rw[hoC] at e;cases e;exact pC.1,λh' hs'=>⟨σ4,H4,?_,q4⟩⟩;refine(I4.Qa).turned (t':=s4.toks) (λb o hb e=>hs'.extBut b o hb e) pC.2.1 neL (.inr (ig I2.sz (qj _))) ?_ ?_
 . intro x c hc
   obtain⟨v,o,ho,_⟩:=I2.cell x c hc;exact big c o ho
 . intro p hp
   exact big p.1 p.2 (I2.pin p hp).1
end
end L2
namespace Sm
open PySem L2
open MW (Ex Dr Z3 Rp Fl m7 Lv Tg Res Store MO Dy Cp Op2 Blt Bm Kx)
section
variable{nm:Nm}{W:Dy}{X:Cx}{a b c:Expr}{a' b' c':Ex}{pos:Pos}{ι:Io}{H:Hp}{σ:St}{ρ:En}{M M1 M2:Store}{x y:Dv}{es:List Expr}{es':Dr}
theorem asa{t:TE}(h:PT X a (fun σ H Q=>t σ H λx H1=>∃c,x=.bl c/\Q c H1))(w:∀σ H Q,tE nm W X.K a' σ H Q->t σ H Q):PT X a (tQ nm W X.K a') :=
 PT.of h fun σ H Q ι ρ M b M' S R e q=>w σ H _ ⟨ι,ρ,M,_,M',S,R,e,fun ι' H' v le S' r=>by cases r;exact⟨b,rfl,q ι' H' le S'⟩⟩
theorem a3p(h:PE X a (tE nm W X.K a'))(he:∀whole,isTrue a X.env whole=(do let v <- whole;standAt a.pos;holding [v] (truthy v))):PT X a (tQ nm W X.K a') :=
 asa (aw3 h he) λ_ _ _ q=>q
def Y9(nm:Nm)(K:Fg)(op:Cp):R2:=λv u H Q=>∃ι M x y b,kh nm K ι H M/\Rep K ι H x v/\Rep K ι H y u/\MW.Qe op x y M=some b/\Q (.bl b) H
theorem adz:∀σ H Q,tE nm W X.K (.cmp op' a' b') σ H Q->tOp (Y9 nm X.K op') (tE nm W X.K a') (tE nm W X.K b') σ H Q:=fun σ H Q hh=>by obtain⟨ι,ρ,M,d,M',S,R,e,q⟩:=hh;rw[MW.aro] at e;obtain⟨x,M1,e1,e⟩:=dm e;obtain⟨y,M2,e2,e⟩:=dm e;obtain⟨e,rfl⟩:=rz e;obtain⟨b,e3,rfl⟩:=bx.mp e;exact two S R e1 e2 fun ι2 H2 v u le S2 _ rv ru=>⟨ι2,M',x,y,b,S2,rv,ru,e3,q ι2 H2 _ le S2 (.bl b)⟩
theorem a3q(ho:Ge X (compareOp op) (Y9 nm X.K op'))(ha:PE X a (tE nm W X.K a'))(hb:PE X b (tE nm W X.K b'))(hm:behindInMarks op b=false):PE X (.Compare a [op] [b] pos) (tE nm W X.K (.cmp op' a' b')) :=
 PE.weak (aq2 ho ha hb hm) adz
theorem a3r(ho:Ge X (compareOp op) (Y9 nm X.K op'))(ha:PE X a (tE nm W X.K a'))(hb:PE X b (tE nm W X.K b'))(hm:behindInMarks op b=false):PT X (.Compare a [op] [b] pos) (tQ nm W X.K (.cmp op' a' b')) :=
 asa (t:=tOp (Y9 nm X.K op') (tE nm W X.K a') (tE nm W X.K b')) (aq3 ho ha hb hm) adz
theorem Xr:∀σ H Q,tE nm W X.K (.chain op1 op2 a' b' c') σ H Q->aa6 (Y9 nm X.K op1) (Y9 nm X.K op2) (tE nm W X.K a') (tE nm W X.K b') (tE nm W X.K c') σ H Q:=fun σ H Q hh=>by
 obtain⟨ι,ρ,M,d,M',S,R,e,q⟩:=hh;rw[MW.ajp] at e;obtain⟨x,M1,e1,e⟩:=dm e;obtain⟨y,M2,e2,e⟩:=dm e;obtain⟨k,M2',e3,e⟩:=dm e;obtain⟨e3,rfl⟩:=rz e3;refine two S R e1 e2 fun ι2 H2 v u le S2 R2 rv ru=>⟨ι2,M2',x,y,k,S2,rv,ru,e3,k,rfl,?_⟩
 cases k with
 |false =>
  have e:Res.ok (MW.D.bl false) M2'=.ok d M':=e;cases e;exact q ι2 H2 _ le S2 (.bl false)
 |true =>
  have e:((c'.den W ρ M2').bind λz M3=>Res.ofOpt ((MW.Qe op2 y z M3).map MW.D.bl) M3)=.ok d M':=e;obtain⟨z,M3,e4,e⟩:=dm e;obtain⟨e,rfl⟩:=rz e;obtain⟨b,e5,rfl⟩:=bx.mp e;show tE nm W X.K c' σ H2 _;exact one S2 R2 e4 fun ι3 H3 w le3 S3 _ rw=>⟨ι3,M',y,z,b,S3,ru.mono le3,rw,e5,q ι3 H3 _ (le.trans le3) S3 (.bl b)⟩
theorem asb(h1:Ge X (compareOp o1) (Y9 nm X.K op1))(h2:Ge X (compareOp o2) (Y9 nm X.K op2))(ha:PE X a (tE nm W X.K a'))(hb:PE X b (tE nm W X.K b'))(hc:PE X c (tE nm W X.K c'))(hm:lastMarks [o1,o2] [b,c]=false) :
 PE X (.Compare a [o1,o2] [b,c] pos) (tE nm W X.K (.chain op1 op2 a' b' c')):=PE.weak (als h1 h2 ha hb hc hm) Xr
theorem asd(h1:Ge X (compareOp o1) (Y9 nm X.K op1))(h2:Ge X (compareOp o2) (Y9 nm X.K op2))(ha:PE X a (tE nm W X.K a'))(hb:PE X b (tE nm W X.K b'))(hc:PE X c (tE nm W X.K c'))(hm:lastMarks [o1,o2] [b,c]=false) :
 PT X (.Compare a [o1,o2] [b,c] pos) (tQ nm W X.K (.chain op1 op2 a' b' c')):=asa (t:=aa6 (Y9 nm X.K op1) (Y9 nm X.K op2) (tE nm W X.K a') (tE nm W X.K b') (tE nm W X.K c')) (alu h1 h2 ha hb hc hm) Xr
theorem abo(h:Ge X (compareOp op) (rI0 λi j=>.bl (f i j)))(e:∀x y M,MW.Qe op' x y M=MW.adp f x y):Ge X (compareOp op) (Y9 nm X.K op') :=
 Ge.weak h λv u H Q hh=>by obtain⟨ι,M,x,y,b,S,rv,ru,e',q⟩:=hh;rw[e] at e';obtain⟨i,j,rfl,rfl,e2⟩:=MW.af7 e' (by intro z;cases z);cases rv;cases ru;cases e2;exact⟨_,_,rfl,rfl,q⟩
theorem a9o:Ge X (compareOp .Lt) (Y9 nm X.K .lt):=abo a1q λ_ _ _=>rfl
theorem a9p:Ge X (compareOp .LtE) (Y9 nm X.K .le):=abo a1r λ_ _ _=>rfl
theorem a9q:Ge X (compareOp .Gt) (Y9 nm X.K .gt):=abo a1s λ_ _ _=>rfl
theorem a9r:Ge X (compareOp .GtE) (Y9 nm X.K .ge):=abo a1t λ_ _ _=>rfl
set_option tactic.hygienic true in
theorem av4{rest:List Expr}(ha:PE X a (tE nm W X.K a'))(hb:PE X (.BoolOp .And (b::rest) pos) (tE nm W X.K b')):PE X (.BoolOp .And (a::b::rest) pos) (tE nm W X.K (.and a' b')) :=
 PE.of (aw7 ha hb) fun σ H Q ι ρ M d M' S R e q=>by
  rw[MW.aho] at e;obtain⟨x,M1,e1,e⟩:=dm e;refine one S R e1 fun ι1 H1 v le S1 R1 r=>?_
  cases r<;>try cases e
  rename_i k;refine⟨k,rfl,?_⟩;cases k with
  |false=>cases e;exact q ι1 H1 _ le S1 (.bl false)|true=>exact one S1 R1 e fun ι2 H2 w le2 S2 _ r2=>q ι2 H2 w (le.trans le2) S2 r2
set_option tactic.hygienic true in
theorem a3s{rest:List Expr}(ha:PE X a (tE nm W X.K a'))(hb:PE X (.BoolOp .Or (b::rest) pos) (tE nm W X.K b')):PE X (.BoolOp .Or (a::b::rest) pos) (tE nm W X.K (.or a' b')) :=
 PE.of (a1a ha hb) fun σ H Q ι ρ M d M' S R e q=>by
  rw[MW.amk] at e;obtain⟨x,M1,e1,e⟩:=dm e;refine one S R e1 fun ι1 H1 v le S1 R1 r=>?_
  cases r<;>try cases e
  rename_i k;refine⟨k,rfl,?_⟩;cases k with
  |true=>cases e;exact q ι1 H1 _ le S1 (.bl true)|false=>exact one S1 R1 e fun ι2 H2 w le2 S2 _ r2=>q ι2 H2 w (le.trans le2) S2 r2
theorem a3t(ha:PE X a (tE nm W X.K a')):PE X (.UnaryOp .Not a pos) (tE nm W X.K (.not a')) :=
 PE.of (aw8 ha) fun σ H Q ι ρ M d M' S R e q=>by
  rw[MW.ahp] at e;obtain⟨x,M1,e1,e⟩:=dm e;refine one S R e1 fun ι1 H1 v le S1 R1 r=>?_
  cases r<;>try cases e
  exact⟨_,rfl,q ι1 H1 _ le S1 (.bl _)⟩
theorem Zh(S:kh nm X.K ι H M)(R:tu X.K ι H ρ σ)(ha:a'.den W ρ M=.ok (.bl k) M1)(h:∀ι1 H1,Le ι H ι1 H1->kh nm X.K ι1 H1 M1->tu X.K ι1 H1 ρ σ->G k H1):tQ nm W X.K a' σ H G :=
 ⟨ι,ρ,M,k,M1,S,R,ha,fun ι' H' le S'=>h ι' H' le S' (R.mono le)⟩
set_option tactic.hygienic true in
theorem av5{rest:List Expr}(ha:PT X a (tQ nm W X.K a'))(hb:PW X (.BoolOp .And (b::rest) pos) (tQ nm W X.K b')):PW X (.BoolOp .And (a::b::rest) pos) (tQ nm W X.K (.and a' b')) :=
 λwhole pins s σ H Q I ⟨ι,ρ,M,d,M',S,R,e,q⟩=>aw5 ha hb whole pins s σ H Q I (by
  rw[MW.aho] at e;obtain⟨x,M1,e1,e⟩:=dm e;cases x<;>try cases e
  rename_i k;refine Zh S R e1 fun ι1 H1 le S1 R1=>?_
  cases k with
  | false=>cases e;exact q ι1 H1 le S1|true=>exact Zh S1 R1 e fun ι2 H2 le2 S2 _=>q ι2 H2 (le.trans le2) S2)
set_option tactic.hygienic true in
theorem a3u{rest:List Expr}(ha:PT X a (tQ nm W X.K a'))(hb:PW X (.BoolOp .Or (b::rest) pos) (tQ nm W X.K b')):PW X (.BoolOp .Or (a::b::rest) pos) (tQ nm W X.K (.or a' b')) :=
 λwhole pins s σ H Q I ⟨ι,ρ,M,d,M',S,R,e,q⟩=>a07 ha hb whole pins s σ H Q I (by
  rw[MW.amk] at e;obtain⟨x,M1,e1,e⟩:=dm e;cases x<;>try cases e
  rename_i k;refine Zh S R e1 fun ι1 H1 le S1 R1=>?_
  cases k with
  | true=>cases e;exact q ι1 H1 le S1|false=>exact Zh S1 R1 e fun ι2 H2 le2 S2 _=>q ι2 H2 (le.trans le2) S2)
theorem a3v(ha:PT X a (tQ nm W X.K a')):PT X (.UnaryOp .Not a pos) (tQ nm W X.K (.not a')) :=
 PT.of (aw6 ha) fun σ H Q ι ρ M d M' S R e q=>by
  rw[MW.ahp] at e;obtain⟨x,M1,e1,e⟩:=dm e;cases x<;>try cases e
  exact Zh S R e1 fun ι1 H1 le S1 R1=>q ι1 H1 le S1
set_option tactic.hygienic true in
theorem a3w(hc:PT X c (tQ nm W X.K c'))(ha:PE X a (tE nm W X.K a'))(hb:PE X b (tE nm W X.K b')):PE X (.IfExp c a b pos) (tE nm W X.K (.ite c' a' b')) :=
 PE.of (alh hc ha hb) fun σ H Q ι ρ M d M' S R e q=>by
  rw[MW.arp] at e;obtain⟨x,M1,e1,e⟩:=dm e;cases x<;>try cases e
  rename_i k;refine Zh S R e1 fun ι1 H1 le S1 R1=>?_
  cases k with
  |true=>exact one S1 R1 e fun ι2 H2 w le2 S2 _ r2=>q ι2 H2 w (le.trans le2) S2 r2
  |false=>exact one S1 R1 e fun ι2 H2 w le2 S2 _ r2=>q ι2 H2 w (le.trans le2) S2 r2
theorem Uj:PA X [] (W4 nm W X.K .nil):=PA.of axu fun σ H Q ι ρ M ds M' S R e q=>by rw[MW.Ug] at e;cases e;exact q ι H _ (Le.refl _ _) S .nil
theorem Xu(S:kh nm X.K ι H M)(R:tu X.K ι H ρ σ)(ha:es'.den W ρ M=.ok ds M1)(h:∀ι1 H1 vs,Le ι H ι1 H1->kh nm X.K ι1 H1 M1->tu X.K ι1 H1 ρ σ->kj X.K ι1 H1 ds vs->G vs H1):W4 nm W X.K es' σ H G :=
 ⟨ι,ρ,M,ds,M1,S,R,ha,fun ι' H' v le S' r=>h ι' H' v le S' (R.mono le) r⟩
theorem Mm(ha:PE X a (tE nm W X.K a'))(hr:PA X es (W4 nm W X.K es'))(hs:starEach (a::es) X.env=(false,eval a X.env)::starEach es X.env):PA X (a::es) (W4 nm W X.K (.cons a' es')) :=
 PA.of (aq6 ha hr hs) fun σ H Q ι ρ M ds M' S R e q=>by rw[MW.Kq] at e;obtain⟨x,M1,e1,e⟩:=dm e;obtain⟨xs,M2,e2,e⟩:=dm e;cases e;exact one S R e1 fun ι1 H1 v le S1 R1 r1=>Xu S1 R1 e2 fun ι2 H2 vs le2 S2 R2 r2=>q ι2 H2 _ (le.trans le2) S2 (.cons (r1.mono le2) r2)
def Dr.len:Dr->Nat
 |.nil=>0|.cons _ r=>Dr.len r+1
theorem Ku:∀{es':Dr}{ρ:En}{M M1:Store}{ds:List Dv},es'.den W ρ M=.ok ds M1->ds.length=Dr.len es'
 |.nil,_,_,_,_,e=>by rw[MW.Ug] at e;cases e;rfl
 |.cons _ r,_,_,_,_,e=>by
  rw[MW.Kq] at e;obtain⟨x,M1,e1,e⟩:=dm e;obtain⟨xs,M2,e2,e⟩:=dm e;cases e;rw[gf,Ku e2];rfl
theorem a3x(h:PA X es (W4 nm W X.K es'))(hl:Dr.len es'<=1000):PE X (.Tuple es k pos) (tE nm W X.K (.tup es')) :=
 PE.of (axv h) fun σ H Q ι ρ M d M' S R e q=>by
  rw[MW.arq] at e;obtain⟨ds,M1,e1,e⟩:=dm e;cases e;refine Xu S R e1 fun ι1 H1 vs le S1 R1 r=>⟨?_,λp hp=>?_⟩
  . rw[<- r.length,Ku e1];exact ig hl (by decide)
  . obtain⟨S2,le2,r2⟩:=Ob S1 hp r
    exact q ι1 _ _ (le.trans le2) S2 r2
theorem aym(h:PA X es (W4 nm W X.K es'))(hl:Dr.len es'<=1000):PE X (.List es pos) (tE nm W X.K (.Mv es')) :=
 PE.of (alx h) fun σ H Q ι ρ M d M' S R e q=>by
  rw[MW.aml] at e;obtain⟨ds,M1,e1,e⟩:=dm e;cases e;refine Xu S R e1 fun ι1 H1 vs le S1 R1 r=>⟨?_,λp hp=>?_⟩
  . rw[<- r.length,Ku e1];exact ig hl (by decide)
  . obtain⟨S2,le2,r2⟩:=abn S1 hp r
    exact q ι1 _ _ (le.trans le2) S2 r2
theorem a3y(h:PA X es (W4 nm W X.K es'))(hl:Dr.len es'<=1000):PE X (.List es pos) (tE nm W X.K (.lst es')) :=
 PE.of (alx h) fun σ H Q ι ρ M d M' S R e q=>by
  rw[MW.ars] at e;obtain⟨ds,M1,e1,e⟩:=dm e;cases e;refine Xu S R e1 fun ι1 H1 vs le S1 R1 r=>⟨?_,λp hp=>?_⟩
  . rw[<- r.length,Ku e1];exact ig hl (by decide)
  . obtain⟨S2,le2,r2⟩:=W6 S1 hp r
    exact q _ _ _ (le.trans le2) S2 r2
theorem a3z(ha:PE X a (tE nm W X.K a')):PE X (.UnaryOp .USub a pos) (tE nm W X.K (.neg a')) :=
 PE.of (a1m axq ha) fun σ H Q ι ρ M d M' S R e q=>by
  rw[MW.arn] at e;obtain⟨x,M1,e1,e⟩:=dm e;refine one S R e1 fun ι1 H1 v le S1 R1 r=>?_
  cases r<;>try cases e
  exact⟨_,rfl,q ι1 H1 _ le S1 (.int _)⟩
end
open PyProof.Rows (subscriptTail)
section
variable{κ:Type}[DecidableEq κ]{K:Fg}{ι:Io}{H:Hp}
theorem ou.length{κ κ':Type}{f:κ->κ'->Prop}:∀{l:List (κ×Dv)}{l':List (κ'×V)},ou K ι H f l l'->l.length=l'.length
 |_,_,.nil=>rfl|_,_,.cons _ _ t=>by rw[gf,gf,ou.length t]
theorem ou.look{k:κ}:∀{kvs:List (κ×Dv)}{l:List (κ×V)},ou K ι H (λk k'=>k=k') kvs l->(∀d,MW.Bf kvs k=some d->∃v,T7 l k=some v/\Rep K ι H d v)/\(MW.Bf kvs k=none->T7 l k=none)
 |_,_,.nil=>⟨λd h=>by simp[MW.Bf] at h,λ_=>rfl⟩
 |_,_,.cons (k:=q) (k':=q') hk h t=>by
  subst hk;obtain⟨a,b⟩:=ou.look (k:=k) t
  by_cases e:q=k
  . refine⟨λd hd=>?_,λhd=>?_⟩
    . simp[MW.Bf,t7,e] at hd
      subst hd;exact⟨_,T8 e,h⟩
    . simp[MW.Bf,t7,e] at hd
  . have z:∀(d:Dv) r,MW.Bf ((q,d)::r) k=MW.Bf r k:=λd r=>by simp[MW.Bf,t7,e]
    rw[z,T9 (by exact e)];exact⟨a,b⟩
theorem ou.any{k:κ}:∀{kvs:List (κ×Dv)}{l:List (κ×V)},ou K ι H (λk k'=>k=k') kvs l->(kvs.any λkv=>decide (kv.1=k))=(l.any λkv=>decide (kv.1=k))
 |_,_,.nil=>rfl|_,_,.cons hk h t=>by subst hk;simp only[Cr,ou.any t]
theorem ou.repl{k:κ}{d:Dv}{v:V}(r:Rep K ι H d v):∀{kvs:List (κ×Dv)}{l:List (κ×V)},ou K ι H (λk k'=>k=k') kvs l ->
 ou K ι H (λk k'=>k=k') (kvs.map λkv=>if kv.1=k then(kv.1,d) else kv) (l.map λkv=>if kv.1=k then(kv.1,v) else kv)
 |_,_,.nil=>.nil
 |_,_,.cons (k:=q) hk h t=>by
  subst hk;simp only[gq]
  by_cases e:q=k
  . simp only[e,jq];exact .cons rfl r (ou.repl r t)
  . simp only[e,jf];exact .cons rfl h (ou.repl r t)
theorem ou.snoc{κ κ':Type}{f:κ->κ'->Prop}{k:κ}{k':κ'}{d:Dv}{v:V}(hk:f k k')(r:Rep K ι H d v):∀{l:List (κ×Dv)}{l':List (κ'×V)},ou K ι H f l l'->ou K ι H f (l++[(k,d)]) (l'++[(k',v)])
 |_,_,.nil=>.cons hk r .nil|_,_,.cons q h t=>.cons q h (ou.snoc hk r t)
theorem ou.put{k:κ}(r:Rep K ι H d v)(t:ou K ι H (λk k'=>k=k') kvs l):ou K ι H (λk k'=>k=k') (MW.Ib kvs k d) (putK l k v):=by
 unfold MW.Ib putK;rw[t.any (k:=k)]
 by_cases e:(l.any λkv=>decide (kv.1=k))=true
 . rw[cu e,cu e];exact t.repl r
 . rw[bz e,bz e];exact t.snoc rfl r
theorem ou.fld{nm:Nm}{f:Nat}:∀{fs:List (Nat×Dv)}{l:List (Str×V)},ou K ι H (λk k'=>k'=nm.fld k) fs l->(∀d,fs.lookup f=some d->∃v,l.lookup (nm.fld f)=some v/\Rep K ι H d v)/\(fs.lookup f=none->l.lookup (nm.fld f)=none)
 |_,_,.nil=>⟨λd h=>by simp at h,λ_=>rfl⟩
 |_,_,.cons (k:=q) (k':=q') hk h t=>by
  subst hk;obtain⟨a,b⟩:=ou.fld (nm:=nm) (f:=f) t;rw[mq,mq]
  by_cases e:f=q
  . subst e
    simp only[yo];exact⟨λd hd=>by cases hd;exact⟨_,rfl,h⟩,λhd=>by cases hd⟩
  . have e1:(f==q)=false:=by simpa using e
    have e2:(nm.fld f==nm.fld q)=false:=by
     cases z:nm.fld f==nm.fld q with
     |false=>rfl|true=>exact absurd (nm.inj _ _ (eq_of_beq z)) e
    rw[e1,e2];exact⟨a,b⟩
theorem ou.Lq{nm:Nm}{f:Nat}{d:Dv}{v:V}(r:Rep K ι H d v):∀{fs:List (Nat×Dv)}{l:List (Str×V)},ou K ι H (λk k'=>k'=nm.fld k) fs l->ou K ι H (λk k'=>k'=nm.fld k) (MW.Wa f d fs) (L2.Lq (nm.fld f) v l)
 |_,_,.nil=>.cons rfl r .nil
 |_,_,.cons (k:=q) (k':=q') hk h t=>by
  subst hk;unfold MW.Wa L2.Lq
  by_cases e:q=f
  . subst e
    simp only[jq];exact .cons rfl r t
  . have e2:¬nm.fld q=nm.fld f:=λz=>e (nm.inj _ _ z)
    rw[bz e,bz e2];exact .cons rfl h (ou.Lq r t)
theorem Vi(r:Rep K ι H d v)(h:MW.Ve d=some k):v=kV k:=by cases r<;>simp[MW.Ve] at h<;>subst h<;>rfl
set_option tactic.hygienic true in
theorem amz:∀{ds:List Dv}{vs:List V}{ks:List Kx},kj K ι H ds vs->MW.abh ds=some ks->vs=ks.map kV
 |_,_,_,.nil,h=>by simp[MW.abh] at h;subst h;rfl
 |_,_,_,.cons r t,h=>by
  simp only[MW.abh] at h;split at h
  . rename_i k ks' h1 h2
    cases h;rw[Vi r h1,amz t h2];rfl
  . cases h
theorem Vj(r:Rep K ι H d v)(h:MW.Tc d=some ks):∃b,v=.ref b/\H b=some (.tup (ks.map kV)):=by
 cases r with
 |tup e r=>exact⟨_,rfl,by rw[<- amz r h];exact e⟩|_=>simp[MW.Tc] at h
end
section
variable{nm:Nm}{W:Dy}{X:Cx}{a b c:Expr}{a' b' c':Ex}{pos:Pos}{ι:Io}{H:Hp}{σ:St}{ρ:En}{M M1 M2:Store}{x y:Dv}{es:List Expr}{es':Dr}
theorem ase{α:Type}{xs:List α}(h:MW.Rr xs.length i=some j):ixN xs.length i=some j:=h
def a9s(nm:Nm)(K:Fg):R2:=λv u H Q=>∃ι M x y d,kh nm K ι H M/\Rep K ι H x v/\Rep K ι H y u/\MW.Bc x y M=some d/\∀w,Rep K ι H d w->Q w H
theorem am0(hu:X.A.units+1<cLine):IxR X (λx y H Q=>∃a v,x=.ref a/\Pr H a y (some v)/\Q v H):=by intro value slice pins s σ H x y v u Q I rx ry h hs;obtain⟨p,z,rfl,g,q⟩:=h;cases rx;exact PyProof.Rows.tail_any (adm I g) PySem.F.slot_dict_getitem.lookup (ajl hu I g ry λw' s' I' r=>⟨z,H,I',r,q⟩) hs
set_option tactic.hygienic true in
theorem ayn(hu:X.A.units+1<cLine):IxR X (a9s nm X.K):=by
 intro value slice pins s σ H v u v' u' Q I rv ru ⟨ι,M,x,y,d,S,rx,ry,e,q⟩ hs;have seq:∀(p:Addr)(vs:List V)(ds:List Dv),v=.ref p->(Jv X.K H p vs\/Ml X.K H p vs)->kj X.K ι H ds vs->(match y with|.int i=>(MW.Rr ds.length i).bind λj=>ds[j]?|_=>none)=some d ->
  wpAny (model X.prog X.w) X.A (subscriptTail value slice v' u') (EP X pins σ Q) X.xe s:=λp vs ds hv hq r e=>by
  subst hv;obtain⟨i,hyi⟩:∃i,y=.int i:=by cases y<;>first|exact⟨_,rfl⟩|cases e
  subst hyi;cases ry;obtain⟨j,e1,e2⟩:=dg.mp e;obtain⟨z,h1,h2⟩:=r.get e2;have hat:atI vs i=some z:=by unfold atI;rw[show ixN vs.length i=some j from by rw[<- r.length];exact e1];exact h1
  rcases hq with hq|hq
  . exact L2.Fq value slice pins s σ H _ _ v' u' Q I rv ru ⟨p,vs,i,z,rfl,rfl,hq,hat,q z h2⟩ hs
  . exact L2.N7 value slice pins s σ H _ _ v' u' Q I rv ru ⟨p,vs,i,z,rfl,rfl,hq,hat,q z h2⟩ hs
 cases rx with
 |tup e1 r1=>exact seq _ _ _ rfl (.inr (Ml.of e1)) r1 (by cases ry<;>first|exact e|(simp[MW.Bc,MW.yq] at e))
 |vl e1 n1 r1=>exact seq _ _ _ rfl (.inl (Jv.of e1)) r1 (by cases ry<;>first|exact e|(simp[MW.Bc,MW.yq,MW.asList] at e))
 |fz e1 r1=>exact seq _ _ _ rfl (.inl e1.sq) r1 (by cases ry<;>first|exact e|(simp[MW.Bc] at e))
 |ref e1 =>
  rename_i n p;simp only[MW.Bc] at e;split at e
  . rename_i kvs hn
    obtain⟨l,h1,h2⟩:=S.obj n _ p hn e1;obtain⟨k,e2,e3⟩:=dg.mp e;obtain⟨z,h3,h4⟩:=(h2.look (k:=k)).1 d e3;obtain⟨b,rfl,hb⟩:=Vj ry e2;exact am0 hu value slice pins s σ H _ _ v' u' Q I rv ru ⟨p,z,rfl,by rw[<- h3];exact Pr.t h1 hb,q z h4⟩ hs
  . rename_i kvs hn
    obtain⟨l,h1,h2⟩:=S.obj n _ p hn e1;obtain⟨k,e2,e3⟩:=dg.mp e;obtain⟨z,h3,h4⟩:=(h2.look (k:=k)).1 d e3;have hy:=Vi ry e2;subst hy;exact am0 hu value slice pins s σ H _ _ v' u' Q I rv ru ⟨p,z,rfl,by rw[<- h3];exact Pr.k h1,q z h4⟩ hs
  . cases hl:MW.asList M (.ref n) with
    |none=>rw[hl] at e;cases e
    |some ds =>
     obtain⟨p',vs,hp,h1,h2⟩:=uw S (.ref e1) hl;cases hp;rw[hl] at e;exact seq _ _ _ rfl (.inl (Jv.of h1)) h2 (by cases ry<;>first|exact e|cases e)
 |_=>simp[MW.Bc,MW.yq,MW.asList] at e
theorem a9t(hu:X.A.units+1<cLine)(ha:PE X a (tE nm W X.K a'))(hb:PE X b (tE nm W X.K b'))(hs:aba b):PE X (.Subscript a b pos) (tE nm W X.K (.ix a' b')) :=
 PE.of (a2d (ayn (nm:=nm) hu) ha hb hs) fun σ H Q ι ρ M d M' S R e q=>by rw[MW.ax8] at e;obtain⟨x,M1,e1,e⟩:=dm e;obtain⟨y,M2,e2,e⟩:=dm e;obtain⟨e,rfl⟩:=rz e;exact two S R e1 e2 fun ι2 H2 v u le S2 _ rv ru=>⟨ι2,M',x,y,d,S2,rv,ru,e,λw r=>q ι2 H2 w le S2 r⟩
set_option tactic.hygienic true in
theorem a4a(hn:n=nm.fld f)(hcl:∀c C,nm.cls c=some C->Cls X.K C/\Jw X.K C n)(ha:PE X a (tE nm W X.K a'))(hb:attributeBase a n X.env (eval a X.env)=eval a X.env):PE X (.Attribute a n pos) (tE nm W X.K (.fld a' f)) :=
 PE.of (axs ha hb) fun σ H Q ι ρ M d M' S R e q=>by
  rw[MW.aru] at e;obtain⟨x,M1,e1,e⟩:=dm e;obtain⟨e,rfl⟩:=rz e;refine one S R e1 fun ι1 H1 v le S1 R1 r=>?_
  obtain⟨m,hxm⟩:∃m,x=.ref m:=by cases x<;>first|exact⟨_,rfl⟩|cases e
  subst hxm;obtain⟨p,rfl,hp⟩:∃p,v=.ref p/\ι1.l[m]?=some p:=by cases r with|ref z=>exact⟨_,rfl,z⟩
  simp only[MW.Uc] at e;split at e
  . rename_i c fs hm
    obtain⟨C,dx,l,h1,h2,h3⟩:=S1.obj m _ p hm hp;obtain⟨z,h4,h5⟩:=(h3.fld (nm:=nm) (f:=f)).1 d e;subst hn;obtain⟨g1,g2⟩:=hcl c C h1;exact⟨p,C,dx,l,z,rfl,h2,g1,g2,h4,q ι1 H1 z le S1 h5⟩
  . cases e
end
open MW (Ex Dr Z3 Rp Fl m7 Lv Tg Res Store MO Dy Cp Op2 Blt Bm Kx Src)
def Te:Expr->Bool
 |.ListComp ..=>false|.SetComp ..=>false|.DictComp ..=>false|_=>true
theorem Qj(h:Te e=true)(t:Option Expr)(l:Nat)(env:Env):swapsWith e t l env=pure false:=by cases e<;>first|rfl|(simp[Te] at h)
def Ig:Expr->Bool
 |.Set ..=>false|_=>true
theorem Hm(h:Ig e=true)(env:Env)(x:Value):foldedSetIterable e env x=pure x:=by cases e<;>first|rfl|(simp[Ig] at h)
theorem Wd(h:Ig e=true)(op:CmpOp):behindInMarks op e=false:=by cases e<;>first|rfl|(simp[Ig] at h)
def av6:Expr->Bool
 |.Tuple ..=>false|_=>true
def noStar:Expr->Bool
 |.Starred ..=>false|_=>true
theorem ju(h:noStar e=true)(es:List Expr)(env:Env):starEach (e::es) env=(false,eval e env)::starEach es env:=by cases e<;>first|rfl|(simp[noStar] at h)
def W7:Expr->Bool
 |.Slice ..=>false|_=>true
theorem am1(h:W7 e=true):aba e:=by intro o i;cases e<;>first|rfl|(simp[W7] at h)
section
variable{nm:Nm}{W:Dy}{X:Cx}{a b c:Expr}{a' b' c':Ex}{pos pos':Pos}{ι:Io}{H:Hp}{σ:St}{ρ:En}{M M1 M2:Store}{x y:Dv}{es:List Expr}{es':Dr}
def Cq:Tg->List Nat
 |.name i=>[i]|.names is=>is
def tGt(nm:Nm)(K:Fg)(t:Tg):TG:=λv σ H Q=>∃ι ρ M d ρ',kh nm K ι H M/\tu K ι H ρ σ/\Rep K ι H d v/\t.put d ρ=some ρ'/\∀σ',tu K ι H ρ' σ'->σ'.length=σ.length->(∀j,j∉Cq t->σ'[j]?=σ[j]?)->Q σ' H
theorem PG.weak(h:PG X tg t)(w:∀v σ H Q,t' v σ H Q->t v σ H Q):PG X tg t':=λpins s σ H v u Q I r q=>h pins s σ H v u Q I r (w v σ H Q q)
theorem PG.of(h:PG X tg t)(w:∀v σ H Q ι ρ M d ρ',kh nm X.K ι H M->tu X.K ι H ρ σ->Rep X.K ι H d v->tt.put d ρ=some ρ'->(∀σ',tu X.K ι H ρ' σ'->σ'.length=σ.length->(∀j,j∉Cq tt->σ'[j]?=σ[j]?)->Q σ' H)->t v σ H Q):PG X tg (tGt nm X.K tt) :=
 PG.weak h λv σ H Q ⟨ι,ρ,M,d,ρ',S,R,r,e,q⟩=>w v σ H Q ι ρ M d ρ' S R r e q
theorem ayo(hN:X.N.Nodup)(hi:X.N[i]?=some n)(hx:Loc X.env.scope n)(hf:X.fn n=true\/X.env.scope.names.lookup n=some .local):PG X (.Name n pos) (tGt nm X.K (.name i)) :=
 PG.of (aa5 hN hi hx hf) λv σ H Q ι ρ M d ρ' S R r e q=>by cases e;exact q _ (R.set r i) (by simp) λj hj=>uz (λz=>hj (by simp[Cq,z]))
def Oc:List Nat->List V->St->St
 |i::is,v::vs,σ=>Oc is vs (σ.set i (some v))|_,_,σ=>σ
theorem Xv{K:Fg}:∀{is:List Nat}{ds:List Dv}{vs:List V}{ρ:En}{σ:St},tu K ι H ρ σ->kj K ι H ds vs->tu K ι H (MW.Td is ds ρ) (Oc is vs σ)
 |[],_,_,_,_,R,r=>by cases r<;>exact R|_::_,_,_,_,_,R,.nil=>R|i::is,_,_,_,_,R,.cons h t=>Xv (is:=is) (R.set h i) t
theorem Uk:∀{is:List Nat}{vs:List V}{σ:St}{j:Nat},j∉is->(Oc is vs σ)[j]?=σ[j]?
 |[],vs,σ,j,_=>by cases vs<;>rfl|i::is,[],σ,j,_=>rfl
 |i::is,v::vs,σ,j,h=>by
  show(Oc is vs (σ.set i (some v)))[j]?=_;rw[Uk (λz=>h (bh _ z)),uz (λz=>h (by rw[z];exact cj))]
theorem We:∀{is:List Nat}{vs:List V}{σ:St},(Oc is vs σ).length=σ.length
 |[],vs,σ=>by cases vs<;>rfl|_::_,[],σ=>rfl|i::is,v::vs,σ=>by show(Oc is vs (σ.set i (some v))).length=_;rw[We,G5]
inductive Oe(X:Cx):List Expr->List Nat->Prop
 |nil:Oe X [] []
 |cons {n:Str} {p:Pos} {i:Nat} {ts:List Expr} {is:List Nat} (hi:X.N[i]?=some n) (hx:Loc X.env.scope n) (hf:X.fn n=true\/X.env.scope.names.lookup n=some .local) (t:Oe X ts is):Oe X (.Name n p::ts) (i::is)
theorem ad0(hN:X.N.Nodup):∀{ts:List Expr}{is:List Nat},Oe X ts is->PGs X ts (λvs σ H Q=>vs.length=is.length/\Q (Oc is vs σ) H)
 |_,_,.nil=>λpins s σ H vs us Q I r q=>by
  obtain⟨h1,h2⟩:=q;have hv:vs=[]:=rm.mp h1;subst hv;exact aqy pins s σ H [] us Q I r ⟨rfl,h2⟩
 |_,_,.cons hi hx hf t=>λpins s σ H vs us Q I r q=>by
  obtain⟨h1,h2⟩:=q;cases vs with
  |nil=>simp at h1|cons v vs=>exact alk (aa5 hN hi hx hf) (ad0 hN t) (by rfl) pins s σ H (v::vs) us Q I r ⟨v,vs,rfl,by simpa using h1,h2⟩
theorem Im{env:Env}:∀{ts:List Expr}{is:List Nat},Oe X ts is->(assignEach ts env).length=is.length/\(assignEach ts env).findIdx? (·.1)=none
 |_,_,.nil=>⟨rfl,rfl⟩
 |_,_,.cons hi hx hf t=>by
  obtain⟨g1,g2⟩:=Im (env:=env) t;refine⟨by simp[assignEach,g1],?_⟩;simp[assignEach,Ec];simpa using g2
set_option tactic.hygienic true in
theorem asf(hc:X.calm=true)(hN:X.N.Nodup)(h:Oe X ts is):PG X (.Tuple ts k pos) (tGt nm X.K (.names is)) :=
 PG.of (axd hc (ad0 hN h) (Im h).1 (Im h).2) λv σ H Q ι ρ M d ρ' S R r e q=>by
  cases r with
  |tup e1 r1 =>
   simp only[Tg.put] at e;split at e<;>cases e;rename_i hl;exact⟨_,_,rfl,Ml.of e1,by rw[<- r1.length];exact hl,by rw[<- r1.length];exact hl,q _ (Xv R r1) We λj hj=>Uk hj⟩
  |_=>simp[Tg.put] at e
theorem am2(he:PE X a (tE nm W X.K a'))(hg:PG X tg (tGt nm X.K t))(hs:swapsWithSole [tg] a pos.line X.env=pure false)(hw:swappedStores [tg] a X.env=pure none)(h1:(assignEach [tg] X.env).map (·.2)=[assign tg X.env]) :
 PS X (.Assign [tg] a pos) (tS nm W X.K (.asg (.tg t) a')) :=
 PS.of (alm he hg hs hw h1) λD σ H ι ρ M fl ρ' M' S R e q=>by rw[MW.abl] at e;obtain⟨x,M1,e1,e⟩:=dm e;obtain⟨ρ2,M2,e2,e⟩:=dm e;cases e;rw[MW.amu] at e2;obtain⟨e3,e4⟩:=rz e2;subst e4;exact one S R e1 fun ι1 H1 v le S1 R1 r=>⟨ι1,ρ,_,x,ρ',S1,R1,r,e3,fun σ' R' _ _=>q ι1 H1 σ' le S1 R'⟩
theorem ayp(he:PE X a (tE nm W X.K a'))(hs:swapsWith a none pos.line X.env=pure false):PS X (.Expr a pos) (tS nm W X.K (.expr a')) :=
 PS.of (aqx he hs) λD σ H ι ρ M fl ρ' M' S R e q=>by rw[MW.arw] at e;obtain⟨x,M1,e1,e⟩:=dm e;cases e;exact one S R e1 fun ι1 H1 v le S1 R1 r=>q ι1 H1 σ le S1 R1
theorem a4b(he:PE X a (tE nm W X.K a')):PS X (.Return (some a) pos) (tS nm W X.K (.ret a')) :=
 PS.of (axa he) λD σ H ι ρ M fl ρ' M' S R e q=>by rw[MW.aya] at e;obtain⟨x,M1,e1,e⟩:=dm e;cases e;exact one S R e1 fun ι1 H1 v le S1 R1 r=>q ι1 H1 σ le S1 R1 v r
theorem ayq:PS X (.Pass pos) (tS nm W X.K .pass) :=
 PS.of aqw λD σ H ι ρ M fl ρ' M' S R e q=>by rw[MW.arz] at e;cases e;exact q ι H σ (Le.refl _ _) S R
theorem a4c:PS X (.Break pos) (tS nm W X.K .brk) :=
 PS.of alj λD σ H ι ρ M fl ρ' M' S R e q=>by rw[MW.ayb] at e;cases e;exact q ι H σ (Le.refl _ _) S R
theorem ayr:PS X (.Continue pos) (tS nm W X.K .cont) :=
 PS.of adh λD σ H ι ρ M fl ρ' M' S R e q=>by rw[MW.arx] at e;cases e;exact q ι H σ (Le.refl _ _) S R
theorem Xn.mono(le:Le ι H ι' H')(q:Xn nm X.K D ι H fl ρ M):Xn nm X.K D ι' H' fl ρ M:=fun ι2 H2 σ2 le2 S2 R2=>q ι2 H2 σ2 (le.trans le2) S2 R2
set_option tactic.hygienic true in
theorem a4d(hc:PT X c (tQ nm W X.K c'))(ht:T5 X ts (tSs nm W X.K ts'))(hf:T5 X fs (tSs nm W X.K fs')):PS X (.If c ts fs pos) (tS nm W X.K (.iff c' ts' fs')) :=
 PS.of (a1e hc ht hf) λD σ H ι ρ M fl ρ' M' S R e q=>by
  rw[MW.ax9] at e;obtain⟨x,M1,e1,e⟩:=dm e;cases x<;>try cases e
  rename_i k;refine Zh S R e1 fun ι1 H1 le S1 R1=>?_
  cases k with
  |true=>exact⟨ι1,ρ,M1,fl,ρ',M',S1,R1,e,q.mono le⟩|false=>exact⟨ι1,ρ,M1,fl,ρ',M',S1,R1,e,q.mono le⟩
theorem ays:T5 X [] (tSs nm W X.K .nil):=T5.of aqv λD σ H ι ρ M fl ρ' M' S R e q=>by rw[MW.ar0] at e;cases e;exact q ι H σ (Le.refl _ _) S R
theorem ash{rest:List Stmt}(h1:PS X st (tS nm W X.K st'))(h2:T5 X rest (tSs nm W X.K rest')):T5 X (st::rest) (tSs nm W X.K (.cons st' rest')) :=
 T5.of (ali h1 h2) λD σ H ι ρ M fl ρ' M' S R e q=>by
  rw[MW.amt] at e;obtain⟨⟨fl1,ρ1⟩,M1,e1,e⟩:=dm e;refine⟨ι,ρ,M,fl1,ρ1,M1,S,R,e1,fun ι1 H1 σ1 le S1 R1=>?_⟩;cases fl1 with
  |next=>exact⟨ι1,ρ1,M1,fl,ρ',M',S1,R1,e,q.mono le⟩|brk=>cases e;exact q ι1 H1 σ1 le S1 R1|cont=>cases e;exact q ι1 H1 σ1 le S1 R1|ret d=>cases e;exact q ι1 H1 σ1 le S1 R1
set_option tactic.hygienic true in
theorem a4e(hp:PassesOwn (model X.prog X.w) X.A X.env X.xe)(hc:PT X c (tQ nm W X.K c'))(hb:T5 X body (tSs nm W X.K Xw)):PS X (.While c body [] pos) (tS nm W X.K (.whl c' Xw)) :=
 PS.of (aln hp hc hb) λD σ H ι ρ M fl ρ' M' S R e q=>by
  rw[MW.abm] at e;refine⟨λm σ1 H1=>∃ι1 ρ1 M1,Le ι H ι1 H1/\kh nm X.K ι1 H1 M1/\tu X.K ι1 H1 ρ1 σ1/\MW.Jk (c'.den W) (Xw.den W) m ρ1 M1=.ok (fl,ρ') M',⟨MW.af9,ι,ρ,M,Le.refl _ _,S,R,e⟩,?_⟩;rintro m σ1 H1 ⟨ι1,ρ1,M1,le1,S1,R1,e1⟩;cases m with
  |zero=>cases e1
  |succ m =>
   simp only[MW.Jk] at e1;obtain⟨x,M2,e2,e1⟩:=dm e1;cases x<;>try cases e1
   rename_i k;refine Zh S1 R1 e2 fun ι2 H2 le2 S2 R2=>?_
   cases k with
   |false=>cases e1;exact q ι2 H2 σ1 (le1.trans le2) S2 R2
   |true =>
    obtain⟨⟨fl3,ρ3⟩,M3,e3,e1⟩:=dm e1;refine⟨fun σ4 H4=>∃ι4 ρ4 M4,Le ι H ι4 H4/\kh nm X.K ι4 H4 M4/\tu X.K ι4 H4 ρ4 σ4/\MW.Jk (c'.den W) (Xw.den W) m ρ4 M4=.ok (fl,ρ') M',fun σ4 H4 h4=>⟨m,ph _,h4⟩,ι2,ρ1,M2,fl3,ρ3,M3,S2,R2,e3,fun ι4 H4 σ4 le4 S4 R4=>?_⟩;cases fl3 with
    |next=>exact⟨ι4,ρ3,M3,(le1.trans le2).trans le4,S4,R4,e1⟩|cont=>exact⟨ι4,ρ3,M3,(le1.trans le2).trans le4,S4,R4,e1⟩|brk=>cases e1;exact q ι4 H4 σ4 ((le1.trans le2).trans le4) S4 R4|ret d=>cases e1;exact q ι4 H4 σ4 ((le1.trans le2).trans le4) S4 R4
def am3(nm:Nm)(K:Fg)(ι:Io)(H:Hp)(s:Src)(J:It):Prop:=∀ι1 H1 M1,LeX ι H ι1 H1->kh nm K ι1 H1 M1 ->
 (∀i d,i<s.len->s.item i M1=some d->J.go i H1/\∀v H2,J.yld i H1 v H2->Le ι1 H1 ι1 H2/\kh nm K ι1 H2 M1/\Rep K ι1 H2 d v)/\(s.fin M1=true->J.stop s.len H1)
def tI(nm:Nm)(W:Dy)(K:Fg)(it:Rp):TI:=fun σ H R=>∃ι ρ M s M',kh nm K ι H M/\tu K ι H ρ σ/\it.den W ρ M=.ok s M'/\∀ι' H' J,Le ι H ι' H'->kh nm K ι' H' M'->am3 nm K ι' H' s J->R J H'
set_option tactic.hygienic true in
theorem a4g(hp:PassesOwn (model X.prog X.w) X.A X.env X.xe)(hc:X.calm=true)(hi:PI X tg iter (tI nm W X.K it))(hg:PG X tg (tGt nm X.K t))(hb:T5 X body (tSs nm W X.K Xw))(hs:Ig iter=true):PS X (.For tg iter body [] pos) (tS nm W X.K (.for_ t it Xw)) :=
 PS.of (axh hp hc hi hg hb (Hm hs X.env)) λD σ H ι ρ M fl ρ' M' S R e q=>by
  rw[MW.Vg] at e;obtain⟨s,M1,e1,e⟩:=dm e;refine⟨ι,ρ,M,s,M1,S,R,e1,fun ι1 H1 J le1 S1 sj=>?_⟩;refine⟨λi m σ2 H2=>m=s.len-i/\i<=s.len/\∃ι2 ρ2 M2,Le ι1 H1 ι2 H2/\kh nm X.K ι2 H2 M2/\tu X.K ι2 H2 ρ2 σ2/\MW.Gf s.fin s.item (λd ρ M=>match t.put d ρ with|some ρ'=>Xw.den W ρ' M|none=>.bad) m i ρ2 M2=.ok (fl,ρ') M',
   ⟨s.len,rfl,jr _,ι1,ρ,M1,Le.refl _ _,S1,R.mono le1,e⟩,?_⟩
  rintro i m σ2 H2 ⟨hm,hil,ι2,ρ2,M2,le2,S2,R2,e2⟩;obtain⟨go,stop⟩:=sj ι2 H2 M2 le2.toX S2;cases m with
  |zero =>
   simp only[MW.Gf] at e2;split at e2<;>cases e2;rename_i hfin;have hi:i=s.len:=by lia
   subst hi;exact .inl ⟨stop hfin,q ι2 H2 σ2 (le1.trans le2) S2 R2⟩
  |succ m =>
   simp only[MW.Gf] at e2;split at e2
   . cases e2
   . rename_i d hd
     obtain⟨⟨fl3,ρ3⟩,M3,e3,e2⟩:=dm e2;obtain⟨g1,g2⟩:=go i d (by omega) hd;refine .inr ⟨g1,fun σ4 H4=>∃ι4 ρ4 M4,Le ι1 H1 ι4 H4/\kh nm X.K ι4 H4 M4/\tu X.K ι4 H4 ρ4 σ4/\MW.Gf s.fin s.item (λd ρ M=>match t.put d ρ with|some ρ'=>Xw.den W ρ' M|none=>.bad) m (i+1) ρ4 M4=.ok (fl,ρ') M',
      fun σ4 H4 ⟨ι4,ρ4,M4,h4⟩=>⟨m,ph _,by omega,by omega,ι4,ρ4,M4,h4⟩,λv H3 yv=>?_⟩
     obtain⟨le3,S3,r3⟩:=g2 v H3 yv;split at e3
     . rename_i ρ5 agc
       refine⟨ι2,ρ2,M2,d,ρ5,S3,R2.mono le3,r3,agc,fun σ5 R5 _ _=>⟨ι2,ρ5,M2,fl3,ρ3,M3,S3,R5,e3,fun ι4 H4 σ4 le4 S4 R4=>?_⟩⟩;have leA:=(le2.trans le3).trans le4;cases fl3 with
       |next=>exact⟨ι4,ρ3,M3,leA,S4,R4,e2⟩|cont=>exact⟨ι4,ρ3,M3,leA,S4,R4,e2⟩|brk=>cases e2;exact q ι4 H4 σ4 (le1.trans leA) S4 R4|ret d=>cases e2;exact q ι4 H4 σ4 (le1.trans leA) S4 R4
     . cases e3
end
section
variable{nm:Nm}{W:Dy}{X:Cx}{a b c:Expr}{a' b' c':Ex}{pos pos':Pos}{ι:Io}{H:Hp}{σ:St}{ρ:En}{M M1 M2:Store}{x y:Dv}{es:List Expr}{es':Dr}{tg iter elt:Expr}
theorem PI.weak(h:PI X tg iter wi)(w:∀σ H R,wi' σ H R->wi σ H R):PI X tg iter wi':=λpins s σ H R I q=>h pins s σ H R I (w σ H R q)
theorem PI.of(h:PI X tg iter wi)(w:∀σ H R' ι ρ M s M',kh nm X.K ι H M->tu X.K ι H ρ σ->it.den W ρ M=.ok s M'->(∀ι' H' J,Le ι H ι' H'->kh nm X.K ι' H' M'->am3 nm X.K ι' H' s J->R' J H')->wi σ H R'):PI X tg iter (tI nm W X.K it) :=
 PI.weak h fun σ H R' ⟨ι,ρ,M,s,M',S,R,e,q⟩=>w σ H R' ι ρ M s M' S R e q
theorem ayt(hl:PE X l tl):PI X tg l (fun σ H R=>tl σ H λx H1=>∃a,x=.ref a/\((∃xs,Jv X.K H1 a xs)/\R (Itl X.K a) H1\/(∃xs,Ml X.K H1 a xs)/\R (Itt X.K a) H1)):=by
 intro pins s σ H R I h;refine Bp (hl pins s σ H _ I h) λv s1 ⟨x,H1,I1,r1,q1⟩=>?_
 obtain⟨a,e,⟨⟨xs,hq⟩,q⟩|⟨⟨xs,hq⟩,q⟩⟩:=q1
 . subst e
   cases r1;obtain⟨its,rv,p,hz⟩:=I1.list hq;refine yj p.isList ?_;refine⟨s1.heap.objs.size,[s1.heap.objs.size],_,_,H1,rfl,I1.kept (t':=s1.toks) λb o e=>ao _ e,ai9 a _,⟨_,bf _ rfl,rfl,rfl⟩,λb hb=>?_,q⟩;have e:b=s1.heap.objs.size:=by simpa using hb
   subst e;exact I1.alo (bc _) (I1.hok.fresh (bc _))
 . subst e
   cases r1;obtain⟨its,rv,p,hz⟩:=I1.tuple hq;refine xq (show s1.heap.IsTuple a its.toArray from p) ?_;refine⟨s1.heap.objs.size,[s1.heap.objs.size],_,_,H1,rfl,I1.kept (t':=s1.toks) λb o e=>ao _ e,afq a _,⟨_,bf _ rfl,rfl,rfl⟩,λb hb=>?_,q⟩;have e:b=s1.heap.objs.size:=by simpa using hb
   subst e;exact I1.alo (bc _) (I1.hok.fresh (bc _))
theorem aad{p:Addr}{ds:List Dv}{s:Src}(hs:∀ι1 H1 M1,LeX ι H ι1 H1->kh nm X.K ι1 H1 M1->(∀i d,s.item i M1=some d->∃vs v,H1 p=some (.lst vs)/\vs[i]?=some v/\Rep X.K ι1 H1 d v)/\(s.fin M1=true->∃vs,H1 p=some (.lst vs)/\vs.length<=s.len)) :
 am3 nm X.K ι H s (Itl X.K p):=fun ι1 H1 M1 le S1=>by
 obtain⟨a,b⟩:=hs ι1 H1 M1 le S1;refine⟨λi d hi hd=>?_,λhf=>?_⟩
 . obtain⟨vs,v,h1,h2,h3⟩:=a i d hd
   refine⟨⟨vs,v,Jv.of h1,h2⟩,λu H2 ⟨e,y⟩=>?_⟩;subst e;have:=y vs (Jv.of h1);rw[h2] at this;cases this;exact⟨Le.refl _ _,S1,h3⟩
 . obtain⟨vs,h1,h2⟩:=b hf
   exact⟨vs,Jv.of h1,h2⟩
set_option tactic.hygienic true in
theorem a4h(ha:PE X a (tE nm W X.K a')):PI X tg a (tI nm W X.K (.val a')) :=
 PI.of (ayt ha) fun σ H R' ι ρ M s M' S R e q=>by
  rw[MW.Oa] at e;obtain⟨x,M1,e1,e⟩:=dm e;obtain⟨e,rfl⟩:=rz e;refine one S R e1 fun ι1 H1 v le S1 R1 r=>?_
  cases r with
  |@tup p ds vs h1 r1 =>
   simp only[MW.srcOf] at e;cases e;refine⟨p,rfl,.inr ⟨⟨vs,Ml.of h1⟩,q ι1 H1 _ le S1 fun ι2 H2 M2 le2 S2=>⟨λi d hi hd=>?_,λ_=>⟨vs,Ml.of (le2.tup _ _ h1),by rw[<- r1.length];exact bc _⟩⟩⟩⟩;have hd:ds[i]?=some d:=hd;obtain⟨v,g1,g2⟩:=(r1.Ie le2).get hd;refine⟨⟨vs,v,Ml.of (le2.tup _ _ h1),g1⟩,λu H3 ⟨ee,yy⟩=>?_⟩;subst ee;have:=yy vs (Ml.of (le2.tup _ _ h1));rw[g1] at this;cases this;exact⟨Le.refl _ _,S2,g2⟩
  |@vl p ds vs h1 n1 r1 =>
   simp only[MW.srcOf] at e;cases e;refine⟨p,rfl,.inl ⟨⟨vs,Jv.of h1⟩,q ι1 H1 _ le S1 (aad (ds:=ds) fun ι2 H2 M2 le2 S2=>⟨λi d hd=>?_,λ_=>⟨vs,le2.lst _ _ n1.1 h1,by rw[<- r1.length];exact bc _⟩⟩)⟩⟩;have hd:ds[i]?=some d:=hd;obtain⟨v,g1,g2⟩:=(r1.Ie le2).get hd;exact⟨vs,v,le2.lst _ _ n1.1 h1,g1,g2⟩
  |@ref n p h1 =>
   simp only[MW.srcOf] at e;obtain⟨ds,hn,rfl⟩:∃ds,M'[n]?=some (.lst ds)/\s=.live n ds.length:=by
    split at e
    . rename_i ds hn;cases e;exact⟨ds,hn,rfl⟩
    . cases e
   obtain⟨vs,g1,g2⟩:=S1.obj n _ p hn h1;refine⟨p,rfl,.inl ⟨⟨vs,Jv.of g1⟩,q ι1 H1 _ le S1 (aad (ds:=ds) fun ι2 H2 M2 le2 S2=>⟨λi d hd=>?_,λhf=>?_⟩)⟩⟩
   . simp only[Src.item] at hd
     split at hd
     . rename_i ds2 hn2
       split at hd
       . obtain⟨vs2,k1,k2⟩:=S2.obj n _ p hn2 (le2.get h1)
         obtain⟨v,k3,k4⟩:=k2.get hd;exact⟨vs2,v,k1,k3,k4⟩
       . cases hd
     . cases hd
   . simp only[Src.fin] at hf
     split at hf
     . rename_i ds2 hn2
       obtain⟨vs2,k1,k2⟩:=S2.obj n _ p hn2 (le2.get h1);refine⟨vs2,k1,?_⟩;rw[<- k2.length];have:ds2.length=ds.length:=by simpa using hf
       rw[this];exact bc _
     . cases hf
  |_=>simp[MW.srcOf] at e
set_option tactic.hygienic true in
theorem a4i(hg:Gl X "range")(hm:X.mg "range" = none)(ha:PE X a (tE nm W X.K a'))(hst:noStar a=true):PI X tg (.Call (.Name "range" pr) [a] [] pos) (tI nm W X.K (.Px a')) :=
 PI.of (aja hg hm (Mm ha Uj (ju hst _ _)) (ju hst _ _)) fun σ H R' ι ρ M s M' S R e q=>by
  rw[MW.Uh] at e;obtain⟨x,M1,e1,e⟩:=dm e;refine Xu (es':=.cons a' .nil) (ds:=[x]) (M1:=M1) S R (by rw[MW.Kq,e1];simp) fun ι1 H1 vs le S1 R1 r=>?_
  obtain⟨i,hx⟩:∃i,x=.int i:=by cases x<;>first|exact⟨_,rfl⟩|cases e
  subst hx;have e:(if i.natAbs<=100000 then Res.ok (Src.con ((List.range i.toNat).map λ(k:Nat)=>MW.D.int (k:Int))) M1 else .bad)=.ok s M':=e;split at e<;>cases e;rename_i hi;cases r with
  |cons r1 r2 =>
   cases r1;cases r2;refine⟨i,rfl,by lia,by omega,q ι1 H1 _ le S1 fun ι2 H2 M2 le2 S2=>⟨λj d hj hd=>?_,λ_=>?_⟩⟩
   . have hl:j<i.toNat:=by simpa[Src.len] using hj
     have hd:((List.range i.toNat).map λ(k:Nat)=>MW.D.int (k:Int))[j]?=some d:=hd;rw[jk,yf hl] at hd;have hd:MW.D.int (j:Int)=d:=by simpa using hd
     subst hd;refine⟨hl,λu H3 ⟨ee,yy⟩=>?_⟩;subst ee yy;exact⟨Le.refl _ _,S2,by rw[Int.zero_add];exact .int _⟩
   . show i.toNat<=_
     simp[Src.len]
theorem ajx(R:tu K ι H ρ σ):tu K ι H (ρ++List.replicate k none) (σ++List.replicate k none):=R.append (tu.nones k (by simp))
theorem am4{σ2:St}(hn:σ.length=n)(ho:∀i∈Cq t,n<=i)(h:∀j,j∉Cq t->σ2[j]?=(σ++List.replicate k none)[j]?):∀(j:Nat) v,(σ++List.replicate k none)[j]?=some (some v)->σ2[j]?=some (some v):=λj v e=>by
 by_cases hj:j∈Cq t
 . have:=ho j hj
   rw[je (a_ (f_ hn) this),Av] at e;split at e<;>simp at e
 . rw[h j hj];exact e
def av7(o:Option Dv):List Dv:=match o with|some x=>[x]|none=>[]
set_option tactic.hygienic true in
theorem ad1(h:MW.Gn fin item body (k+1) i M=.ok ds M') :
 ∃d o M1 rest,item i M=some d/\body d M=.ok o M1/\MW.Gn fin item body k (i+1) M1=.ok rest M'/\ds=av7 o++rest:=by
 simp only[MW.Gn] at h;split at h
 . cases h
 . rename_i d hd
   obtain⟨o,M1,e1,h⟩:=dm h;obtain⟨rest,M2,e2,h⟩:=dm h;cases h;exact⟨d,o,M1,rest,hd,e1,e2,by cases o<;>rfl⟩
theorem kj.snoc(r:kj K ι H ds vs)(h:Rep K ι H d v):kj K ι H (ds++[d]) (vs++[v]):=r.append (.cons h .nil)
set_option tactic.hygienic true in
theorem W8(e:MW.Al s body M1=.ok ds M2):s.len<=100000/\MW.Gn s.fin s.item body s.len 0 M1=.ok ds M2:=by
 unfold MW.Al at e;split at e
 . rename_i hl
   exact⟨hl,e⟩
 . cases e
noncomputable def keptAs(v:Bool)(ds:List Dv)(M:Store):Res Dv:=if v=true then .ok (.vl ds) M else MW.new (.lst ds) M
theorem ajy(h:(Ex.comp v k t it e').den W ρ M=.ok d M'):∃s M1 ds M2,it.den W ρ M=.ok s M1/\s.len<=100000 /\
 MW.Gn s.fin s.item (λd M=>match t.put d (ρ++List.replicate k none) with|some ρ'=>(e'.den W ρ' M).bind λx M'=>.ok (some x) M'|none=>.bad) s.len 0 M1=.ok ds M2/\keptAs v ds M2=.ok d M':=by
 rw[MW.Qf] at h;obtain⟨s,M1,e1,h⟩:=dm h;obtain⟨ds,M2,e2,h⟩:=dm h;exact⟨s,M1,ds,M2,e1,(W8 e2).1,(W8 e2).2,h⟩
mutual
theorem Rep.adopt{K:Fg}{ι:Io}{H:Hp}{D:Addr}:∀{d:Dv}{v:V},Rep K (ι.hide D) H d v->Rep K (ι.add D) H d v
 |_,_,.non=>.non|_,_,.bl b=>.bl b|_,_,.int i=>.int i|_,_,.str s=>.str s|_,_,.tup e r=>.tup e (kj.adopt r)|_,_,.vl e n r=>.vl e ⟨λm=>(dw.mp m).elim n.1 λz=>n.2 (by rw[v7.mp z];exact cj),λm=>n.2 (bh _ m)⟩ (kj.adopt r)
 |_,_,.fz e r=>.fz e (kj.adopt r)
 | _,_,.ref e=>.ref (by
  have e:ι.l[_]?=some _:=e;show(ι.l++[D])[_]?=_;rw[dq (ak.mp e).1];exact e)
theorem kj.adopt{K:Fg}{ι:Io}{H:Hp}{D:Addr}:∀{ds:List Dv}{vs:List V},kj K (ι.hide D) H ds vs->kj K (ι.add D) H ds vs
 |_,_,.nil=>.nil|_,_,.cons h t=>.cons (Rep.adopt h) (kj.adopt t)
end
theorem kh.adopt(S:kh nm K (ι.hide D) H M)(hd:H D=some (.lst vs))(r:kj K (ι.hide D) H ds vs)(hδ:ι.off D):kh nm K (ι.add D) H (M++[.lst ds]):=by
 refine⟨by have:=S.len;simp only[Io.hide] at this;simp[Io.add,this],?_,λa ha=>?_,λn o a hn ha=>?_⟩
 . exact zm.mpr ⟨S.nd,by simp,by
    intro x hx y hy;have:y=D:=by simpa using hy
    subst this;intro e;subst e;exact hδ.1 hx⟩
 . obtain⟨h1,vs,h2⟩:=S.del a (bh _ ha)
   exact⟨λm=>(dw.mp m).elim h1 λz=>hδ.2 (by rw[<- v7.mp z];exact ha),vs,h2⟩
 . rcases Dz hn with q|⟨q,rfl⟩
   . rcases Dz ha with z|⟨z,_⟩
     . exact(S.obj n o a q z).map (λd v r=>r.adopt) rfl
     . exact absurd (MW.v5 q) (by rw[z,<- S.len];exact qd _)
   . rcases Dz ha with z|⟨_,rfl⟩
     . exact absurd (ak.mp z).1 (by rw[q,<- S.len];exact qd _)
     . exact⟨vs,hd,r.adopt⟩
theorem am5(S:kh nm K (ι.hide D) H M)(hd:H D=some (.lst vs))(r:kj K (ι.hide D) H ds vs)(hδ:ι.off D)(le:Le ι0 H0 ι H)(h0:H0 D=none)(h:keptAs v ds M=.ok d M') :
 ∃ι',Le ι0 H0 ι' H/\kh nm K ι' H M'/\Rep K ι' H d (.ref D):=by
 unfold keptAs at h;split at h
 . cases h
   exact⟨ι,le,S.show,.vl hd hδ r.show⟩
 . cases h
   refine⟨ι.add D,⟨?_,le.del,le.tup,le.Py,le.lst,le.dom⟩,S.adopt hd r hδ,.ref ?_⟩
   . obtain⟨Y,e,hY⟩:=le.ext
     exact⟨Y++[D],by show ι.l++[D]=_;rw[e,w6],λa ha=>(dw.mp ha).elim (hY a) λz=>by rw[v7.mp z];exact h0⟩
   . show(ι.l++[D])[M.length]?=some D
     rw[<- S.len];simp[Io.hide]
def BodyOk(nm:Nm)(K:Fg)(σ2:St)(tc:TT)(te:TE)(ρ2:En)(M:Store)(o:Option Dv)(M':Store):Prop:=∀ι H (G1:V->Hp->Prop) (G0:Hp->Prop),kh nm K ι H M->tu K ι H ρ2 σ2 ->
 (∀ι' H' v,Le ι H ι' H'->kh nm K ι' H' M'->(match o with|some x=>Rep K ι' H' x v->G1 v H'|none=>G0 H'))->tc σ2 H λb H3=>if b=true then te σ2 H3 λv H4=>G1 v H4 else G0 H3
set_option tactic.hygienic true in
theorem aae{N:List Str}(hk:N.length-X.N.length=k)(ho:∀i∈Cq t,X.N.length<=i)(hσ:σ.length=X.N.length)(S:kh nm X.K ι H M)(R:tu X.K ι H ρ σ)(e1:it.den W ρ M=.ok s M1)(hlen:s.len<=100000)(e2:MW.Gn s.fin s.item body s.len 0 M1=.ok ds M')(ek:keptAs v0 ds M'=.ok d0 M0)(q:∀ι' H' v,Le ι H ι' H'->kh nm X.K ι' H' M0->Rep X.K ι' H' d0 v->Q v H')(hb:∀d M2 o M3,body d M2=.ok o M3->∃ρ5,t.put d (ρ++List.replicate k none)=some ρ5/\∀σ5,BodyOk nm X.K σ5 tc te ρ5 M2 o M3):ady (N.length-X.N.length) (tI nm W X.K it) (tGt nm X.K t) tc te σ H Q:=by
 refine⟨ι,ρ,M,s,M1,S,R,e1,fun ι1 H1 J le1 S1 sj D hD=>?_⟩;rw[hk];refine⟨λi m H2=>m=s.len-i/\i<=s.len/\∃ι2 M2 acc vs rest,LeD D ι1 H1 (Io.hide ι2 D) H2/\kh nm X.K (Io.hide ι2 D) H2 M2/\H2 D=some (.lst vs)/\kj X.K (Io.hide ι2 D) H2 acc vs/\acc.length<=i /\
  MW.Gn s.fin s.item body m i M2=.ok rest M'/\ds=acc++rest,?_,?_⟩
 . exact⟨s.len,rfl,jr _,ι1,M1,[],[],ds,LeD.start hD _,S1.hide hD,uy,.nil,bc _,e2,rfl⟩
 . rintro i m H2 ⟨hm,hil,ι2,M2,acc,vs,rest,le2,S2,hd2,ayu,hacc,e3,hds⟩
   have leP:Le ι1 H1 ι2 H2:=LeD.done le2;have a9w:ι2.δ=ι1.δ:=leP.del;have hoff:ι2.off D:=⟨(S2.del D cj).1,λz=>by rw[a9w] at z;exact(S1.fresh hD).2 z⟩;obtain⟨go,stop⟩:=sj (Io.hide ι2 D) H2 M2 (le2.toX hD) S2;cases m with
   |zero =>
    simp only[MW.Gn] at e3;split at e3<;>cases e3;rename_i hfin;have hi:i=s.len:=by lia
    subst hi;rw[wk] at hds;subst hds;obtain⟨ι9,le9,S9,r9⟩:=am5 S2 hd2 ayu hoff leP hD ek;exact .inl ⟨stop hfin,q ι9 H2 _ (le1.trans le9) S9 r9⟩
   |succ m =>
    obtain⟨d,o,M3,rest',h1,h2,h3,h4⟩:=ad1 e3;obtain⟨g1,g2⟩:=go i d (by lia) h1;refine .inr ⟨g1,λv H3 yv=>?_⟩;obtain⟨le3,S3,r3⟩:=g2 v H3 yv;obtain⟨ρ5,agc,bok⟩:=hb d M2 o M3 h2;have R3:tu X.K (Io.hide ι2 D) H3 ρ σ:=((R.mono le1).Ie (le2.toX hD)).mono le3;refine⟨Io.hide ι2 D,ρ++List.replicate k none,M2,d,ρ5,S3,ajx R3,r3,agc,fun σ5 R5 l5 k5=>⟨l5,am4 hσ ho k5,?_⟩⟩;have hd3:=le3.lst D vs (S2.del D cj).1 hd2;refine bok σ5 (Io.hide ι2 D) H3 _ _ S3 R5 (fun ι6 H6 u le6 S6=>by
     have hd6:=le6.lst D vs (S2.del D cj).1 hd3;have ayv:LeD D ι1 H1 ι6 H6:=(le2.go le3).go le6;have ei:ι6=Io.hide ⟨ι6.l,ι2.δ⟩ D:=by have:=le6.del;obtain⟨l6,δ6⟩:=ι6;simp only[Io.hide] at this ⊢;rw[this]
     rw[ei] at ayv S6;have av8:kj X.K (Io.hide ⟨ι6.l,ι2.δ⟩ D) H6 acc vs:=by rw[<- ei];exact(ayu.mono le3).mono le6
     cases o with
     |none =>
      refine⟨m,ph _,by lia,by lia,⟨ι6.l,ι2.δ⟩,M3,acc,vs,rest',ayv,S6,hd6,av8,a_ hacc x_,h3,?_⟩;rw[hds,h4];rfl
     |some x =>
      intro r6;rw[ei] at r6;have hmem:D∈(Io.hide ⟨ι6.l,ι2.δ⟩ D).δ:=cj;refine⟨vs,m,hd6,?_,ph _,by lia,by lia,⟨ι6.l,ι2.δ⟩,M3,acc++[x],vs++[u],rest',ayv.grow hD hd6,S6.grow hd6 hmem,uy,(av8.snoc r6).grow hd6 hmem,by simp;exact hacc,h3,?_⟩
      . rw[<- ayu.length]
        exact Eg (ig hacc (ig hil hlen)) (by decide)
      . rw[hds,h4];simp[av7])
set_option tactic.hygienic true in
theorem aaf{N:List Str}(hk:N.length-X.N.length=k)(ho:∀i∈Cq t,X.N.length<=i):∀σ H Q,σ.length=X.N.length->tE nm W X.K (.comp v0 k t it e') σ H Q ->
 ady (N.length-X.N.length) (tI nm W X.K it) (tGt nm X.K t) (λ_ H Q=>Q true H) (tE nm W X.K e') σ H Q:=fun σ H Q hσ hh=>by
 obtain⟨ι,ρ,M,d,M',S,R,e,q⟩:=hh;obtain⟨s,M1,ds,M2,e1,hlen,e2,ek⟩:=ajy e;refine aae hk ho hσ S R e1 hlen e2 ek q λd M2 o M3 hb=>?_
 split at hb
 . rename_i ρ5 agc
   obtain⟨x,M4,e5,hb⟩:=dm hb;cases hb;refine⟨ρ5,agc,fun σ5 ι5 H5 G1 G0 S5 R5 g=>?_⟩;show if true=true then _ else _
   rw[cu rfl];exact one (X:=X) S5 R5 e5 fun ι6 H6 u le6 S6 R6 r6=>g ι6 H6 u le6 S6 r6
 . cases hb
theorem ad2(h:(Ex.Gm v k t it c' e').den W ρ M=.ok d M'):∃s M1 ds M2,it.den W ρ M=.ok s M1/\s.len<=100000 /\
 MW.Gn s.fin s.item (λd M=>match t.put d (ρ++List.replicate k none) with|some ρ'=>(c'.den W ρ' M).bind λb M'=>(match b with|.bl true=>(e'.den W ρ' M').bind λx M''=>.ok (some x) M''|.bl false=>.ok none M'|_=>.bad)|none=>.bad) s.len 0 M1=.ok ds M2/\keptAs v ds M2=.ok d M':=by
 rw[MW.Xm] at h;obtain⟨s,M1,e1,h⟩:=dm h;obtain⟨ds,M2,e2,h⟩:=dm h;exact⟨s,M1,ds,M2,e1,(W8 e2).1,(W8 e2).2,h⟩
set_option tactic.hygienic true in
theorem Wf{N:List Str}(hk:N.length-X.N.length=k)(ho:∀i∈Cq t,X.N.length<=i):∀σ H Q,σ.length=X.N.length->tE nm W X.K (.Gm v0 k t it c' e') σ H Q ->
 ady (N.length-X.N.length) (tI nm W X.K it) (tGt nm X.K t) (tQ nm W X.K c') (tE nm W X.K e') σ H Q:=fun σ H Q hσ hh=>by
 obtain⟨ι,ρ,M,d,M',S,R,e,q⟩:=hh;obtain⟨s,M1,ds,M2,e1,hlen,e2,ek⟩:=ad2 e;refine aae hk ho hσ S R e1 hlen e2 ek q λd M2 o M3 hb=>?_
 split at hb
 . rename_i ρ5 agc
   obtain⟨x,M4,e5,hb⟩:=dm hb;refine⟨ρ5,agc,fun σ5 ι5 H5 G1 G0 S5 R5 g=>?_⟩;split at hb
   . obtain⟨y,M6,e6,hb⟩:=dm hb
     cases hb;refine Zh (X:=X) S5 R5 e5 fun ι6 H6 le6 S6 R6=>?_
     rw[cu rfl];exact one (X:=X) S6 R6 e6 fun ι7 H7 u le7 S7 R7 r7=>g ι7 H7 u (le6.trans le7) S7 r7
   . cases hb
     refine Zh (X:=X) S5 R5 e5 fun ι6 H6 le6 S6 R6=>?_
     rw[bz (by simp)];exact g ι6 H6 .non le6 S6
   . cases hb
 . cases hb
theorem PE.ad3(h:PE X e t)(w:∀σ H Q,σ.length=X.N.length->t' σ H Q->t σ H Q):PE X e t':=λpins s σ H Q I q=>h pins s σ H Q I (w σ H Q I.len q)
theorem PS.ad3(h:PS X st t)(w:∀D σ H,σ.length=X.N.length->t' D σ H->t D σ H):PS X st t':=λpins s σ H D I q=>h pins s σ H D I (w D σ H I.len q)
theorem ayw(B:Kd X N scope)(hcalm:X.calm=true)(hi:PI X tg iter (tI nm W X.K it))(hg:∀C fp s H,PG (blk X N scope C fp s H) tg (tGt nm X.K t))(he:∀C fp s H,PE (blk X N scope C fp s H) elt (tE nm W X.K e'))(hs:Ig iter=true)(hk:N.length-X.N.length=k)(ho:∀i∈Cq t,X.N.length<=i):PE X (.ListComp elt [⟨tg,iter,[],0⟩] scope pos) (tE nm W X.K (.comp v0 k t it e')) :=
 PE.ad3 (ahs B hcalm hi hg (λ_ _ _ _=>.inl ⟨rfl,rfl⟩) he (Hm hs X.env)) (aaf hk ho)
theorem am6(B:Kd X N scope)(hcalm:X.calm=true)(hi:PI X tg iter (tI nm W X.K it))(hg:∀C fp s H,PG (blk X N scope C fp s H) tg (tGt nm X.K t))(hc:∀C fp s H,PT (blk X N scope C fp s H) c (tQ nm W X.K c'))(he:∀C fp s H,PE (blk X N scope C fp s H) elt (tE nm W X.K e'))(hs:Ig iter=true)(hk:N.length-X.N.length=k)(ho:∀i∈Cq t,X.N.length<=i):PE X (.ListComp elt [⟨tg,iter,[c],0⟩] scope pos) (tE nm W X.K (.Gm v0 k t it c' e')) :=
 PE.ad3 (ahs B hcalm hi hg (λ_ _ _ _=>.inr ⟨c,rfl,hc _ _ _ _⟩) he (Hm hs X.env)) (Wf hk ho)
theorem ad4(h:∀σ H Q,σ.length=X.N.length->tE nm W X.K e' σ H Q->tt σ H Q):∀D σ H,σ.length=X.N.length->tS nm W X.K (.asg (.tg (.name i)) e') D σ H->axf tt (ahb i) D σ H:=λD σ H hσ hh=>by obtain⟨ι,ρ,M,fl,ρ',M',S,R,e,q⟩:=hh;rw[MW.abl] at e;obtain⟨x,M1,e1,e⟩:=dm e;obtain⟨ρ2,M2,e2,e⟩:=dm e;cases e;rw[MW.amu] at e2;obtain⟨e3,e4⟩:=rz e2;subst e4;cases e3;exact h σ H _ hσ (one S R e1 fun ι1 H1 v le S1 R1 r=>q ι1 H1 _ le S1 (R1.set r i))
theorem ajz{y:Str}(B:Kd X N scope)(hcalm:X.calm=true)(hi:PI X tg iter (tI nm W X.K it))(hg:∀C fp s H,PG (blk X N scope C fp s H) tg (tGt nm X.K t))(he:∀C fp s H,PE (blk X N scope C fp s H) elt (tE nm W X.K e'))(hs:Ig iter=true)(hk:N.length-X.N.length=k)(ho:∀i∈Cq t,X.N.length<=i)(hN:X.N.Nodup)(hy:X.N[i]?=some y)(hl:X.env.scope.names.lookup y=some .local)(hsw:swapsWith (.ListComp elt [⟨tg,iter,[],0⟩] scope pos) (some (.Name y py)) spos.line X.env=pure true):PS X (.Assign [.Name y py] (.ListComp elt [⟨tg,iter,[],0⟩] scope pos) spos) (tS nm W X.K (.asg (.tg (.name i)) (.comp v0 k t it e'))) :=
 PS.ad3 (aht B hcalm hi hg (λ_ _ _ _=>.inl ⟨rfl,rfl⟩) he (Hm hs X.env) hN hy hl hsw) (ad4 (aaf hk ho))
theorem ad5{y:Str}(B:Kd X N scope)(hcalm:X.calm=true)(hi:PI X tg iter (tI nm W X.K it))(hg:∀C fp s H,PG (blk X N scope C fp s H) tg (tGt nm X.K t))(hc:∀C fp s H,PT (blk X N scope C fp s H) c (tQ nm W X.K c'))(he:∀C fp s H,PE (blk X N scope C fp s H) elt (tE nm W X.K e'))(hs:Ig iter=true)(hk:N.length-X.N.length=k)(ho:∀i∈Cq t,X.N.length<=i)(hN:X.N.Nodup)(hy:X.N[i]?=some y)(hl:X.env.scope.names.lookup y=some .local)(hsw:swapsWith (.ListComp elt [⟨tg,iter,[c],0⟩] scope pos) (some (.Name y py)) spos.line X.env=pure true):PS X (.Assign [.Name y py] (.ListComp elt [⟨tg,iter,[c],0⟩] scope pos) spos) (tS nm W X.K (.asg (.tg (.name i)) (.Gm v0 k t it c' e'))) :=
 PS.ad3 (aht B hcalm hi hg (λ_ _ _ _=>.inr ⟨c,rfl,hc _ _ _ _⟩) he (Hm hs X.env) hN hy hl hsw) (ad4 (Wf hk ho))
end
def spF(nm:Nm)(W:Dy)(K:Fg)(n f:Nat):Sp:=λvs H Q _=>∃ι M ds d M',kh nm K ι H M/\kj K ι H ds vs/\ds.length=n/\W.call f ds M=.ok d M'/\∀ι' H' v,Le ι H ι' H'->kh nm K ι' H' M'->Rep K ι' H' d v->Q v H'
section
variable{nm:Nm}{W:Dy}{X:Cx}{a b c o:Expr}{a' b' c' o':Ex}{pos pos' apos:Pos}{ι:Io}{H:Hp}{σ:St}{ρ:En}{M M1 M2:Store}{x y:Dv}{es:List Expr}{es':Dr}{k n f:Nat}{fa C:Addr}{fd:FuncData}{ps:List Str}{m:Str}
theorem s_call{x:Str}(F:Ij X.prog X.w X.K X.mg X.base CX0 k fa fd ps (spF nm W X.K n f))(hr:zj k X.A)(hg:Gl X x)(hm:X.mg x=some (.ref fa))(hk:PySem.W.keepIn X.K (.ref fa)=true)(hb:Binds X.K fd ps [])(hlen:Dr.len es'=n)(ha:PA X (a::es) (W4 nm W X.K es'))(hdb:(x==("__debug__" : Str))=false)(he:starEach (a::es) X.env=(false,eval a X.env)::starEach es X.env)(hpl:(backTo pos (starEach es X.env)).any (·.1)=false) :
 PE X (.Call (.Name x p) (a::es) [] pos) (tE nm W X.K (.call f es')) :=
 PE.of (aq7 (E:=E0) F hr hg hm hk hb .nil ahk ha hdb he hpl) fun σ H Q ι ρ M d M' S R e q=>by
  rw[MW.amo] at e;obtain⟨ds,M1,e1,e⟩:=dm e;refine Xu S R e1 fun ι1 H1 vs le S1 R1 r=>?_
  rw[wk];exact⟨ι1,M1,ds,d,M',S1,r,(Ku e1).trans hlen,e,fun ι' H' v W5 S' r'=>q ι' H' v (le.trans W5) S' r'⟩
theorem ayx{x:Str}(Mk0:Mk X.K C fa)(F:Ij X.prog X.w X.K X.mg X.base CX0 k fa fd ps (spF nm W X.K (n+1) f))(hr:zj (k+1) X.A)(hg:Gl X x)(hm:X.mg x=some (.ref C))(hb:Binds X.K fd ps [])(hcl:W.cls[ci]?=some cl)(hin:cl.init=f)(hnm:nm.cls ci=some C)(hlen:Dr.len es'=n)(ha:PA X (a::es) (W4 nm W X.K es'))(hdb:(x==("__debug__" : Str))=false)(he:starEach (a::es) X.env=(false,eval a X.env)::starEach es X.env)(hpl:(backTo pos (starEach es X.env)).any (·.1)=false) :
 PE X (.Call (.Name x p) (a::es) [] pos) (tE nm W X.K (.make ci es')) :=
 PE.of (aq9 (E:=E0) Mk0 F hr hg hm hb .nil ahk ha hdb he hpl) fun σ H Q ι ρ M d M' S R e q=>by
  rw[MW.adq] at e;obtain⟨ds,M1,e1,e⟩:=dm e;rw[hcl] at e;have e:((W.call cl.init (.ref M1.length::ds) (M1++[.ins ci []])).bind λr M2=>match r with|.non=>.ok (.ref M1.length) M2|_=>.bad)=.ok d M':=e;obtain⟨r0,M2,e2,e⟩:=dm e;refine Xu S R e1 fun ι1 H1 vs le S1 R1 r=>λp dx hp hdx hne=>?_
  rw[wk];have keep:∀a u,H1 a=some u->upd (upd H1 dx (.own p)) p (.ins C dx []) a=some u:=λa u e=>by rw[j4 (j5 e hp),j4 (j5 e hdx)];exact e
  obtain⟨S2,le2⟩:=S1.new (o:=.ins ci []) hp keep λ_=>⟨C,dx,[],hnm,uy,.nil⟩
  have rp:Rep X.K (ι1.add p) (upd (upd H1 dx (.own p)) p (.ins C dx [])) (.ref M1.length) (.ref p):=.ref (by show(ι1.l++[p])[M1.length]?=some p;rw[<- S1.len];simp);refine⟨ι1.add p,M1++[.ins ci []],.ref M1.length::ds,r0,M2,S2,.cons rp (r.mono le2),by rw[gf,Ku e1,hlen],by rw[<- hin];exact e2,fun ι' H' v W5 S' r'=>?_⟩;cases r'<;>try cases e
  exact⟨rfl,q ι' H' _ (le.trans (le2.trans W5)) S' (rp.mono W5)⟩
theorem Xx{K:Fg}(hno:∀i,nm.fld i≠m):∀{fs:List (Nat×Dv)}{l:List (Str×V)},ou K ι H (λk k'=>k'=nm.fld k) fs l->l.lookup m=none
 |_,_,.nil=>rfl
 |_,_,.cons (k:=kk) (k':=kk') hk h t=>by
  subst hk;rw[mq];have z:(m==nm.fld kk)=false:=by
   cases z:m==nm.fld kk with
   |false=>rfl|true=>exact absurd (eq_of_beq z).symm (hno kk)
  rw[z];exact Xx hno t
theorem ayy{mi ci:Nat}{cl:MW.Cl}{pl:Sem Bool}(ho:PE X o (tE nm W X.K o'))(c0:Cls X.K C)(hme:Meth X.K C m fa)(F:Ij X.prog X.w X.K X.mg X.base CX0 k fa fd ps (spF nm W X.K (n+1) f))(hr:zj k X.A)(hb:Binds X.K fd ps [])
 (ayz:∀c' cl',W.cls[c']?=some cl'->∀g,cl'.meths.lookup mi=some g->nm.cls c'=some C/\g=f) (hno:∀i,nm.fld i≠m)
 (hlen:Dr.len es'=n) (ha:PA X (a::es) (W4 nm W X.K es')) (he:starEach (a::es) X.env=(false,eval a X.env)::starEach es X.env) (hpl:(backTo pos (starEach es X.env)).any (·.1)=false)
 (ht:eval (.Call (.Attribute o m apos) (a::es) [] pos) X.env=(do
  let ov <- eval o X.env
  standAt apos.atName
  let (f,first) <- holding [ov] (getMethod ov m pl)
  callWith pos f first (backTo pos (starEach (a::es) X.env)) (backToKw pos (keywordEach [] X.env)))) :
 PE X (.Call (.Attribute o m apos) (a::es) [] pos) (tE nm W X.K (.meth o' mi es')) :=
 PE.of (aq8 (E:=E0) ho c0 hme F hr hb .nil ahk ha he hpl ht) fun σ H Q ι ρ M d M' S R e q=>by
  rw[MW.Xl] at e;obtain⟨x,M1,e1,e⟩:=dm e;obtain⟨ds,M2,e2,e⟩:=dm e;refine one S R e1 fun ι1 H1 v le S1 R1 r=>?_
  obtain⟨j,hx⟩:∃j,x=.ref j:=by cases x<;>first|exact⟨_,rfl⟩|cases e
  subst hx;obtain⟨p,rfl,hp⟩:∃p,v=.ref p/\ι1.l[j]?=some p:=by cases r with|ref z=>exact⟨_,rfl,z⟩
  have e:(match M1[j]? with
   | some (.ins c _)=>(match(W.cls[c]?).bind λC=>C.meths.lookup mi with
    | some f=>W.call f (.ref j::ds) M2|none=>.bad)
   | _=>.bad)=Res.ok d M':=e
  cases hM:M1[j]? with
  |none=>rw[hM] at e;cases e
  |some ob =>
   rw[hM] at e;cases ob with
   |ins ci fs =>
    have e:(match(W.cls[ci]?).bind λC=>C.meths.lookup mi with|some f=>W.call f (.ref j::ds) M2|none=>.bad)=Res.ok d M':=e;cases hL:(W.cls[ci]?).bind λC=>C.meths.lookup mi with
    |none=>rw[hL] at e;cases e
    |some g =>
     rw[hL] at e;have e:W.call g (.ref j::ds) M2=.ok d M':=e;obtain⟨cl',h1,h2⟩:=dg.mp hL;obtain⟨h3,rfl⟩:=ayz ci cl' h1 g h2;obtain⟨C',dx,l,g1,g2,g3⟩:=S1.obj j _ p hM hp;rw[h3] at g1;cases g1;have hnone:l.lookup m=none:=Xx hno g3;refine⟨p,dx,l,rfl,g2,hnone,Xu S1 R1 e2 fun ι2 H2 vs le2 S2 R2 r2=>?_⟩;rw[wk];exact⟨ι2,M2,.ref j::ds,d,M',S2,.cons (r.mono le2) r2,by rw[gf,Ku e2,hlen],e,fun ι' H' v W5 S' r'=>q ι' H' v ((le.trans le2).trans W5) S' r'⟩
   |_=>cases e
end
section
variable{nm:Nm}{W:Dy}{X:Cx}{a b c o:Expr}{a' b' c' o':Ex}{pos pos' apos:Pos}{ι:Io}{H:Hp}{σ:St}{ρ:En}{M M1 M2:Store}{x y:Dv}{es:List Expr}{es':Dr}
theorem ay0:PE X (.Dict [] [] pos) (tE nm W X.K .ajo):=PE.of ama fun σ H Q ι ρ M d M' S R e q=>by
 rw[MW.amm] at e;cases e;intro p hp;obtain⟨S2,le2⟩:=S.new (o:=.dT []) (H':=upd H p (.dT [])) hp (λa u e=>by rw[j4 (j5 e hp)];exact e) λ_=>⟨[],uy,.nil⟩
 exact q _ _ _ le2 S2 (.ref (by show(ι.l++[p])[M.length]?=some p;rw[<- S.len];simp))
theorem ay1:PE X (.Dict [] [] pos) (tE nm W X.K .af4):=PE.of al9 fun σ H Q ι ρ M d M' S R e q=>by
 rw[MW.amn] at e;cases e;intro p hp;obtain⟨S2,le2⟩:=S.new (o:=.dK []) (H':=upd H p (.dK [])) hp (λa u e=>by rw[j4 (j5 e hp)];exact e) λ_=>⟨[],uy,.nil⟩
 exact q _ _ _ le2 S2 (.ref (by show(ι.l++[p])[M.length]?=some p;rw[<- S.len];simp))
def a9y(nm:Nm)(K:Fg):axb:=λo i v H Q=>∃ι M x y d M',kh nm K ι H M/\Rep K ι H x o/\Rep K ι H y i/\Rep K ι H d v/\MW.setOp x y d M=some M'/\∀H',Le ι H ι H'->kh nm K ι H' M'->Q H'
theorem Xy(h:n<100000):n<sizeLine:=gh h Ui
set_option tactic.hygienic true in
theorem asi(hu:X.A.units+1<cLine):axc X (a9y nm X.K):=by
 intro pins s σ H o i v ov iv u Q I ro ri rv hh;obtain⟨ι,M,x,y,d,M',S,rx,ry,rd,e,q⟩:=hh;obtain⟨j,hx⟩:∃j,x=.ref j:=by cases x<;>first|exact⟨_,rfl⟩|cases e
 subst hx;obtain⟨p,rfl,hp⟩:∃p,o=.ref p/\ι.l[j]?=some p:=by cases rx with|ref z=>exact⟨_,rfl,z⟩
 simp only[MW.setOp] at e;split at e
 . rename_i xs hM
   split at e
   . rename_i k
     obtain⟨qq,e1,e2⟩:=bx.mp e;subst e2;cases ry;obtain⟨vs,h1,h2⟩:=S.obj j _ p hM hp;refine set_list pins s σ H _ _ v ov iv u Q I ro ri rv ⟨p,vs,k,qq,rfl,rfl,h1,by rw[<- h2.length];exact e1,?_⟩;obtain⟨S2,le2⟩:=S.put (u:=.lst (vs.set qq v)) (o:=.lst (xs.set qq d)) hM hp λle=>⟨_,uy,(h2.mono le).set (rd.mono le) qq⟩
     exact q _ le2 S2
   . cases e
 . rename_i kvs hM
   obtain⟨k,e1,e⟩:=dg.mp e;split at e<;>cases e;rename_i hl;obtain⟨l,h1,h2⟩:=S.obj j _ p hM hp;obtain⟨b,rfl,hb⟩:=Vj ry e1;cases ro;refine Z1 (H':=upd H p (.dT (putK l k v))) (y:=.ref b) (v:=v) hu I (af3.t h1 hb (by rw[<- h2.length];exact Xy hl)) ri rv λs' I'=>⟨_,I',?_⟩
   obtain⟨S2,le2⟩:=S.put (u:=.dT (putK l k v)) (o:=.dT (MW.Ib kvs k d)) hM hp λle=>⟨_,uy,(h2.mono le).put (rd.mono le)⟩
   exact q _ le2 S2
 . rename_i kvs hM
   obtain⟨k,e1,e⟩:=dg.mp e;split at e<;>cases e;rename_i hl;obtain⟨l,h1,h2⟩:=S.obj j _ p hM hp;have hy:=Vi ry e1;subst hy;cases ro;refine Z1 (H':=upd H p (.dK (putK l k v))) (y:=kV k) (v:=v) hu I (af3.k h1 (by rw[<- h2.length];exact Xy hl)) ri rv λs' I'=>⟨_,I',?_⟩
   obtain⟨S2,le2⟩:=S.put (u:=.dK (putK l k v)) (o:=.dK (MW.Ib kvs k d)) hM hp λle=>⟨_,uy,(h2.mono le).put (rd.mono le)⟩
   exact q _ le2 S2
 . cases e
theorem Xz(h:Te e=true)(t:Expr)(l:Nat)(env:Env):swapsWithSole [t] e l env=pure false:=by unfold swapsWithSole;exact Qj h _ _ _
theorem am7(e o b:Expr)(p:Pos)(l:Nat)(env:Env):swapsWithSole [.Subscript o b p] e l env=pure false:=by cases e<;>rfl
theorem am8(hu:X.A.units+1<cLine)(he:PE X a (tE nm W X.K a'))(ho:PE X o (tE nm W X.K o'))(hi:PE X b (tE nm W X.K b'))
 (ha:∀v,assign (.Subscript o b pos') X.env v=(do
  let ov <- holding [v] (eval o X.env)
  let iv <- holding [v,ov] (eval b X.env)
  standAt pos'
  holding [v,ov,iv] (setItem ov iv v)
  release [v,ov,iv] [])):PS X (.Assign [.Subscript o b pos'] a pos) (tS nm W X.K (.asg (.sub o' b') a')) :=
 PS.of (alm he (axe ho hi (asi (nm:=nm) hu) ha) (am7 _ _ _ _ _ _) (by rfl) (by rfl)) λD σ H ι ρ M fl ρ' M' S R e q=>by
  rw[MW.abl] at e;obtain⟨x,M1,e1,e⟩:=dm e;obtain⟨ρ2,M2,e2,e⟩:=dm e;cases e;rw[MW.ar3] at e2;obtain⟨y,M3,e3,e2⟩:=dm e2;obtain⟨z,M4,e4,e2⟩:=dm e2;obtain⟨M5,M6,e5,e6⟩:=dm e2;obtain⟨e7,e8⟩:=rz e5;subst e8;cases e6;refine one S R e1 fun ι1 H1 v le S1 R1 r=>?_
  refine one S1 R1 e3 fun ι2 H2 v2 le2 S2 R2 r2=>one S2 R2 e4 fun ι3 H3 v3 le3 S3 R3 r3=>?_
  exact⟨ι3,_,y,z,x,_,S3,r2.mono le3,r3,(r.mono le2).mono le3,e7,λH' W5 S'=>q ι3 H' σ (((le.trans le2).trans le3).trans W5) S' (R3.mono W5)⟩
set_option tactic.hygienic true in
theorem am9(hn:n=nm.fld f)(hcl:∀c C,nm.cls c=some C->Cls X.K C/\Jw X.K C n)(he:PE X a (tE nm W X.K a'))(ho:PE X o (tE nm W X.K o'))(hpl:Te a=true) :
 PS X (.Assign [.Attribute o n pos'] a pos) (tS nm W X.K (.asg (.fld o' f) a')) :=
 PS.of (axt ho he (Qj hpl _ _ _)) λD σ H ι ρ M fl ρ' M' S R e q=>by
  rw[MW.abl] at e;obtain⟨x,M1,e1,e⟩:=dm e;obtain⟨ρ2,M2,e2,e⟩:=dm e;cases e;rw[MW.ar4] at e2;obtain⟨y,M3,e3,e2⟩:=dm e2;obtain⟨M5,M6,e5,e6⟩:=dm e2;obtain⟨e7,e8⟩:=rz e5;subst e8;cases e6;refine one S R e1 fun ι1 H1 v le S1 R1 r=>one S1 R1 e3 fun ι2 H2 v2 le2 S2 R2 r2=>?_
  obtain⟨j,hx⟩:∃j,y=.ref j:=by cases y<;>first|exact⟨_,rfl⟩|cases e7
  subst hx;obtain⟨p,rfl,hp⟩:∃p,v2=.ref p/\ι2.l[j]?=some p:=by cases r2 with|ref z=>exact⟨_,rfl,z⟩
  simp only[MW.Ud] at e7;split at e7
  . rename_i c fs hM
    have hl:fs.length<1000:=by
     by_cases z:fs.length<1000
     . exact z
     . rw[bz z] at e7;cases e7
    rw[cu hl] at e7;cases e7;obtain⟨C,dx,l,h1,h2,h3⟩:=S2.obj j _ p hM hp;subst hn;obtain⟨g1,g2⟩:=hcl c C h1;refine⟨p,C,dx,l,rfl,h2,g1,g2,by rw[<- h3.length];exact hl,?_⟩;obtain⟨S3,le3⟩:=S2.put (u:=.ins C dx (Lq (nm.fld f) v l)) (o:=.ins c (MW.Wa f x fs)) hM hp λW5=>⟨C,dx,_,h1,uy,(h3.mono W5).Lq ((r.mono le2).mono W5)⟩
    exact q ι2 _ σ ((le.trans le2).trans le3) S3 (R2.mono le3)
  . cases e7
theorem Dc.weak(h:Dc X f r)(w:∀xs H Q,r' xs H Q->r xs H Q):Dc X f r':=λpins s σ H xs us Q I rs q=>h pins s σ H xs us Q I rs (w xs H Q q)
def rB(nm:Nm)(K:Fg)(b:Blt):List V->Hp->VK->Prop:=λvs H Q=>∃ι M ds d M',kh nm K ι H M/\kj K ι H ds vs/\MW.o6 b ds M=.ok d M'/\∀ι' H' v,Le ι H ι' H'->kh nm K ι' H' M'->Rep K ι' H' d v->Q v H'
theorem Dc.of(h:Dc X f r)(w:∀vs H Q ι M ds d M',kh nm X.K ι H M->kj X.K ι H ds vs->MW.o6 bb ds M=.ok d M'->(∀ι' H' v,Le ι H ι' H'->kh nm X.K ι' H' M'->Rep X.K ι' H' d v->Q v H')->r vs H Q):Dc X f (rB nm X.K bb) :=
 Dc.weak h λvs H Q ⟨ι,M,ds,d,M',S,r,e,q⟩=>w vs H Q ι M ds d M' S r e q
theorem ad7:∀σ H Q,tE nm W X.K (.blt t es') σ H Q->tCB (rB nm X.K t) (W4 nm W X.K es') σ H Q:=fun σ H Q hh=>by obtain⟨ι,ρ,M,d,M',S,R,e,q⟩:=hh;rw[MW.abk] at e;obtain⟨ds,M1,e1,e⟩:=dm e;exact Xu S R e1 fun ι1 H1 vs le S1 R1 r=>⟨ι1,M1,ds,d,M',S1,r,e,fun ι' H' v W5 S' r'=>q ι' H' v (le.trans W5) S' r'⟩
theorem ahv{x:Str}{id:String}(hc:Dc X (.builtin id) (rB nm X.K t))(hg:Gl X x)(hm:X.mg x=none)(hv:bootBuiltins x=some (.builtin id))(ha:PA X (a::es) (W4 nm W X.K es'))(hn:x≠"__name__")(hdb:(x==("__debug__" : Str))=false)(he:starEach (a::es) X.env=(false,eval a X.env)::starEach es X.env)(hpl:(backTo pos (starEach es X.env)).any (·.1)=false):PE X (.Call (.Name x p) (a::es) [] pos) (tE nm W X.K (.blt t es')):=PE.weak (al1 hc hg hm hv ha hn hdb he hpl) ad7
theorem agd{x:Str}(hc:Dc X (.type T) (rB nm X.K t))(hg:Gl X x)(hm:X.mg x=none)(hv:bootBuiltins x=some (.type T))(ha:PA X (a::es) (W4 nm W X.K es'))(hn:x≠"__name__")(hdb:(x==("__debug__" : Str))=false)(he:starEach (a::es) X.env=(false,eval a X.env)::starEach es X.env)(hpl:(backTo pos (starEach es X.env)).any (·.1)=false):PE X (.Call (.Name x p) (a::es) [] pos) (tE nm W X.K (.blt t es')):=PE.weak (aji hc hg hm hv ha hn hdb he hpl) ad7
theorem Lx(r:kj K ι H ds vs)(h:ds=[d]):∃v,vs=[v]/\Rep K ι H d v:=by subst h;cases r with|cons h t=>cases t;exact⟨_,rfl,h⟩
theorem asj:Dc X (.type "tuple") (rB nm X.K .tuple):=Dc.of Zg λvs H Q ι M ds d M' S r e q=>by
 cases r with
 |nil=>simp[MW.o6] at e
 |@cons x v _ _ h t =>
  cases t with
  |cons h2 t2=>simp[MW.o6] at e
  |nil =>
   have e:Res.ofOpt ((MW.yq M x).map MW.D.tup) M=.ok d M':=e;obtain⟨e1,e2⟩:=rz e;subst e2;obtain⟨xs,e3,rfl⟩:=bx.mp e1;obtain⟨p,us,rfl,hp,ru⟩:=Il S h e3;rcases hp with hp|hp
   . refine⟨p,us,rfl,.inl ⟨Jv.of hp,λl hl=>?_⟩⟩
     obtain⟨S2,le2,r2⟩:=Ob S hl ru;exact q ι _ _ le2 S2 r2
   . exact⟨p,us,rfl,.inr ⟨Ml.of hp,q ι H _ (Le.refl _ _) S (.tup hp ru)⟩⟩
theorem ay2:Dc X (.type "list") (rB nm X.K .list):=Dc.of abe λvs H Q ι M ds d M' S r e q=>by
 cases r with
 |nil=>simp[MW.o6] at e
 |@cons x v _ _ h t =>
  cases t with
  |cons h2 t2=>simp[MW.o6] at e
  |nil =>
   have e:(match MW.yq M x with|some ds=>MW.new (.lst ds) M|none=>.bad)=Res.ok d M':=e;cases e3:MW.yq M x with
   |none=>rw[e3] at e;cases e
   |some xs =>
    rw[e3] at e;cases e;obtain⟨p,us,rfl,hp,ru⟩:=Il S h e3;refine⟨p,us,rfl,hp.imp Jv.of Ml.of,λl hl=>?_⟩;obtain⟨S2,le2,r2⟩:=W6 S hl ru;exact q _ _ _ le2 S2 r2
set_option tactic.hygienic true in
theorem a4k:Dc X (.builtin "len") (rB nm X.K .len):=Dc.of abd λvs H Q ι M ds d M' S r e q=>by
 cases r with
 |nil=>simp[MW.o6] at e
 |@cons x v _ _ h t =>
  cases t with
  |cons h2 t2=>simp[MW.o6] at e
  |nil =>
   have fin:∀xs,(MW.yq M x=some xs)->d=.int xs.length->M'=M->∃p ys,[v]=[V.ref p]/\(Jv X.K H p ys\/Ml X.K H p ys)/\Q (.int ys.length) H:=λxs e3 e1 e2=>by subst e1 e2;obtain⟨p,us,rfl,hp,ru⟩:=Il S h e3;exact⟨p,us,rfl,hp.imp Jv.of Ml.of,by rw[<- ru.length];exact q ι H _ (Le.refl _ _) S (.int _)⟩
   cases h with
   |fz e1 r1 =>
    cases e;exact⟨_,_,rfl,.inl e1.sq,by rw[<- r1.length];exact q ι H _ (Le.refl _ _) S (.int _)⟩
   |@ref n p e1 =>
    have e:(match M[n]? with|some (.lst ds)=>Res.ok (MW.D.int ds.length) M|_=>.bad)=Res.ok d M':=e;split at e
    . rename_i ds hM
      cases e;exact fin ds (by simp[MW.yq,MW.asList,hM]) rfl rfl
    . cases e
   |tup e1 r1=>cases e;exact fin _ rfl rfl rfl|vl e1 n1 r1=>cases e;exact fin _ rfl rfl rfl|_=>cases e
end
open MW
variable{M:Store}
theorem Aa(h:∀n,a≠.ref n)(h2:∀ds,a≠.vl ds):MW.Hd M (k+1) a (.ref n)=none:=by
 have ha:MW.asList M a=none:=by cases a<;>first|rfl|exact absurd rfl (h _)|exact absurd rfl (h2 _)
 cases a<;>first|exact absurd rfl (h _)|exact absurd rfl (h2 _)|(unfold MW.Hd;dsimp only;rw[ha];cases MW.asList M (.ref n)<;>rfl)
theorem Kr(h:∀n,a≠.ref n)(h2:∀ds,a≠.vl ds):MW.Hd M (k+1) (.ref n) a=none:=by
 have ha:MW.asList M a=none:=by cases a<;>first|rfl|exact absurd rfl (h _)|exact absurd rfl (h2 _)
 cases a<;>first|exact absurd rfl (h _)|exact absurd rfl (h2 _)|(unfold MW.Hd;dsimp only;rw[ha];cases MW.asList M (.ref n)<;>rfl)
theorem Ff(k i j:Nat):MW.Hd M (k+1) (.ref i) (.ref j)=match asList M (.ref i),asList M (.ref j) with
 |some as,some bs=>if as.length=bs.length then Ov (Hd M k) as bs else some false
 |none,none=>Z5 (Hd M k) M (.ref i) (.ref j)|_,_=>none:=rfl
theorem X3(k:Nat)(ds:List D)(j:Nat):MW.Hd M (k+1) (.vl ds) (.ref j)=match asList M (.ref j) with
 |some bs=>if ds.length=bs.length then Ov (Hd M k) ds bs else some false
 |none=>none:=by
 show(match some ds,asList M (.ref j) with
  |some as,some bs=>if as.length=bs.length then Ov (Hd M k) as bs else some false
  | none,none=>Z5 (Hd M k) M (.vl ds) (.ref j)|_,_=>none)=_
 cases asList M (.ref j)<;>rfl
theorem Og(k:Nat)(ds:List D)(j:Nat):MW.Hd M (k+1) (.ref j) (.vl ds)=match asList M (.ref j) with
 |some bs=>if bs.length=ds.length then Ov (Hd M k) bs ds else some false
 |none=>none:=by
 show(match asList M (.ref j),some ds with
  |some as,some bs=>if as.length=bs.length then Ov (Hd M k) as bs else some false
  | none,none=>Z5 (Hd M k) M (.ref j) (.vl ds)|_,_=>none)=_
 cases asList M (.ref j)<;>rfl
set_option tactic.hygienic true in
theorem Vk(h:Z5 f M (.ref i) (.ref j)=some r):∃ka kb,M[i]?=some (.dT ka)/\M[j]?=some (.dT kb)/\Z4 ka=true/\Z4 kb=true/\((i=j/\r=true)\/(i≠j/\(if ka.length=kb.length then eqK f kb ka else some false)=some r)):=by
 unfold Z5 at h;dsimp only at h;split at h
 . rename_i ka kb h1 h2
   split at h
   . rename_i hk
     rw[aq] at hk;split at h
     . rename_i e;cases h;exact⟨ka,kb,h1,h2,hk.1,hk.2,.inl ⟨e,rfl⟩⟩
     . rename_i e;exact⟨ka,kb,h1,h2,hk.1,hk.2,.inr ⟨e,h⟩⟩
   . cases h
 . cases h
set_option tactic.hygienic true in
theorem Tf(h:xx M a b=some r):Z6 M a=false/\Hd M 6 a b=some r:=by
 unfold xx at h;split at h
 . cases h
 . rename_i hd;exact⟨by simpa using hd,h⟩
end Sm
namespace Za
open PySem SetTable
def Srt(xs:Array Nat):Prop:=∀(i j a b:Nat),xs[i]?=some a->xs[j]?=some b->i<j->a<b
theorem asl(hs:Srt xs):∀(fuel lo hi:Nat),lo<=hi->hi<=xs.size->hi-lo<=fuel ->
 (∀(i a:Nat),xs[i]?=some a->i<lo->a<j)->(∀(i a:Nat),xs[i]?=some a->hi<=i->j<=a) ->
 below.go xs j fuel lo hi<=xs.size/\(∀(i a:Nat),xs[i]?=some a->i<below.go xs j fuel lo hi->a<j)/\(∀(i a:Nat),xs[i]?=some a->below.go xs j fuel lo hi<=i->j<=a):=by
 intro fuel
 induction fuel with
 |zero =>
  intro lo hi h1 h2 h3 h4 h5;unfold below.go;have:lo=hi:=by lia
  subst this;exact⟨h2,h4,h5⟩
 |succ fuel ih =>
  intro lo hi h1 h2 h3 h4 h5;unfold below.go
  by_cases hlt:lo<hi
  . simp only[cu hlt]
    have hm:(lo+hi) / 2<xs.size:=by lia
    have hg:xs[(lo+hi) / 2]?=some xs[(lo+hi) / 2]:=by simp[hm]
    have hgd:xs.getD ((lo+hi) / 2) j=xs[(lo+hi) / 2]:=by simp[Array.getD,hm]
    rw[hgd]
    by_cases hc:xs[(lo+hi) / 2]<j
    . rw[cu hc]
      refine ih _ _ (by lia) h2 (by omega) (λi a e l=>?_) h5
      by_cases hi':i=(lo+hi) / 2
      . subst hi';rw[hg] at e;cases e;exact hc
      . exact Js (hs _ _ _ _ e hg (by lia)) hc
    . rw[bz hc]
      refine ih _ _ (by lia) (e_ hm) (by omega) h4 (λi a e l=>?_)
      by_cases hi':i=(lo+hi) / 2
      . subst hi';rw[hg] at e;cases e;exact s_ hc
      . have:=hs _ _ _ _ hg e (by lia);exact e_ (c_ (s_ hc) this)
  . rw[bz hlt]
    have:lo=hi:=u_ h1 (s_ hlt);subst this;exact⟨h2,h4,h5⟩
theorem Ip(hs:Srt xs):below xs j<=xs.size/\(∀(i a:Nat),xs[i]?=some a->i<below xs j->a<j)/\(∀(i a:Nat),xs[i]?=some a->below xs j<=i->j<=a) :=
 asl hs _ _ _ (jr _) (bc _) C_ (λi a _ h=>absurd h (wy _)) (λi a e h=>by
  have:=(jd.mp e).1;lia)
theorem below_at(hs:Srt xs)(h:xs[i]?=some j):below xs j=i:=by
 obtain⟨h1,h2,h3⟩:=Ip (j:=j) hs;rcases Bv (below xs j) i with l|l|l
 . have li:=(jd.mp h).1
   have hg:xs[below xs j]?=some xs[below xs j]:=by simp
   have a:=h3 _ _ hg (bc _);have b:=hs _ _ _ _ hg h l
   lia
 . exact l
 . have:=h2 _ _ h l;lia
theorem aag(j:Nat):has #[] j=false:=by simp[has]
set_option tactic.hygienic true in
theorem Vl{t:SetTable}(hs:Srt t.place):t.slot j=.live i↔t.place[i]?=some j:=by
 unfold slot;constructor
 . intro h
   dsimp only at h;split at h
   . rename_i e;cases h;simpa using e
   . split at h<;>cases h
 . intro h
   dsimp only;rw[below_at hs h,h];simp
theorem age{t:SetTable}(hs:Srt t.place)(hd:t.dummies=#[]):t.slot j=.empty↔∀i:Nat,t.place[i]?≠some j:=by
 constructor
 . intro h i e
   rw[(Vl hs).mpr e] at h;cases h
 . intro h
   unfold slot;dsimp only;rw[hd,aag,bz (by simpa using h _)];rfl
theorem N6(xs:Array α)(p:Nat)(x:α)(hp:p<=xs.size)(i:Nat):(insertAt xs p x)[i]?=if i<p then xs[i]? else if i=p then some x else xs[i-1]?:=by
 rw[<- lg,toList_insertAt];have hl:(xs.toList.take p).length=p:=by simp;lia
 by_cases h1:i<p
 . rw[cu h1,dq (b_ h1 (g_ hl)),List.getElem?_take,cu h1,lg]
 . rw[bz h1,je (a_ (f_ hl) (s_ h1)),hl]
   by_cases h2:i=p
   . subst h2;simp
   . rw[bz h2]
     obtain⟨q,hq⟩:∃q,i=p+q+1:=⟨i-p-1,by lia⟩;subst hq;rw[show p+q+1-p=q+1 by lia,Eu,List.getElem?_drop,show p+q+1-1=p+q by lia,lg]
theorem Qk(xs:Array α)(p:Nat)(x:α):(insertAt xs p x).size=xs.size+1:=by have:=(insertAt_perm xs p x).length_eq;simpa using this
def up(p i:Nat):Nat:=if i<p then i else i+1
theorem Th(xs:Array α)(p:Nat)(x:α)(hp:p<=xs.size)(i:Nat):(insertAt xs p x)[up p i]?=xs[i]?:=by
 rw[N6 xs p x hp];unfold up
 by_cases h:i<p
 . simp[h]
 . rw[bz h,bz (j_ (a_ (s_ h) x_)),bz (i_ (A_ (s_ h)))];rfl
theorem Mx(xs:Array α)(p:Nat)(x:α)(hp:p<=xs.size):(insertAt xs p x)[p]?=some x:=by rw[N6 xs p x hp];simp
theorem Rf(p i:Nat):i=p\/∃k,i=up p k:=by
 unfold up;rcases Bv i p with h|h|h
 . exact .inr ⟨i,by simp[h]⟩
 . exact .inl h
 . exact .inr ⟨i-1,by rw[bz (by omega)];lia⟩
theorem asm(hs:Srt xs)(hn:∀i:Nat,xs[i]?≠some j):Srt (insertAt xs (below xs j) j):=by
 obtain⟨h1,h2,h3⟩:=Ip (j:=j) hs;intro a b x y ea eb l;rcases Rf (below xs j) a with rfl|⟨a',rfl⟩<;>rcases Rf (below xs j) b with hb|⟨b',rfl⟩
 . subst hb;lia
 . rw[Mx _ _ _ h1] at ea
   rw[Th _ _ _ h1] at eb;cases ea;have:below xs j<=b':=by unfold up at l;split at l<;>omega
   have g:=h3 _ _ eb this;rcases Nat.lt_or_eq_of_le g with g|g
   . exact g
   . subst g;exact absurd eb (hn _)
 . subst hb
   rw[Mx _ _ _ h1] at eb;rw[Th _ _ _ h1] at ea;cases eb;exact h2 _ _ ea (by unfold up at l;split at l<;>omega)
 . rw[Th _ _ _ h1] at ea eb
   exact hs _ _ _ _ ea eb (by unfold up at l;split at l<;>split at l<;>omega)
def adv(m:Nat)(p:Probe):Probe:=({ SetTable.fresh 0 0 true with mask:=m }:SetTable).advance p
theorem ay3(t:SetTable)(p:Probe):t.advance p=adv t.mask p:=rfl
theorem abp(h:p.more > 0):adv m p={ p with j:=p.j+1,more:=p.more-1 }:=cu h
theorem X4(h:¬p.more > 0):adv m p={ p with j:=(leap m p.i p.perturb).1,more:=runEnd m (leap m p.i p.perturb).1-(leap m p.i p.perturb).1,i:=(leap m p.i p.perturb).1,perturb:=(leap m p.i p.perturb).2 }:=bz h
def beg(m i pt:Nat):Probe:={ j:=i,more:=runEnd m i-i,i:=i,perturb:=pt,dummy:=none }
def P(m:Nat)(h:Int):Nat->Probe
 |0=>beg m (bits h%(m+1)) (bits h)|n+1=>adv m (P m h n)
theorem ad8(t:SetTable)(h:Int):t.probeStart h=P t.mask h 0:=rfl
theorem abq(m:Nat)(h:Int):∀n,(P m h n).dummy=none
 |0=>rfl
 |n+1=>by
  show(adv m (P m h n)).dummy=none
  by_cases q:(P m h n).more > 0
  . rw[abp q];exact abq m h n
  . rw[X4 q];exact abq m h n
def I(m:Nat)(h:Int):Nat->Nat
 |0=>bits h%(m+1)|T+1=>(I m h T*5+1+bits h / 32 ^ (T+1))%(m+1)
theorem asn(m i:Nat):runEnd m i-i<=9:=by unfold runEnd;split<;>lia
theorem ad9{m:Nat}{h:Int}{n i pt:Nat}(e:P m h n=beg m i pt):∀c,c<=runEnd m i-i->P m h (n+c)={ j:=i+c,more:=runEnd m i-i-c,i:=i,perturb:=pt,dummy:=none }
 |0,_=>by rw[Nat.add_zero,e];rfl
 |c+1,hc=>by
  have:=ad9 e c (by lia);show adv m (P m h (n+c))=_;rw[this,abp (by show 0<runEnd m i-i-c;lia)];simp only
  congr 1
theorem ana(e:P m h n=beg m i pt):P m h (n+(runEnd m i-i)+1)=beg m ((i*5+1+pt / 32)%(m+1)) (pt / 32):=by show adv m (P m h (n+(runEnd m i-i)))=_;rw[ad9 e _ (bc _),X4 (by simp)];rfl
theorem anb(m:Nat)(h:Int):∀T,∃n,n<=10*T/\P m h n=beg m (I m h T) (bits h / 32 ^ T)
 |0=>⟨0,jr _,by simp[P,I]⟩
 |T+1=>by
  obtain⟨n,h1,h2⟩:=anb m h T;have:=asn m (I m h T);refine⟨_,?_,(ana h2).trans ?_⟩
  . lia
  . rw[Fz,<- Nat.pow_succ];rfl
def f5(m x:Nat):Nat:=(x*5+1)%(m+1)
def it(m:Nat):Nat->Nat->Nat
 |0,x=>x|k+1,x=>f5 m (it m k x)
theorem X5(m a x:Nat):∀k,it m (a+k) x=it m k (it m a x)
 |0=>rfl|k+1=>by show f5 m (it m (a+k) x)=_;rw[X5 m a x k];rfl
def Cov(m:Nat):Prop:=∀i j,i<=m->j<=m->∃k,k<=m/\it m k i=j
theorem ay4(h0:it m (m+1) 0=0)(h:∀j,j<=m->∃k,k<=m/\it m k 0=j):Cov m:=λi j hi hj=>by
 obtain⟨a,la,ea⟩:=h i hi;obtain⟨b,lb,eb⟩:=h j hj
 by_cases hab:a<=b
 . refine⟨b-a,a_ C_ lb,?_⟩
   rw[<- ea,<- X5,show a+(b-a)=b by lia,eb]
 . refine⟨m+1+b-a,by omega,?_⟩
   rw[<- ea,<- X5,show a+(m+1+b-a)=(m+1)+b by lia,X5,h0,eb]
def orb(m:Nat):Nat->Nat->List Nat
 |0,_=>[]|k+1,x=>x::orb m k (f5 m x)
theorem ahw{m:Nat}:∀{k x j:Nat},j∈orb m k x->∃q,q<k/\it m q x=j
 |0,_,_,h=>by simp[orb] at h
 |k+1,x,j,h=>by
  simp only[orb,bw] at h;rcases h with rfl|h
  . exact⟨0,A_ (jr _),rfl⟩
  . obtain⟨q,l,e⟩:=ahw h
    refine⟨1+q,by lia,?_⟩;rw[X5];exact e
theorem Ul(h0:it m (m+1) 0=0)(h:((List.range (m+1)).all λj=>(orb m (m+1) 0).contains j)=true):Cov m :=
 ay4 h0 λj hj=>by have:=jg.mp h j (by simp;exact A_ hj);obtain⟨q,l,e⟩:=ahw (by simpa using this);exact⟨q,z_ l,e⟩
def Msk(m:Nat):Prop:=m=7\/m=15\/m=31\/m=63\/m=127
theorem a9z:Cov 7:=Ul (by decide+kernel) (by decide+kernel)
theorem a4m:Cov 15:=Ul (by decide+kernel) (by decide+kernel)
theorem a4n:Cov 31:=Ul (by decide+kernel) (by decide+kernel)
theorem a4o:Cov 63:=Ul (by decide+kernel) (by decide+kernel)
theorem ay5:Cov 127:=Ul (by decide+kernel) (by decide+kernel)
theorem Msk.cov(h:Msk m):Cov m:=by
 rcases h with rfl|rfl|rfl|rfl|rfl
 . exact a9z
 . exact a4m
 . exact a4n
 . exact a4o
 . exact ay5
theorem aso(h:Int):bits h<2 ^ 64:=by
 unfold bits;have h1:=Ar h (b:=2 ^ 64) (by decide);have h2:=yu h (b:=2 ^ 64) (by decide)
 lia
theorem a4p(m:Nat)(h:Int):∀T,I m h T<=m
 |0=>Bu (Jg (bits h) (Ju m))|T+1=>Bu (Jg (I m h T*5+1+bits h / 32 ^ (T+1)) (Ju m))
theorem anc(m:Nat)(h:Int):∀k,I m h (13+k)=it m k (I m h 13)
 |0=>rfl
 |k+1=>by
  show(I m h (13+k)*5+1+bits h / 32 ^ (13+k+1))%(m+1)=f5 m (it m k (I m h 13));have:bits h / 32 ^ (13+k+1)=0:=by
   apply Nat.div_eq_of_lt;refine gh (aso h) ?_
   calc 2 ^ 64<=32 ^ 13:=by decide
    _<=32 ^ (13+k+1):=Nat.pow_le_pow_right (by decide) (a_ x_ x_)
  rw[this,anc m h k];rfl
theorem cover(hm:Msk m)(h:Int)(j:Nat)(hj:j<=m):∃T,T<=13+m/\I m h T=j:=by obtain⟨k,lk,e⟩:=hm.cov (I m h 13) j (a4p m h 13) hj;exact⟨13+k,w_ lk,(anc m h k).trans e⟩
theorem asp(hm:Msk m)(h:Int)(j:Nat)(hj:j<=m):∃n,n<10*turns m/\(P m h n).j=j:=by obtain⟨T,lT,e⟩:=cover hm h j hj;obtain⟨n,ln,e2⟩:=anb m h T;exact⟨n,by unfold turns;lia,by rw[e2];exact e⟩
theorem mod_le(a m:Nat):a%(m+1)<=m:=Bu (Jg a (Ju m))
theorem Vm(h:i<=m):i<=runEnd m i/\runEnd m i<=m:=by unfold runEnd;split<;>omega
theorem a4q(m:Nat)(h:Int):∀n,(P m h n).j+(P m h n).more<=m
 |0=>by
  have:=Vm (mod_le (bits h) m);show bits h%(m+1)+(runEnd m (bits h%(m+1))-bits h%(m+1))<=m
  omega
 |n+1=>by
  have ih:=a4q m h n;show(adv m (P m h n)).j+(adv m (P m h n)).more<=m
  by_cases q:(P m h n).more > 0
  . rw[abp q];simp only;lia
  . rw[X4 q]
    have:=Vm (mod_le ((P m h n).i*5+1+(P m h n).perturb / 32) m);show(leap m (P m h n).i (P m h n).perturb).1+(runEnd m (leap m (P m h n).i (P m h n).perturb).1-(leap m (P m h n).i (P m h n).perturb).1)<=m
    have e:(leap m (P m h n).i (P m h n).perturb).1=((P m h n).i*5+1+(P m h n).perturb / 32)%(m+1):=rfl;rw[e];omega
theorem a90(m:Nat)(h:Int)(n:Nat):(P m h n).j<=m:=by have:=a4q m h n;lia
def Occ(t:SetTable)(j:Nat):Prop:=∃i:Nat,t.place[i]?=some j
structure TOk(t:SetTable)(es:Array (Int×Value)):Prop where
 msk:Msk t.mask
 dum:t.dummies=#[]
 siz:t.place.size=es.size
 srt:Srt t.place
 bnd:∀(i j:Nat),t.place[i]?=some j->j<=t.mask
 ful:t.place.size<=t.mask
 rch:∀(i j:Nat) e,t.place[i]?=some j->es[i]?=some e->∃n,(P t.mask e.1 n).j=j/\∀m,m<n->Occ t (P t.mask e.1 m).j
theorem TOk.fits(k:TOk t es):t.fits es.size=true:=by unfold SetTable.fits fill;rw[k.dum];simp[k.siz];have:=k.ful;have:=k.siz;lia
theorem Msk.odd(h:Msk m):m%2=1:=by rcases h with rfl|rfl|rfl|rfl|rfl<;>rfl
theorem TOk.way(k:TOk t es):t.gaveWay=false:=by unfold gaveWay;rw[k.msk.odd];rfl
theorem ane(hs:Srt xs)(h:xs.size<=m):∃j,j<=m/\∀i:Nat,xs[i]?≠some j:=by
 apply wg;intro hn;have all:∀j,j<=m->∃i:Nat,xs[i]?=some j:=λj hj=>by apply wg;intro hc;exact hn ⟨j,hj,λi e=>hc ⟨i,e⟩⟩
 have:∀j,j<=m->∀i:Nat,xs[i]?=some j->j<=i:=by
  intro j
  induction j with
  |zero=>intro _ i _;exact jr _
  |succ j ih =>
   intro hj i e;obtain⟨i',e'⟩:=all j (by lia);have:=ih (by lia) i' e';rcases Bv i i' with l|l|l
   . have:=hs _ _ _ _ e e' l;lia
   . subst l;rw[e] at e';injection e' with e';exact a_ (f_ e') this
   . exact a_ (v_ this) l
 obtain⟨i,e⟩:=all m (bc _);have h1:=this m (bc _) i e;have h2:=(jd.mp e).1;exact l_ h2 (a_ h h1)
structure Fst(t:SetTable)(h:Int)(N:Nat):Prop where
 lt:N<10*turns t.mask
 emp:¬Occ t (P t.mask h N).j
 occ:∀m,m<N->Occ t (P t.mask h m).j
theorem least{p:Nat->Prop}:∀{n:Nat},p n->∃k,k<=n/\p k/\∀m,m<k->¬p m:=by
 intro n
 induction n using Nat.strongRecOn with
 |ind n ih =>
  intro h
  by_cases hc:∃m,m<n/\p m
  . obtain⟨m,l,hm⟩:=hc
    obtain⟨k,l2,a,b⟩:=ih m l hm;exact⟨k,e_ (c_ l2 l),a,b⟩
  . exact⟨n,bc _,h,λm l hm=>hc ⟨m,l,hm⟩⟩
theorem TOk.fst(k:TOk t es)(h:Int):∃N,Fst t h N:=by obtain⟨j,hj,e⟩:=ane k.srt k.ful;obtain⟨n,ln,en⟩:=asp k.msk h j hj;obtain⟨N,l,a,b⟩:=least (p:=λn=>¬Occ t (P t.mask h n).j) (n:=n) (λ⟨i,c⟩=>e i (by rw[en] at c;exact c));exact⟨N,c_ l ln,a,λm hm=>Classical.not_not.mp (b m hm)⟩
theorem anf(k:TOk t es)(F:Fst t h N)(ha:Nat->Int):∀(fuel n:Nat),n<=N->N-n<fuel ->
 (probe.go t ha h fuel (P t.mask h n)=some (.empty (P t.mask h N).j none)/\∀m,n<=m->m<N->∀i:Nat,t.place[i]?=some (P t.mask h m).j->ha i≠h)
\/∃m i:Nat,n<=m/\m<N/\t.place[i]?=some (P t.mask h m).j/\ha i=h/\(∀q,n<=q->q<m->∀i:Nat,t.place[i]?=some (P t.mask h q).j->ha i≠h)
 /\probe.go t ha h fuel (P t.mask h n)=some (.candidate (P t.mask h m).j i (P t.mask h (m+1))):=by
 intro fuel
 induction fuel with
 |zero=>intro n _ l;omega
 |succ fuel ih =>
  intro n hn l;unfold probe.go
  by_cases e:n=N
  . subst e
    left
    rw[(age k.srt k.dum).mpr (λi c=>F.emp ⟨i,c⟩)];simp only;rw[abq];exact⟨rfl,λm a b=>by lia⟩
  . obtain⟨i,hi⟩:=F.occ n (by lia)
    rw[(Vl k.srt).mpr hi];simp only[ay3];have hnx:adv t.mask (P t.mask h n)=P t.mask h (n+1):=rfl;rw[hnx]
    by_cases hh:ha i=h
    . right
      refine⟨n,i,bc _,by lia,hi,hh,λq a b=>by lia,?_⟩;rw[cu (by simp[hh])]
    . rw[bz (by simp[hh])]
      have un:∀i':Nat,t.place[i']?=some (P t.mask h n).j->ha i'≠h:=λi' e'=>by have a:=below_at k.srt e';have b:=below_at k.srt hi;rw[<- a,b];exact hh
      rcases ih (n+1) (by lia) (by lia) with⟨a,b⟩|⟨m,i',a,b,c,d,e1,e2⟩
      . left
        refine⟨a,λm x y=>?_⟩
        by_cases q:m=n
        . subst q;exact un
        . exact b m (by lia) y
      . right
        refine⟨m,i',by lia,b,c,d,λq x y=>?_,e2⟩
        by_cases z:q=n
        . subst z;exact un
        . exact e1 q (by lia) y
theorem TOk.ahead(k:TOk t es)(F:Fst t h N){i:Nat}(he:es[i]?=some e)(hh:e.1=h):∃m,m<N/\t.place[i]?=some (P t.mask h m).j:=by
 have li:i<t.place.size:=by rw[k.siz];exact(jd.mp he).1
 have hp:t.place[i]?=some t.place[i]:=by simp[li]
 obtain⟨n,a,b⟩:=k.rch i _ e hp he;subst hh;refine⟨n,?_,by rw[a];exact hp⟩;rcases Bv n N with l|l|l
 . exact l
 . subst l;exact absurd ⟨i,by rw[a];exact hp⟩ F.emp
 . exact absurd (b N l) F.emp
theorem abr(hs:Srt t.place)(q:Nat):Occ (t.put j).1 q↔q=j\/Occ t q:=by
 obtain⟨h1,h2,h3⟩:=Ip (j:=j) hs;constructor
 . rintro⟨i,e⟩
   have e:(insertAt t.place (below t.place j) j)[i]?=some q:=e;rcases Rf (below t.place j) i with rfl|⟨i',rfl⟩
   . rw[Mx _ _ _ h1] at e;cases e;exact .inl rfl
   . rw[Th _ _ _ h1] at e;exact .inr ⟨i',e⟩
 . rintro(rfl|⟨i,e⟩)
   . exact⟨_,Mx _ _ _ h1⟩
   . exact⟨up (below t.place j) i,(Th _ _ _ h1 i).trans e⟩
theorem TOk.put(k:TOk t es)(F:Fst t h N)(room:t.place.size+1<=t.mask) :
 TOk (t.put (P t.mask h N).j).1 (insertAt es (t.put (P t.mask h N).j).2 (h,x)):=by
 obtain⟨h1,h2,h3⟩:=Ip (j:=(P t.mask h N).j) k.srt;have h1':below t.place (P t.mask h N).j<=es.size:=by rw[<- k.siz];exact h1
 refine⟨k.msk,?_,?_,?_,?_,?_,?_⟩
 . show(if has t.dummies _ then _ else t.dummies)=#[]
   rw[k.dum,aag];rfl
 . show(insertAt t.place _ _).size=(insertAt es _ _).size
   rw[Qk,Qk,k.siz]
 . exact asm k.srt (λi e=>F.emp ⟨i,e⟩)
 . intro i j e
   rcases(abr k.srt j).mp ⟨i,e⟩ with rfl|⟨i',e'⟩
   . exact a90 _ _ _
   . exact k.bnd i' j e'
 . show(insertAt t.place _ _).size<=t.mask
   rw[Qk];exact room
 . intro i j e hp he
   have hp:(insertAt t.place (below t.place (P t.mask h N).j) (P t.mask h N).j)[i]?=some j:=hp;have he:(insertAt es (below t.place (P t.mask h N).j) (h,x))[i]?=some e:=he;show ∃n,(P t.mask e.1 n).j=j/\∀m,m<n->Occ (t.put (P t.mask h N).j).1 (P t.mask e.1 m).j
   rcases Rf (below t.place (P t.mask h N).j) i with rfl|⟨i',rfl⟩
   . rw[Mx _ _ _ h1] at hp
     rw[Mx _ _ _ h1'] at he;cases hp;cases he;exact⟨N,rfl,λm l=>(abr k.srt _).mpr (.inr (F.occ m l))⟩
   . rw[Th _ _ _ h1] at hp
     rw[Th _ _ _ h1'] at he;obtain⟨n,a,b⟩:=k.rch i' j e hp he;exact⟨n,a,λm l=>(abr k.srt _).mpr (.inr (b m l))⟩
abbrev OcO(ow:Array (Option Nat))(j:Nat):Prop:=∃i,ow[j]?=some (some i)
structure Own(m:Nat)(ow:Array (Option Nat))(hs:List Int):Prop where
 siz:ow.size=m+1
 cnt:ow.toList.countP Option.isSome=hs.length
 lt:∀(j i:Nat),ow[j]?=some (some i)->i<hs.length
 inj:∀(j j' i:Nat),ow[j]?=some (some i)->ow[j']?=some (some i)->j=j'
 at':∀(i:Nat) h,hs[i]?=some h->∃j n,ow[j]?=some (some i)/\(P m h n).j=j/\∀q,q<n->OcO ow (P m h q).j
theorem getD_none{ow:Array (Option Nat)}(hz:ow.size=m+1)(h:(ow.getD j (some 0)).isNone=true):ow[j]?=some none:=by
 by_cases l:j<ow.size
 . simp[Array.getD,l] at h;simp[l,h]
 . simp[Array.getD,l] at h
theorem getD_some(hz:ow.size=m+1)(hj:j<=m)(h:¬(ow.getD j (some 0)).isNone=true):OcO ow j:=by
 have l:j<ow.size:=by lia
 simp[Array.getD,l] at h;unfold OcO;rw[show ow[j]?=some ow[j] by simp[l]];cases e:ow[j] with
 |none=>exact absurd e h|some i=>exact⟨i,rfl⟩
theorem aj1(hz:ow.size=m+1)(h:Int):∀(fuel T n:Nat),P m h n=beg m (I m h T) (bits h / 32 ^ T)->(∀q,q<n->OcO ow (P m h q).j) ->
 (∃k,k<fuel/\ow[I m h (T+k)]?=some none)->∃j n',layClean.free m ow fuel (I m h T) (bits h / 32 ^ T)=some j/\(P m h n').j=j/\ow[j]?=some none/\∀q,q<n'->OcO ow (P m h q).j:=by
 intro fuel
 induction fuel with
 |zero=>rintro T n _ _ ⟨k,l,_⟩;lia
 |succ fuel ih =>
  rintro T n e hq ⟨k,lk,ek⟩;have hI:=a4p m h T;obtain⟨r1,r2⟩:=Vm hI;unfold layClean.free;cases hf:(List.range (runEnd m (I m h T)+1-I m h T)).find? λk=>(ow.getD (I m h T+k) (some 0)).isNone with
  |some c =>
   obtain⟨a,b,d⟩:=List.find?_range_eq_some.mp hf;have b:=jw.mp b;refine⟨_,n+c,rfl,by rw[ad9 e c (by omega)],getD_none hz a,λq l=>?_⟩
   by_cases hn:q<n
   . exact hq q hn
   . obtain⟨c',rfl⟩:∃c',q=n+c':=⟨q-n,by lia⟩
     rw[ad9 e c' (by lia)];show OcO ow (I m h T+c');exact getD_some hz (by lia) (λhh=>by
      have:=d c' (by lia);simp only[hh] at this;cases this)
  |none =>
   have hall:=Eb.mp hf;have occ:∀c,c<=runEnd m (I m h T)-I m h T->OcO ow (I m h T+c):=λc hc=>getD_some hz (by lia) (hall c (jw.mpr (by lia)))
   cases k with
   |zero =>
    obtain⟨i,ei⟩:=occ 0 (jr _);rw[Nat.add_zero] at ek ei;rw[ek] at ei;cases ei
   |succ k =>
    have pe:bits h / 32 ^ T / 32=bits h / 32 ^ (T+1):=by rw[Fz,<- Nat.pow_succ]
    have:=ih (T+1) (n+(runEnd m (I m h T)-I m h T)+1) (by rw[ana e,pe];rfl) (λq l=>?_) ⟨k,by lia,by rw[show T+1+k=T+(k+1) by lia];exact ek⟩
    . obtain⟨j,n',e1,e2⟩:=this
      refine⟨j,n',?_,e2⟩;rw[<- e1];show layClean.free m ow fuel ((I m h T*5+1+bits h / 32 ^ T / 32)%(m+1)) (bits h / 32 ^ T / 32)=_;rw[pe];rfl
    . by_cases hn:q<n
      . exact hq q hn
      . obtain⟨c',rfl⟩:∃c',q=n+c':=⟨q-n,by lia⟩
        rw[ad9 e c' (by lia)];show OcO ow (I m h T+c');exact occ c' (by lia)
theorem Own.room(k:Own m ow hs)(h:hs.length<=m):∃j,j<=m/\ow[j]?=some none:=by
 apply wg;intro hn;have:ow.toList.countP Option.isSome=ow.toList.length:=List.countP_eq_length.mpr λa ha=>by
  obtain⟨j,hj,e⟩:=uc ha;cases a with
  |some i=>rfl
  |none =>
   have hj':j<ow.size:=by simpa using hj
   refine absurd ⟨j,by have:=k.siz;exact z_ (b_ hj' (f_ this)),?_⟩ hn;rw[<- lg,cz hj,e]
 rw[k.cnt] at this;have:=k.siz;simp at *
 lia
theorem Own.free(hm:Msk m)(k:Own m ow hs)(hl:hs.length<=m)(h:Int):∃j n',layClean.free m ow (turns m) (bits h%(m+1)) (bits h)=some j/\(P m h n').j=j/\ow[j]?=some none/\∀q,q<n'->OcO ow (P m h q).j:=by obtain⟨j,hj,e⟩:=k.room hl;obtain⟨T,lT,eT⟩:=cover hm h j hj;have:=aj1 k.siz h (turns m) 0 0 (by simp[P,I]) (λq l=>by lia) ⟨T,by unfold turns;lia,by rw[vg,eT];exact e⟩;simpa[I] using this
theorem Own.lay(k:Own m ow hs)(e1:(P m h n').j=j)(e2:ow[j]?=some none)(e3:∀q,q<n'->OcO ow (P m h q).j) :
 Own m (ow.setIfInBounds j (some hs.length)) (hs++[h]):=by
 have lj:j<ow.size:=(jd.mp e2).1
 have get:∀q:Nat,(ow.setIfInBounds j (some hs.length))[q]?=if j=q then some (some hs.length) else ow[q]?:=λq=>by rw[Array.getElem?_setIfInBounds];split<;>simp_all
 have occ:∀q,OcO ow q->OcO (ow.setIfInBounds j (some hs.length)) q:=λq ⟨i,e⟩=>by refine⟨i,?_⟩;rw[get,bz (λh=>by subst h;rw[e2] at e;cases e)];exact e
 refine⟨by simp[k.siz],?_,λq i e=>?_,λq q' i e e'=>?_,λi h' e=>?_⟩
 . rw[Array.toList_setIfInBounds,List.countP_set (by simpa using lj),k.cnt]
   have:ow.toList[j]'(by simpa using lj)=none:=by have:=(jd.mp e2).2;simpa using this
   rw[this];simp
 . rw[get] at e
   split at e
   . cases e;simp
   . have:=k.lt q i e;simp;exact A_ (e_ this)
 . rw[get] at e e'
   split at e<;>split at e'
   . lia
   . cases e;have:=k.lt _ _ e';lia
   . cases e';have:=k.lt _ _ e;lia
   . exact k.inj q q' i e e'
 . by_cases l:i<hs.length
   . rw[dq l] at e
     obtain⟨j',n,a,b,c⟩:=k.at' i h' e;refine⟨j',n,?_,b,λq l=>occ _ (c q l)⟩;rw[get,bz (λh=>by subst h;rw[e2] at a;cases a)];exact a
   . have hi:i=hs.length:=by
      have:=(ak.mp e).1;simp at this;exact u_ (z_ this) (s_ l)
     subst hi;simp at e;subst e;exact⟨j,n',by rw[get,cu rfl],e1,λq l=>occ _ (e3 q l)⟩
theorem ahx{m:Nat}(hm:Msk m):∀(rest hs:List Int)(ow:Array (Option Nat)),Own m ow hs->hs.length+rest.length<=m+1 ->
 ∃ow',rest.foldl (λacc h=>do
  let (owner,k) <- acc
  let j <- layClean.free m owner (turns m) (bits h%(m+1)) (bits h)
  pure (owner.setIfInBounds j (some k),k+1)) (some (ow,hs.length))=some (ow',hs.length+rest.length)/\Own m ow' (hs++rest)
 |[],hs,ow,k,_=>⟨ow,rfl,by simpa using k⟩
 |h::rest,hs,ow,k,l=>by
  obtain⟨j,n',e0,e1,e2,e3⟩:=k.free hm (by simp at l;lia) h;have k':=k.lay e1 e2 e3;obtain⟨ow',a,b⟩:=ahx hm rest (hs++[h]) _ k' (by simp at l ⊢;lia);refine⟨ow',?_,by simpa using b⟩;rw[Df];have:(do
   let (owner,k) <- some (ow,hs.length)
   let j <- layClean.free m owner (turns m) (bits h%(m+1)) (bits h)
   pure (owner.setIfInBounds j (some k),k+1))=some (ow.setIfInBounds j (some hs.length),(hs++[h]).length):=by
   show(layClean.free m ow (turns m) (bits h%(m+1)) (bits h) >>= _)=_;rw[e0];simp
  rw[this,a]
  simp;lia
theorem ang(hm:Msk m)(hs:Array Int)(l:hs.size<=m+1):∃ow,layClean m hs=some ow/\Own m ow hs.toList:=by have k0:Own m (Array.replicate (m+1) none) []:=⟨by simp,by simp,λj i e=>by simp[Ej] at e,λj j' i e=>by simp[Ej] at e,λi h e=>by simp at e⟩;obtain⟨ow,a,b⟩:=ahx hm hs.toList [] _ k0 (by simpa using l);refine⟨ow,?_,by simpa using b⟩;unfold layClean;rw[<- Array.foldl_toList];exact(m6 (Option.map (·.1)) a).trans rfl
def lv(m:Nat)(ow:Array (Option Nat)):List (Nat×Nat):=(List.range (m+1)).filterMap λj=>(ow.getD j none).map (j,·)
theorem Ti(k:Own m ow hs):(j,i)∈lv m ow↔ow[j]?=some (some i):=by
 unfold lv;rw[Ed];constructor
 . rintro⟨q,a,b⟩
   obtain⟨i',e1,e2⟩:=bx.mp b;cases e2;have:j<ow.size:=by rw[k.siz];exact jw.mp a
   simp[Array.getD,this] at e1;simp[this,e1]
 . intro e
   have l:=(jd.mp e).1;refine⟨j,jw.mpr (by rw[<- k.siz];exact l),?_⟩;have:ow.getD j none=some i:=by simp[Array.getD,l,(jd.mp e).2]
   rw[this];rfl
theorem anh(m:Nat)(ow:Array (Option Nat)):(lv m ow).Pairwise λa b=>a.1<b.1:=by unfold lv;refine List.Pairwise.filterMap _ (λa a' hlt b hb b' hb'=>?_) List.pairwise_lt_range;obtain⟨_,_,rfl⟩:=bx.mp hb;obtain⟨_,_,rfl⟩:=bx.mp hb';exact hlt
theorem asq(k:Own m ow hs):((lv m ow).map (·.2)).Perm (List.range hs.length):=by
 refine(Cz ?_ List.nodup_range).mpr λi=>?_
 . rw[List.nodup_iff_pairwise_ne,List.pairwise_map]
   refine(anh m ow).imp_of_mem fun{a b} ha hb hlt e=>?_
   have:=k.inj a.1 b.1 a.2 ((Ti k).mp ha) (by rw[e];exact(Ti k).mp hb);exact l_ hlt (g_ this)
 . rw[bu,jw]
   constructor
   . rintro⟨a,ha,rfl⟩;exact k.lt _ _ ((Ti k).mp ha)
   . intro l
     obtain⟨j,n,a,_⟩:=k.at' i _ (cz l);exact⟨(j,i),(Ti k).mpr a,rfl⟩
theorem ani{α β:Type}{g:α->Option β}:∀{l:List α},(∀x∈l,(g x).isSome=true)->∀q:Nat,(l.filterMap g)[q]?=l[q]?.bind g
 |[],_,q=>by simp
 |x::l,h,q=>by
  have hx:=h x (cj ..);obtain⟨y,e⟩:=m9.mp hx;rw[List.filterMap_cons_some e];cases q with
  |zero=>simp[e]|succ q=>simpa using ani (λx hx=>h x (bh _ hx)) q
theorem ahy(hm:Msk m)(fg mv:Nat)(ld pl:Bool)(es:Array (Int×Value))(l:es.size<=m) :
 ∃t order,laid m fg mv ld pl (es.map (·.1))=some (t,order)/\t.mask=m/\TOk t (order.filterMap (es[·]?))/\(order.filterMap (es[·]?)).toList.Perm es.toList/\(order.filterMap (es[·]?)).size=es.size
 /\t.led=ld/\t.plain=pl/\t.finger=fg/\order.toList.Perm (List.range es.size):=by
 obtain⟨ow,e,k⟩:=ang hm (es.map (·.1)) (by simp;exact a_ l x_);have hperm:=asq k;simp at hperm;have hlen:(lv m ow).length=es.size:=by have:=hperm.length_eq;simpa using this
 have hsz:((((lv m ow).map (·.2)).toArray).filterMap (es[·]?)).size=es.size:=by have:=(hperm.filterMap (es[·]?)).length_eq;rw[Bh] at this;rw[<- qe,Bk,this];simp
 refine⟨{ mask:=m,place:=((lv m ow).map (·.1)).toArray,dummies:=#[],finger:=fg,led:=ld,moves:=mv,plain:=pl },((lv m ow).map (·.2)).toArray,?_,rfl,?_,?_,?_,rfl,rfl,rfl,hperm⟩
 . unfold laid;rw[e];rfl
 . have hsome:∀x∈(lv m ow).map (·.2),(es[x]?).isSome=true:=λx hx=>by
    have:=jw.mp (hperm.mem_iff.mp hx)
    simp;exact this
   have get:∀q:Nat,((((lv m ow).map (·.2)).toArray).filterMap (es[·]?))[q]?=((lv m ow)[q]?).bind λa=>es[a.2]?:=λq=>by rw[<- lg,Bk,ani hsome,jk];cases(lv m ow)[q]?<;>rfl
   have plc:∀q j:Nat,(((lv m ow).map (·.1)).toArray)[q]?=some j↔∃i,(lv m ow)[q]?=some (j,i):=λq j=>by
    simp only[List.getElem?_toArray,jk,bx];constructor
    . rintro⟨a,h,rfl⟩;exact⟨a.2,h⟩
    . rintro⟨i,h⟩;exact⟨_,h,rfl⟩
   refine⟨hm,rfl,?_,?_,?_,?_,?_⟩
   . show(((lv m ow).map (·.1)).toArray).size=_
     rw[hsz];simp[hlen]
   . intro i j a b ea eb lt
     obtain⟨i1,e1⟩:=(plc i a).mp ea;obtain⟨i2,e2⟩:=(plc j b).mp eb;obtain⟨l1,g1⟩:=ak.mp e1;obtain⟨l2,g2⟩:=ak.mp e2;have:=List.pairwise_iff_getElem.mp (anh m ow) i j l1 l2 lt;rw[g1,g2] at this;exact this
   . intro i j e
     obtain⟨i1,e1⟩:=(plc i j).mp e;have:=(Ti k).mp (az e1);have:=(jd.mp this).1;rw[k.siz] at this;show j<=m
     exact z_ this
   . show(((lv m ow).map (·.1)).toArray).size<=m
     simp[hlen];exact l
   . intro q j e' hp he
     obtain⟨i,e1⟩:=(plc q j).mp hp;rw[get,e1] at he;have he:es[i]?=some e':=he;obtain⟨j',n,a,b,c⟩:=k.at' i e'.1 (by simp[he]);have hj:=k.inj j j' i ((Ti k).mp (az e1)) a;subst hj;refine⟨n,b,λw lw=>?_⟩;obtain⟨i',ei'⟩:=c w lw;obtain⟨z,hz⟩:=uq.mp ((Ti k).mpr ei');exact⟨z,(plc z _).mpr ⟨i',hz⟩⟩
 . rw[Bk]
   have:=hperm.filterMap (es[·]?);rw[Bh] at this;exact this
 . exact hsz
theorem aaj:∀n,n<32->Msk (sizeAbove (grown n)-1)/\n<=sizeAbove (grown n)-1/\n+1<=sizeAbove (grown n)-1/\¬(n*5 >= (sizeAbove (grown n)-1)*3)/\sizeAbove (grown n)<=128:=by unfold Msk;decide+kernel
theorem anj:∀n,n<64->Msk (sizeAbove (n*2)-1)/\n<=sizeAbove (n*2)-1/\¬(n*5 >= (sizeAbove (n*2)-1)*3)/\sizeAbove (n*2)<=128:=by unfold Msk;decide+kernel
section
variable{prog:Program}{w:World}{K:Type}[DecidableEq K]{knd:KeyKind prog w K}{A:Around}{E:Value->Shared->Prop}{s:Shared}
theorem agg(n:Nat)(h:carriedByValue v=true):ofAClassStatement n v=pure false:=by cases v<;>first|(simp[carriedByValue] at h;done)|(unfold ofAClassStatement;rfl)
theorem X6(hk:IsTupleKey knd s.heap ks a)(h:Q false s):wpAny (model prog w) A (ofAClassStatement 8 (.ref a)) Q E s:=by
 have hT:=hk.typeIs;obtain⟨o,items,n,ho,_,hd,hi⟩:=hk;unfold ofAClassStatement;refine aa (o7 hT ?_);show wpAny _ _ (if("tuple"=="tuple")=true then _ else _) _ _ s;rw[cu (by decide)];refine aa (aj ?_);simp only[nq,cg,jf];refine aa (lz ho hd ?_);refine aa ?_;show wpAny _ _ (forIn items _ _) _ _ s;rw[<- Ea];refine p8 _ (λrest r s'=>r.1=none/\s'=s/\∀v∈rest,carriedByValue v=true) _ ?_ ?_ _ _ ⟨rfl,rfl,hi.byValue⟩
 . rintro v rest r s' ⟨hr,rfl,hall⟩
   rw[agg _ (hall v cj)];refine aa (aj ?_);simp only[cg,jf];exact aj ⟨rfl,rfl,λu hu'=>hall u (bh _ hu')⟩
 . rintro⟨r1,r2⟩ s' ⟨hr,rfl,_⟩
   simp only at hr;subst hr;exact aj h
theorem ank(hk:IsTupleKey knd s.heap ks a)(hs:∀v∈st,∃ks b,v=.ref b/\IsTupleKey knd s.heap ks b)(h:Q false s) :
 wpAny (model prog w) A (searchCouldBeSeen (.ref a) st) Q E s:=by
 unfold searchCouldBeSeen;refine aa ?_;refine p8 _ (λrest r s'=>r.1=none/\s'=s/\∀v∈rest,∃ks b,v=.ref b/\IsTupleKey knd s.heap ks b) _ ?_ ?_ _ _ ⟨rfl,rfl,hs⟩
 . rintro v rest r s' ⟨hr,rfl,hall⟩
   obtain⟨ks',b,rfl,hb⟩:=hall v cj;have hall':∀v∈rest,∃ks b,v=.ref b/\IsTupleKey knd s'.heap ks b:=λv hv=>hall v (bh _ hv)
   dsimp only;split
   . exact aj ⟨rfl,rfl,hall'⟩
   . refine aa (wpAny_eqIsQuiet_tuple hk ?_)
     simp only[nq,cg,jf];refine aa (wpAny_eqIsQuiet_tuple hb ?_);simp only[nq,cg,jf];refine aa (X6 hk ?_);simp only[cg,jf];refine aa (X6 hb ?_);simp only[cg,jf];exact aj ⟨rfl,rfl,hall'⟩
 . rintro⟨r1,r2⟩ s' ⟨hr,rfl,_⟩
   simp only at hr;subst hr;exact aj h
def ent(knd:KeyKind prog w K)(x:List K×Addr):Int×Value:=(tupleKeyHash knd x.1,.ref x.2)
theorem agh{es:Array (Int×Value)}{xs:List (List K×Addr)}(he:es.toList=xs.map (ent knd))(j:Nat):es[j]?=(xs[j]?).map (ent knd):=by rw[<- lg,he,jk]
theorem aj2{xs:List (List K×Addr)}(hu:A.units<cLine)(hk:IsTupleKey knd s.heap k p)(ho:s.heap.get? a=some o)(hd:o.data=.set es ep t)(T:TOk t es)(he:es.toList=xs.map (ent knd))(hx:∀x∈xs,IsTupleKey knd s.heap x.1 x.2)(hn:(xs.map (·.1)).Nodup)(F:Fst t (tupleKeyHash knd k) N)(hin:∀(i:Nat) x,xs[i]?=some x->x.1=k->Q (.there (if adding then none else some i)) s)(hout:(∀x∈xs,x.1≠k)->Q (.free (P t.mask (tupleKeyHash knd k) N).j false) s) :
 ∀(fuel n:Nat)(st:Option Probe),n<=N->N-n<fuel->st.getD (t.probeStart (tupleKeyHash knd k))=P t.mask (tupleKeyHash knd k) n ->
  (∀m,m<n->∀(i:Nat) x,t.place[i]?=some (P t.mask (tupleKeyHash knd k) m).j->xs[i]?=some x->x.1≠k) ->
  wpAny (model prog w) A (setSearchFrom a (.ref p) (tupleKeyHash knd k) adding fuel st) Q E s:=by
 intro fuel
 induction fuel with
 |zero=>intro n st _ l;omega
 |succ fuel ih =>
  intro n st hnN l hst a4t;unfold setSearchFrom;refine aa (ji ho hd T.fits ?_);dsimp only;rw[T.way,hst];simp only[cg,jf];have key:=anf T F (λi=>(es[i]?.map (·.1)).getD 0) (10*turns t.mask) n hnN (by have:=F.lt;exact c_ C_ this);generalize hpr:t.probe _ (tupleKeyHash knd k) (P t.mask (tupleKeyHash knd k) n)=pr;have hpr:t.probe (λi=>(es[i]?.map (·.1)).getD 0) (tupleKeyHash knd k) (P t.mask (tupleKeyHash knd k) n)=pr:=hpr;have atI:∀(i j:Nat),t.place[i]?=some j->∃x,xs[i]?=some x/\es[i]?=some (ent knd x):=λi j e=>by
   have li:i<es.size:=by rw[<- T.siz];exact(jd.mp e).1
   have lx:i<xs.length:=by have:=m6 List.length he;simp at this;exact b_ li (f_ this)
   refine⟨xs[i],by simp[lx],?_⟩;rw[agh he];simp[lx]
  rcases key with⟨e,hno⟩|⟨m,i,h1,h2,h3,h4,h5,e⟩
  . have e:pr=_:=hpr.symm.trans e
    subst e;dsimp only;refine aj (hout λx hxm hxk=>?_);obtain⟨i,hi⟩:=uq.mp hxm;have hei:es[i]?=some (ent knd x):=by rw[agh he,hi];rfl
    obtain⟨m,lm,hp⟩:=T.ahead F hei (by unfold ent;rw[hxk])
    by_cases hmn:m<n
    . exact a4t m hmn i x hp hi hxk
    . refine hno m (s_ hmn) lm i hp ?_
      rw[hei];show tupleKeyHash knd x.1=_;rw[hxk]
  . have e:pr=_:=hpr.symm.trans e
    subst e;dsimp only;obtain⟨x,hxi,hei⟩:=atI i _ h3;have hkx:=hx x (az hxi);have seen:∀{R:Bool->Shared->Prop},R false s->wpAny (model prog w) A (searchCouldBeSeen (.ref p) ((es.filter (·.1==tupleKeyHash knd k)).toList.map (·.2))) R E s:=λhR=>ank hk (λv hv=>by
     obtain⟨y,hy,rfl⟩:=bu.mp hv;have hy':y∈es.toList:=by simp at hy;simpa using hy.1
     rw[he] at hy';obtain⟨z,hz,rfl⟩:=bu.mp hy';exact⟨z.1,z.2,rfl,hx z hz⟩) hR
    rcases Bool.eq_false_or_eq_true t.led with a4u|a4u
    all_goals
     simp only[a4u,nq,yd,cg,jf,jq]
     first
     |(rw[hei];show wpAny _ _ (holding [.ref x.2] (eqBool (.ref x.2) (.ref p)) >>= _) _ _ _)
     |(refine aa (seen ?_);simp only[cg,jf];rw[hei];show wpAny _ _ (holding [.ref x.2] (eqBool (.ref x.2) (.ref p)) >>= _) _ _ _)
     refine aa (gm (wpAny_eqBool_tuple hu hkx hk ?_));refine aa (ji ho hd T.fits ?_);dsimp only;have hsm:t.sameMemory t.moves t.mask=some true:=by unfold sameMemory;simp
     rw[hsm];dsimp only;rw[cu rfl,(Vl T.srt).mpr h3];dsimp only;rw[hei]
     by_cases hxk:x.1=k
     . have hd1:decide (x.1=k)=true:=by simp[hxk]
       rw[hd1];have hq:=hin i x hxi hxk;cases adding
       . simp only[Ek,cg,jf]
         refine aa (wpAny_isSame_ref_self ?_);refine aa (aj ?_);simpa using aj hq
       . simp only[Ii,jq]
         exact aj hq
     . have hd1:decide (x.1=k)=false:=by simp[hxk]
       rw[hd1];simp only[Hf,cg,jf];refine aa (wpAny_isSame_ref_self ?_);refine aa (aj ?_);simp only[jq];refine ih (m+1) _ h2 (by lia) rfl λm' hm' i' x' hp' asr=>?_
       by_cases hc:m'<n
       . exact a4t m' hc i' x' hp' asr
       . by_cases hm:m'=m
         . subst hm
           have ei:i'=i:=by rw[<- below_at T.srt hp',<- below_at T.srt h3]
           subst ei;rw[hxi] at asr;cases asr;exact hxk
         . intro a91
           have a92:es[i']?=some (ent knd x'):=by rw[agh he,asr];rfl
           refine h5 m' (s_ hc) (by lia) i' hp' ?_;rw[a92];show tupleKeyHash knd x'.1=_;rw[a91]
end
section
variable{prog:Program}{w:World}{K:Type}[DecidableEq K]{knd:KeyKind prog w K}{pk:List K×Addr->Prop}{A:Around}{E:Value->Shared->Prop}{s:Shared}
abbrev bt(w:World):Bool:=w.params.followText "set-order"
theorem W9(h:Q (bt w) s):wpAny (model prog w) A setsByText Q E s:=by unfold setsByText;exact aa (yt (aj h))
def Vn(knd:KeyKind prog w K)(pk:List K×Addr->Prop):Prop:=∀x,pk x->∀k∈x.1,∀v n,knd.is k v=true->hashByValue n v=pure true
theorem Wg:∀{ks:List K}{vs:List Value},ItemsAre knd ks vs->(∀k∈ks,∀v n,knd.is k v=true->hashByValue n v=pure true)->∀v∈vs,∀n,hashByValue n v=pure true
 |_,_,.nil,_,v,h=>by simp at h
 |_,_,.cons h t,hp,v,hv=>by
  rcases bw.mp hv with rfl|hv
  . exact λn=>hp _ cj _ n h
  . exact Wg t (λk hk=>hp k (bh _ hk)) v hv
theorem agi(hpk:Vn knd pk)(hk:IsTupleKey knd s.heap ks a)(hp:pk (ks,a))(h:Q true s):wpAny (model prog w) A (hashByValue 8 (.ref a)) Q E s:=by
 have hT:=hk.typeIs;obtain⟨o,items,n,ho,_,hd,hi⟩:=hk;unfold hashByValue;refine aa (v9 hT F.slot_tuple_hash.lookup ?_);dsimp only;refine aa (lz ho hd ?_);refine aa ?_;show wpAny _ _ (forIn items _ _) _ _ s;rw[<- Ea];refine p8 _ (λrest r s'=>r.1=none/\s'=s/\∀v∈rest,∀n,hashByValue n v=pure true) _ ?_ ?_ _ _ ⟨rfl,rfl,Wg hi (hpk _ hp)⟩
 . rintro v rest r s' ⟨hr,rfl,hall⟩
   rw[hall v cj];refine aa (aj ?_);simp only[nq,cg,jf];exact aj ⟨rfl,rfl,λu hu'=>hall u (bh _ hu')⟩
 . rintro⟨r1,r2⟩ s' ⟨hr,rfl,_⟩
   simp only at hr;subst hr;exact aj h
structure Vo(knd:KeyKind prog w K)(pk:List K×Addr->Prop)(h:Heap)(a:Addr)(xs:List (List K×Addr))(o:Obj)(es:Array (Int×Value))(ep:Nat)(t:SetTable):Prop where
 get:h.get? a=some o
 exa:o.ExactSet
 dat:o.data=.set es ep t
 tab:TOk t es
 ent:es.toList=xs.map (ent knd)
 keys:∀x∈xs,IsTupleKey knd h x.1 x.2/\pk x
 nod:(xs.map (·.1)).Nodup
 led:t.led=!bt w
 pla:t.plain=true
def Gp(knd:KeyKind prog w K)(pk:List K×Addr->Prop)(h:Heap)(a:Addr)(S:List K->Prop)(n:Nat):Prop:=∃xs o es ep t,Vo knd pk h a xs o es ep t/\(∀k,S k↔k∈xs.map (·.1))/\xs.length=n/\t.place.size*5<t.mask*3
theorem Vo.size(X:Vo knd pk h a xs o es ep t):es.size=xs.length:=by have:=m6 List.length X.ent;simpa using this
theorem anl(p:Addr)(es:Array (Int×Value)):byScan (.ref p) es=false:=by unfold byScan;simp[Value.scannable]
theorem anm(h:Msk m):10*turns m<100000:=by rcases h with rfl|rfl|rfl|rfl|rfl<;>decide
theorem X7(hu:A.units<cLine)(hk:IsTupleKey knd s.heap k p)(X:Vo knd pk s.heap a xs o es ep t)(F:Fst t (tupleKeyHash knd k) N)(hin:∀(i:Nat) x,xs[i]?=some x->x.1=k->Q (.there (if adding then none else some i)) s)(hout:(∀x∈xs,x.1≠k)->Q (.free (P t.mask (tupleKeyHash knd k) N).j false) s) :
 wpAny (model prog w) A (setSearch a (.ref p) (tupleKeyHash knd k) adding) Q E s:=by
 unfold setSearch;exact aj2 hu hk X.get X.dat X.tab X.ent (λx hx=>(X.keys x hx).1) X.nod F hin hout 100000 0 none (jr _) (by have:=F.lt;have:=anm X.tab.msk;lia) (ad8 _ _) (λm l=>by lia)
theorem asu(hu:A.units<cLine)(hk:IsTupleKey knd s.heap k p)(hS:Gp knd pk s.heap a S n)(h:∀r:Option Nat,(r.isSome=true↔S k)->Q r s):wpAny (model prog w) A (setFind a (.ref p) (tupleKeyHash knd k)) Q E s:=by
 obtain⟨xs,o,es,ep,t,X,hm,_,_⟩:=hS;obtain⟨N,F⟩:=X.tab.fst (tupleKeyHash knd k);unfold setFind setFindIn;refine aa (ji X.get X.dat X.tab.fits ?_);dsimp only;rw[anl];simp only[cg,jf];refine aa (X7 hu hk X F (λi x hi hx=>?_) (λhno=>?_))
 . simp only[cg,jf]
   exact aj (h _ (by simp;exact(hm k).mpr (bu.mpr ⟨x,az hi,hx⟩)))
 . dsimp only
   refine aj (h _ ?_);simp only[Option.isSome_none,cg,false_iff];intro hs;obtain⟨x,hx,e⟩:=bu.mp ((hm k).mp hs);exact hno x hx e
end
theorem Hn{α β:Type}{f:α->β}:∀{l l':List β},l.Perm l'->∀{xs:List α},l'=xs.map f->∃xs':List α,l=xs'.map f/\xs'.Perm xs:=by
 intro l l' p
 induction p with
 |nil=>intro xs e;cases xs with
  |nil=>exact⟨[],rfl,.nil⟩|cons _ _=>cases e
 |cons a p ih =>
  intro xs e;cases xs with
  |nil=>cases e
  |cons x xs =>
   simp only[gq,List.cons.injEq] at e;obtain⟨xs',e1,p1⟩:=ih e.2;exact⟨x::xs',by simp[e1,e.1],p1.cons x⟩
 |swap a b l =>
  intro xs e
  match xs,e with
  |x::y::xs,e =>
   simp only[gq,List.cons.injEq] at e;obtain⟨rfl,rfl,rfl⟩:=e;exact⟨y::x::xs,rfl,.swap x y xs⟩
 |trans p q ih1 ih2 =>
  intro xs e;obtain⟨ys,e1,p1⟩:=ih2 e;obtain⟨zs,e2,p2⟩:=ih1 e1;exact⟨zs,e2,p2.trans p1⟩
section
variable{prog:Program}{w:World}{K:Type}[DecidableEq K]{knd:KeyKind prog w K}{pk:List K×Addr->Prop}{A:Around}{E:Value->Shared->Prop}{s:Shared}
theorem ano(x:IsTupleKey knd h ks p)(ho:h.get? a=some o)(hd:o.data=.set es ep t)(hs:Heap.SameBut a h h'):IsTupleKey knd h' ks p:=by
 obtain⟨o',items,n,ho',hc,hd',hi⟩:=x;have hne:p≠a:=by rintro rfl;obtain rfl:o'=o:=ie (ho'.symm.trans ho);rw[hd] at hd';exact nomatch hd'
 exact⟨o',items,n,(hs.2 p hne).trans ho',hc,hd',hi⟩
theorem newX(X:Vo knd pk h a xs o es ep t)(T':TOk t' es')(he:es'.toList=xs'.map (ent knd))(hk:∀x∈xs',IsTupleKey knd h x.1 x.2/\pk x)(hn:(xs'.map (·.1)).Nodup)(hl:t'.led=!bt w)(hp:t'.plain=true) :
 Vo knd pk (h.update a (Obj.putSet es' t')) a xs' { o with data:=.set es' (ep+1) t' } es' (ep+1) t':=by
 have hg:(h.update a (Obj.putSet es' t')).get? a=some { o with data:=.set es' (ep+1) t' }:=by have:=mj (Obj.putSet es' t') X.get (by rw[putSet_of es' t' X.dat];rfl);rw[putSet_of es' t' X.dat] at this;exact this
 exact⟨hg,X.exa,rfl,T',he,λx hx=>⟨ano (hk x hx).1 X.get X.dat (j7 h a _),(hk x hx).2⟩,hn,hl,hp⟩
theorem My(h:n<=128):n<=sizeLine:=by rw[mz];exact a_ h (by decide)
theorem aea(X:Vo knd pk s.heap a xs o es ep t)(hm:Msk (sizeAbove wanted-1))(hz:es.size<=sizeAbove wanted-1)(hb:sizeAbove wanted<=128)(h:∀h' xs' o' es' ep' t',Heap.SameBut a s.heap h'->Vo knd pk h' a xs' o' es' ep' t'->xs'.Perm xs->t'.mask=sizeAbove wanted-1->t'.place.size=es.size->Q () { s with heap:=h' }) :
 wpAny (model prog w) A (setRelay a wanted) Q E s:=by
 obtain⟨t',order,e,e1,T',p,sz,hl,hp,_⟩:=ahy hm t.finger (t.movedTo (sizeAbove wanted-1)) t.led t.plain es hz;unfold setRelay;refine aa (ji X.get X.dat X.tab.fits ?_);dsimp only;rw[bz (by have:=My hb;exact j_ this)];have er:t.relaid (es.map (·.1)) wanted=some (t',order):=e;rw[er];refine aa ?_;have hif:wpAny (model prog w) A (if((order.filterMap (es[·]?)).size != es.size)=true then(do unsupported "internal:set-table-lost-an-element";pure (order.filterMap (es[·]?),t')) else pure (order.filterMap (es[·]?),t'))
  (λr s'=>wpAny (model prog w) A (storeSet a r.1 r.2) Q E s') E s:=by
  rw[bz (by simp[sz])];refine aj ?_;obtain⟨xs',ex,px⟩:=Hn p X.ent;have hX:=newX X T' ex (λx hx=>X.keys x (px.mem_iff.mp hx)) ((px.map _).nodup_iff.mpr X.nod) (hl.trans X.led) (hp.trans X.pla);refine yl X.get X.dat (h _ _ _ _ _ _ (j7 s.heap a _) hX px e1 (by rw[T'.siz,sz])) (My (by rw[sz];exact a_ hz (a_ C_ hb)))
 exact hif
theorem abt(hpk:Vn knd pk)(hu:A.units<cLine)(hk:IsTupleKey knd s.heap k p)(hp:pk (k,p))(hS:Gp knd pk s.heap a S n)(hn:n+1<32)(h:∀h' n' b,Heap.SameBut a s.heap h'->Gp knd pk h' a (λk'=>S k'\/k'=k) n'->n'<=n+1->Q b { s with heap:=h' }) :
 wpAny (model prog w) A (setAddHashed a (.ref p) (tupleKeyHash knd k)) Q E s:=by
 obtain⟨xs,o,es,ep,t,X,hm,hl,nf⟩:=hS;obtain⟨N,F⟩:=X.tab.fst (tupleKeyHash knd k);have hsz:=X.size;unfold setAddHashed setAddHashedIn;refine gm (aa (ji X.get X.dat X.tab.fits ?_));dsimp only;rw[anl];simp only[cg,jf];refine aa (X7 hu hk X F (λi x hi hx=>?_) (λhno=>?_))
 . dsimp only
   refine aj ?_;have hSk:S k:=(hm k).mpr (bu.mpr ⟨x,az hi,hx⟩);have:=h s.heap n false (Ay a s.heap) ⟨xs,o,es,ep,t,X,λk'=>by
    rw[<- hm k'];exact⟨λh=>h.elim id (λe=>e▸hSk),.inl⟩,hl,nf⟩ x_
   exact this
 . dsimp only
   refine aa (ji X.get X.dat X.tab.fits ?_);dsimp only;have room:t.place.size+1<=t.mask:=by have:=X.tab.msk;rcases this with e|e|e|e|e<;>lia
   have T':=X.tab.put (x:=.ref p) F room;have hpl:(t.put (P t.mask (tupleKeyHash knd k) N).j).1.plain=true:=X.pla;rw[hpl];simp only[jq];refine aa (agi hpk hk hp ?_);simp only[jq];obtain⟨xs',ex,px⟩:=Hn (f:=ent knd) (insertAt_perm es (t.put (P t.mask (tupleKeyHash knd k) N).j).2 (tupleKeyHash knd k,.ref p)) (xs:=xs++[(k,p)]) (by rw[Es,X.ent,ud];rfl);have pm:=px.map (·.1);have hnd:(xs'.map (·.1)).Nodup:=pm.nodup_iff.mpr (by
    rw[ud,zm];refine⟨X.nod,by simp,λa ha b hb=>?_⟩;simp at hb;subst hb;rintro rfl;obtain⟨x,hx,e⟩:=bu.mp ha;exact hno x hx e)
   have hkeys:∀x∈xs',IsTupleKey knd s.heap x.1 x.2/\pk x:=λx hx=>by
    rcases dw.mp (px.mem_iff.mp hx) with hx|hx
    . exact X.keys x hx
    . simp at hx;subst hx;exact⟨hk,hp⟩
   have hX:=newX X T' ex hkeys hnd X.led X.pla;have hmem:∀k',(S k'\/k'=k)↔k'∈xs'.map (·.1):=λk'=>by rw[pm.mem_iff,ud,dw,hm k'];simp
   have hlen:xs'.length=n+1:=by rw[px.length_eq];simp[hl]
   have hes:(insertAt es (t.put (P t.mask (tupleKeyHash knd k) N).j).2 (tupleKeyHash knd k,.ref p)).size=es.size+1:=Qk _ _ _;refine aa (yl X.get X.dat ?_ (My (by rw[hes];exact e_ (c_ (v_ (f_ hsz)) (c_ (v_ (f_ hl)) (b_ hn (by decide)))))));have anp:(t.put (P t.mask (tupleKeyHash knd k) N).j).1.place.size=es.size+1:=by rw[T'.siz,hes]
   by_cases htf:(t.put (P t.mask (tupleKeyHash knd k) N).j).1.tooFull=true
   . rw[htf]
     simp only[yd,Ii,jq];obtain⟨g1,g2,g3,g4,g5⟩:=aaj (es.size+1) (c_ (v_ (f_ hsz)) (c_ (v_ (f_ hl)) hn));refine aa (aea hX g1 (by rw[hes];exact g2) g5 λh' xs2 o2 es2 ep2 t2 sb X2 p2 em ps=>?_);refine aj (h h' (n+1) true ((j7 s.heap a _).trans sb) ⟨xs2,o2,es2,ep2,t2,X2,λk'=>?_,by rw[p2.length_eq,hlen],?_⟩ (bc _))
     . exact(hmem k').trans (p2.map (·.1)).mem_iff.symm
     . rw[ps,em,hes];exact t_ g4
   . rw[Bool.not_eq_true] at htf
     rw[htf];simp only[Hf,cg,jf];refine aj (h _ (n+1) true (j7 s.heap a _) ⟨xs',_,_,_,_,hX,hmem,hlen,?_⟩ (bc _));unfold tooFull at htf;have hf:(t.put (P t.mask (tupleKeyHash knd k) N).j).1.fill=es.size+1:=by unfold fill;rw[anp,T'.dum];rfl
     rw[hf] at htf;rw[anp];simp at htf;exact htf
end
open PySem
theorem upto{f:Nat->β->Sem (ForInStep β)}(J:Nat->β->Shared->Prop){Q:β->Shared->Prop}(turn:∀i b z,i<n->J i b z->wpAny M A (f i b) (λr z'=>match r with|.yield b'=>J (i+1) b' z'|.done b'=>Q b' z') E z)(fin:∀b z,J n b z->Q b z){b:β}(start:J 0 b s) :
 wpAny M A (forIn [:n] b f) Q E s:=by
 have go:∀(k i:Nat)(b:β)(z:Shared),n=i+k->J i b z->wpAny M A (forIn (List.range' i k) b f) Q E z:=by
  intro k
  induction k with
  |zero=>intro i b z e hj;subst e;exact aj (fin b z hj)
  |succ k ih =>
   intro i b z e hj;show wpAny M A (forIn (i::List.range' (i+1) k) b f) Q E z;rw[Dg];refine aa (jt (turn i b z (by lia) hj) (λr z' hr=>?_) λ_ _ x=>x)
   match r,hr with
   |.done b',hr=>exact aj hr|.yield b',hr=>exact ih (i+1) b' z' (by lia) hr
 have e:(forIn [:n] b f:Sem β)=forIn (List.range' 0 n) b f:=by rw[uo];simp[Std.Legacy.Range.size]
 rw[e];exact go n 0 b s (by lia) start
theorem sub_dict_set:isSubtype (.type "dict") (.type "set")=pure false:=by rw[xg];kernel_rfl
theorem sub_dict_frozenset:isSubtype (.type "dict") (.type "frozenset")=pure false:=by rw[xg];kernel_rfl
section
variable{prog:Program}{w:World}{K:Type}[DecidableEq K]{knd:KeyKind prog w K}{pk:List K×Addr->Prop}{A:Around}{E:Value->Shared->Prop}{s:Shared}
theorem Ig(hT:s.TypeIs v T)(h1:isSubtype (.type T) (.type "set")=pure false)(h2:isSubtype (.type T) (.type "frozenset")=pure false)(h:Q false s) :
 wpAny (model prog w) A (Builtin.Frozenset.isAnySet v) Q E s:=by
 unfold Builtin.Frozenset.isAnySet;refine aa (km hT h1 ?_);exact km hT h2 h
theorem a94(hT:s.TypeIs v "set")(h:Q true s):wpAny (model prog w) A (Builtin.Frozenset.isAnySet v) Q E s:=by unfold Builtin.Frozenset.isAnySet;refine aa (km hT sub_set_self ?_);exact aj h
def Aj(w:World):Obj:={ cls:=.type "set",dict:=none,data:=.set #[] 0 (.fresh 0 0 (!bt w)) }
theorem asv(hg:h.get? a=some (Aj w)):Gp knd pk h a (λ_=>False) 0 :=
 ⟨[],Aj w,#[],0,_,⟨hg,⟨rfl,rfl,rfl⟩,rfl,⟨.inl rfl,rfl,rfl,λi j a b e=>by simp[SetTable.fresh] at e,λi j e=>by simp[SetTable.fresh] at e,by simp[SetTable.fresh],λi j e a=>by simp[SetTable.fresh] at a⟩,
  rfl,λx hx=>by simp at hx,Bt,rfl,rfl⟩,λk=>by simp,rfl,by simp[SetTable.fresh]⟩
set_option tactic.hygienic true in
theorem asw(hS:Gp knd pk s.heap a S n)(hl:n+m<64)(h:∀h',Heap.SameBut a s.heap h'->Gp knd pk h' a S n->Q () { s with heap:=h' }):wpAny (model prog w) A (setRoomFor a m) Q E s:=by
 obtain⟨xs,o,es,ep,t,X,hm,hn,nf⟩:=hS;have hsz:=X.size;unfold setRoomFor;refine aa (ji X.get X.dat X.tab.fits ?_);dsimp only;unfold roomFor;have hps:=X.tab.siz;split
 . rename_i wanted e
   split at e
   . cases e
     obtain⟨g1,g2,g3,g4⟩:=anj (t.place.size+m) (c_ (v_ (f_ hps)) (c_ (v_ (f_ hsz)) (c_ (v_ (f_ hn)) hl)));refine aea X g1 (by lia) g4 λh' xs2 o2 es2 ep2 t2 sb X2 p2 em ps=>h h' sb ⟨xs2,o2,es2,ep2,t2,X2,λk'=>?_,by rw[p2.length_eq,hn],?_⟩
     . exact(hm k').trans (p2.map (·.1)).mem_iff.symm
     . rw[ps,em];lia
   . cases e
 . exact aj (h s.heap (Ay _ _) ⟨xs,o,es,ep,t,X,hm,hn,nf⟩)
theorem Gp.get(hS:Gp knd pk h a S n):∃o es ep t,h.get? a=some o/\o.ExactSet/\o.data=.set es ep t/\t.fits es.size=true :=
 let ⟨_,o,es,ep,t,X,_⟩:=hS;⟨o,es,ep,t,X.get,X.exa,X.dat,X.tab.fits⟩
theorem Gp.typeIs(hS:Gp knd pk s.heap a S n):s.TypeIs (.ref a) "set" :=
 let ⟨o,_,_,_,ho,hc,_⟩:=hS.get;⟨o,ho,hc.1⟩
theorem Gp.congr(hS:Gp knd pk h a S n)(e:∀k,S k↔S' k):Gp knd pk h a S' n :=
 let ⟨xs,o,es,ep,t,X,hm,r⟩:=hS;⟨xs,o,es,ep,t,X,λk=>(e k).symm.trans (hm k),r⟩
theorem anq(hpk:Vn knd pk){id:String}(hu:A.units<cLine)(hS:Gp knd pk s.heap a S n)(hd:s.heap.DictOfH (tupleKind knd) d xs)(hds:(d==sysModules)=false)(hpx:∀x∈xs,pk (x.1,x.2.1))(hl:n+xs.length<31)(h:∀h' n',Heap.SameBut a s.heap h'->Gp knd pk h' a (λk=>S k\/k∈xs.map (·.1)) n'->Q () { s with heap:=h' }) :
 wpAny (model prog w) A (Builtin.Frozenset.updateFrom id a (.ref d)) Q E s:=by
 have hT:=hd.typeIs;obtain⟨od,esd,epd,hod,hcd,hdd,hed,hxd,hnd⟩:=hd;obtain⟨o0,es0,ep0,t0,hg0,hc0,hd0,hf0⟩:=hS.get;have hne:d≠a:=by rintro rfl;rw[hod] at hg0;cases hg0;rw[hdd] at hd0;cases hd0
 have hlen:esd.size=xs.length:=zf hed;unfold Builtin.Frozenset.updateFrom;refine aa (Ig hT sub_dict_set sub_dict_frozenset ?_);simp only[cg,jf];refine aa (o7 hT ?_);rw[cu (by decide)];refine aa (ur ?_);refine aa (m:=Builtin.Frozenset.addrOf (.ref d)) (aj ?_);rw[bz (by rw[hds];decide)];refine aa (v8 hod hdd ?_);refine aa (jo hod hdd ?_);refine aa (asw hS (by lia) λh1 sb1 hS1=>?_);have a95:h1.get? d=some od:=(sb1.2 d hne).trans hod;refine aa (jo a95 hdd ?_);refine aa ?_;refine upto (λi _ z=>∃h' n',z={ s with heap:=h' }/\Gp knd pk h' a (λk=>S k\/k∈(xs.take i).map (·.1)) n'/\n'<=n+i/\Heap.SameBut a s.heap h') (λi _ z lt inv=>?_) (λ_ z inv=>?_) ⟨h1,n,rfl,hS1.congr (λk=>by simp),x_,sb1⟩
 . obtain⟨h',n',rfl,hS',hn',sb'⟩:=inv
   have hod':h'.get? d=some od:=(sb'.2 d hne).trans hod;refine aa (jo hod' hdd ?_);have lx:i<xs.length:=b_ lt (f_ hlen)
   have he:esd[i]?=some (entryOfKey (tupleKind knd) xs[i]):=by rw[entry_at hed];simp[lx]
   rw[he];have hkk:IsTupleKey knd h' xs[i].1 xs[i].2.1:=ano (hxd _ (q9 lx)) hg0 hd0 sb';show wpAny _ _ (holding [.ref xs[i].2.1] (setAddHashed a (.ref xs[i].2.1) (tupleKeyHash knd xs[i].1)) >>= _) _ _ _;refine aa (gm (abt (s:={ s with heap:=h' }) hpk hu hkk (hpx _ (q9 lx)) hS' (by lia) λh'' n'' b a4x hS'' hn''=>?_));refine aa (v8 ((a4x.2 d hne).trans hod') hdd ?_);rw[u9];refine aj ⟨h'',n'',rfl,hS''.congr (λk=>?_),by lia,sb'.trans a4x⟩;rw[Ew,ud,dw,show xs[i]?=some xs[i] by simp[lx]];simp[or_assoc]
 . obtain⟨h',n',rfl,hS',hn',sb'⟩:=inv
   refine aj (h h' n' sb' (hS'.congr λk=>?_));rw[vz (g_ hlen)]
end
section
variable{prog:Program}{w:World}{K:Type}[DecidableEq K]{knd:KeyKind prog w K}{pk:List K×Addr->Prop}{A:Around}{E:Value->Shared->Prop}{s:Shared}
theorem asx(post:R (.ref s.heap.objs.size) { s with heap:=s.heap.push (Aj w) }) :
 codeAny (model prog w) A (.call (.builtin "set.__new__") ⟨[.type "set",v],[]⟩) (wants R E) s:=by
 refine codeAny_call_builtin F.plain_set_new F.entry_set_new (Bx (F.newCall_set_1 v) ?_);have sub:=sub_set_self;unfold Builtin.«set.__new__» Builtin.Frozenset.newClass
 wp_walk
 exact yt (aj (aa (wpAny_alloc (aj (aj post)))))
set_option maxHeartbeats 3200000 in
theorem Ql{R:Shared->Prop}(hup:wpAny (model prog w) A.in1.in1 (Builtin.Frozenset.updateFrom "set.__init__" s.heap.objs.size x) (λ_ s'=>R s') E { s with heap:=s.heap.push (Aj w) })(h:∀s',R s'->Q (.ref s.heap.objs.size) s') :
 wpAny (model prog w) A (call (.type "set") [x]) Q E s:=by
 obtain⟨c,tl,hmro⟩:=qy.mro;have hmade:=qy.made;have hsub:=qy.sub;refine wpAny_call (codeAny_of_tree ?_);show wpAny _ _ (callAny (.type "set") _) _ _ _;refine aj ⟨Code.quiet_builtin _ (by decide+kernel),lq F.entry_type_call ?_⟩;rw[Around.under_plain (weight_type_call_type "set" [x] []) rfl];have h1:=qy.notType;have h2:=qy.canCreate;have hct:=F.typeCall_set_1 x
 repeat (any_goals (first|assumption|wp_step))
 refine uv (asx (v:=x) (E:=E) (R:=λobj s₁=>obj=.ref s.heap.objs.size/\s₁={ s with heap:=s.heap.push (Aj w) }) ⟨rfl,rfl⟩) λr s₁ hr=>?_
 cases r with
 |error e=>exact hr
 |ok fl =>
  cases fl with
  |ret obj =>
   obtain⟨rfl,rfl⟩:=hr;have hS:(s.heap.push (Aj w)).get? s.heap.objs.size=some (Aj w):=bf _ rfl;have hT:Shared.TypeIs { s with heap:=s.heap.push (Aj w) } (.ref s.heap.objs.size) "set" := ⟨_,hS,rfl⟩;have hli:=qy.init.lookup;have hbi:=qy.init.bind (.ref s.heap.objs.size)
   repeat (any_goals (first|assumption|wp_step))
   refine uv (codeAny_call_builtin (R:=wants (λr s₂=>r=.none/\R s₂) E) qy.init.plain F.entry_set_init (check_set_init_1 hT ?_)) λr₂ s₂ hr₂=>?_
   . unfold Builtin.«set.__init__» noKeywords
     generalize hUF:Builtin.Frozenset.updateFrom=UF at hup ⊢;unfold Aj at hS hT hup ⊢
     wp_walk
     exact jt hup (λ_ s' hr=>aj ⟨rfl,hr⟩) (λe s' he=>he)
   . cases r₂ with
     |error e=>exact hr₂
     |ok fl₂ =>
      cases fl₂ with
      |ret r =>
       obtain⟨rfl,hq⟩:=hr₂
       repeat (any_goals (first|assumption|wp_step))
       exact h _ hq
      |_=>exact hr₂.elim
  |_=>exact hr.elim
end
open PyProof.Rows (F.entry_set_update_loop F.plain_set_update_loop)
section
variable{prog:Program}{w:World}{K:Type}[DecidableEq K]{knd:KeyKind prog w K}{pk:List K×Addr->Prop}{A:Around}{E:Value->Shared->Prop}{s:Shared}
theorem Vp{wr:List Addr}(hk:IsTupleKey knd h ks p)(hp:p∉wr)(hm:∀b o,b∉wr->h.get? b=some o->h'.get? b=some o):IsTupleKey knd h' ks p :=
 let ⟨o,items,n,ho,r⟩:=hk;⟨o,items,n,hm p o hp ho,r⟩
theorem Gp.moved{wr:List Addr}(hS:Gp knd pk h a S n)(ha:a∉wr)(hw:∀(b:Addr) (ks:List K),b∈wr->¬IsTupleKey knd h ks b)(hm:∀b o,b∉wr->h.get? b=some o->h'.get? b=some o):Gp knd pk h' a S n :=
 let ⟨xs,o,es,ep,t,X,r⟩:=hS
 ⟨xs,o,es,ep,t,⟨hm a o ha X.get,X.exa,X.dat,X.tab,X.ent,λx hx=>⟨Vp (X.keys x hx).1 (λhc=>hw _ _ hc (X.keys x hx).1) hm,(X.keys x hx).2⟩,X.nod,X.led,X.pla⟩,r⟩
theorem asy(hpk:Vn knd pk){I:Addr}{P:Nat->Value->Prop}(hu:A.in1.units<cLine)(W:WalksS prog w A.in1 I fp wr G n P St)(a:Addr)(haf:a∉fp)(ks:List (List K×Addr))(hkl:ks.length=n)(hval:∀i v x,P i v->ks[i]?=some x->v=.ref x.2)(hpx:∀x∈ks,pk x)(hb:n<31)(hkw:∀x∈ks,x.2∉wr)(hnk:∀i (s:Shared),St i s->∀(b:Addr) (ks:List K),b∈wr->¬IsTupleKey knd s.heap ks b) :
 ∀(k i n':Nat)(s:Shared),n-i=k->i<=n->St i s->(∀x∈ks,IsTupleKey knd s.heap x.1 x.2) ->
  Gp knd pk s.heap a (λk'=>k'∈(ks.take i).map (·.1)) n'->n'<=i ->
  (∀s' n'',Moved (a::wr) G s s'->Gp knd pk s'.heap a (λk'=>k'∈ks.map (·.1)) n''->R (.ok (.ret .none)) s') ->
  codeAny (model prog w) A (.builtin "set.update.loop" ⟨[.ref a,.ref I],[]⟩) R s:=by
 have haw:a∉wr:=λh=>haf (W.sub _ h)
 have hsub:∀b∈wr,b∈a::wr:=λb hb=>bh _ hb
 intro k
 induction k with
 |zero =>
  intro i n' s hk hi hst hkeys hS hn' hR;have hin:i=n:=by lia
  subst hin;refine lq p7 ?_;rw[jx j9 _];show wpAny _ A.in1 (pyNext (.ref I) >>= _) _ _ s;refine aa (W.done s _ _ hst λs' hm=>?_);show wpAny _ A.in1 (ret Value.none) _ _ s';refine aj (hR s' n' (hm.mono hsub) ((hS.moved haw (hnk _ s hst) hm.heap).congr λk=>?_));rw[vz (f_ hkl)]
 |succ k ih =>
  intro i n' s hk hi hst hkeys hS hn' hR;have hlt:i<n:=by lia
  refine lq p7 ?_;rw[jx j9 _];show wpAny _ A.in1 (pyNext (.ref I) >>= _) _ _ s;refine aa (W.item i s _ _ hlt hst λv s' hP hst' hm=>?_);have lx:i<ks.length:=b_ hlt (g_ hkl)
  have hgx:ks[i]?=some ks[i]:=by simp[lx]
  obtain rfl:=hval i v _ hP hgx;have hxm:=q9 lx;have hS':=hS.moved haw (hnk _ s hst) hm.heap;have agj:∀x∈ks,IsTupleKey knd s'.heap x.1 x.2:=λx hx=>Vp (hkeys x hx) (hkw x hx) hm.heap
  show wpAny _ A.in1 (holding [Value.ref ks[i].2] (setAdd a (.ref ks[i].2)) >>= _) _ _ s';refine aa (gm ?_);unfold setAdd;refine gm ?_;refine aa (wpAny_pyHash_tuple hu (agj _ hxm) ?_);refine abt (s:={ s' with toks:=s'.toks+(ks[i].1.length+1) }) hpk hu (agj _ hxm) (hpx _ hxm) hS' (by lia) λh' n2 b hsb hS2 hn2=>?_
  obtain⟨oa,esa,epa,ta,hga,hca,hda,hfa⟩:=hS'.get;refine aj ⟨vm j9 _,ih (i+1) n2 _ (by lia) hlt (W.frame _ s' _ _ hst' (Ag _ _) λb hb o e=>?_) (λx hx=>ano (agj x hx) hga hda hsb) (hS2.congr λk=>?_) (a_ hn2 (v_ hn')) λs'' n3 hm'' hS''=>?_⟩
  . rw[hsb.2 b (λh:b=a=>haf (by rw[<- h];exact hb))];exact e
  . rw[Ew,ud,dw,hgx];simp
  . refine hR s'' n3 (Moved.trans W.gtrans ((hm.mono hsub).then_heap (Ag _ _) λb o hb e=>?_) hm'') hS''
    rw[hsb.2 b (λh:b=a=>hb (by rw[h];exact cj))];exact e
theorem anr(hpk:Vn knd pk){id:String}{ks:List (List K×Addr)}(hh:A.handled=none)(hu:A.in1.units+1<cLine)(hS:Gp knd pk s.heap a (λ_=>False) 0)(hl:s.heap.IsList l items)(hit:items.toList=ks.map λx=>.ref x.2)(hkeys:∀x∈ks,IsTupleKey knd s.heap x.1 x.2)(hpx:∀x∈ks,pk x)(hlen:ks.length<31)(h:∀h' tk n',(∀b o,b≠a->s.heap.get? b=some o->h'.get? b=some o)->Gp knd pk h' a (λk=>k∈ks.map (·.1)) n'->Q () { s with heap:=h',toks:=tk }) :
 wpAny (model prog w) A (Builtin.Frozenset.updateFrom id a (.ref l)) Q E s:=by
 have hT:s.TypeIs (.ref l) "list" := let ⟨o,ho,hc,_⟩:=hl;⟨o,ho,hc⟩;have hsz:items.size=ks.length:=by rw[<- qe,hit];simp
 obtain⟨oa,esa,epa,ta,hga,hca,hda,hfa⟩:=hS.get;unfold Builtin.Frozenset.updateFrom;refine aa (Ig hT F.sub_list_set F.sub_list_frozenset ?_);simp only[cg,jf];refine aa (o7 hT ?_);rw[bz (by decide)];refine aa (yj hl ?_);refine aa (zu ?_);have hlt:l<s.heap.objs.size:=let ⟨o,ho,_⟩:=hl;au ho
 have hat:a<s.heap.objs.size:=au hga
 have hla:l≠a:=by rintro rfl;obtain⟨o,ho,_,n,hd⟩:=hl;rw[ho] at hga;cases hga;rw[hd] at hda;cases hda
 have hneI:l≠s.heap.objs.size:=dj hlt;have haf:a∉[s.heap.objs.size,l]:=by simp only[bw,my,yp,Ko];exact⟨dj hat,λe=>hla e.symm⟩
 have keep:∀b o,s.heap.get? b=some o->(s.heap.push { cls:=.type "list_iterator",data:=.fields #[.ref l,.int 0 0] }).get? b=some o:=λb o e=>ao _ e
 refine asy hpk (by lia) ((Walks.list (by simp[hh]) _ l hneI items).toS) a haf ks hsz.symm (λi v x hv hx=>?_) hpx (c_ (f_ hsz) hlen) (λx hx hc=>?_) (λi s' st b kk hb hkb=>?_) items.size 0 0 _ rfl (jr _)
  ⟨⟨_,bf _ rfl,rfl,rfl⟩,hl.push _⟩ (λx hx=>Vp (wr:=[]) (hkeys x hx) (by simp) λb o _ e=>keep b o e) ?_ (bc _) ?_
 . have:items.toList[i]?=some v:=by simpa using hv
   rw[hit,jk,hx] at this;exact(ie this).symm
 . simp at hc
   obtain⟨o,_,_,ho,_⟩:=hkeys x hx;have:=au ho;rw[hc] at this;exact qd _ this
 . simp at hb
   subst hb;obtain⟨o,_,_,ho,hc,_⟩:=hkb;obtain⟨⟨o',ho',hc',_⟩,_⟩:=st;rw[ho] at ho';cases ho';rw[hc] at hc';exact absurd hc' (by decide)
 . refine(hS.moved (wr:=[]) (by simp) (by simp) λb o _ e=>keep b o e).congr λk=>by simp
 . intro s' n'' hm hS'
   obtain⟨h',g',d',tk',os'⟩:=s';have eg:g'=s.gens:=hm.gens;have ed:d'=s.drawn:=hm.drawn;have eo:os'=s.os:=hm.os;subst eg;subst ed;subst eo;show wpAny _ _ _ _ _ _;refine aj (h h' tk' n'' (λb o hb e=>?_) hS');refine hm.heap b o ?_ (keep b o e);simp only[bw,my,yp,Ko];exact⟨hb,dj (au e)⟩
end
theorem Kv{α:Type}:∀{l:List α}{i:Nat}(h:i<l.length),(l[i]::l.eraseIdx i).Perm l
 |x::l,0,_=>ye _
 |x::l,i+1,h=>by
  have ih:=Kv (l:=l) (i:=i) (by simpa using h);simp only[Fy,Et];exact(List.Perm.swap x _ _).trans (ih.cons x)
theorem ahz{α:Type}(nx:Nat->Nat):∀(fuel k:Nat)(left:List α)(out:Array α),left.length=fuel->(pickOrder.go nx fuel k left out).toList.Perm (out.toList++left)
 |0,k,left,out,h=>by
  have:left=[]:=rm.mp h;subst this;unfold pickOrder.go;simp
 |fuel+1,k,left,out,h=>by
  unfold pickOrder.go;have hq:nx k%left.length<left.length:=Jg _ (by lia)
  rw[cz hq];dsimp only;refine(ahz nx fuel (k+1) _ _ (by rw[List.length_eraseIdx];split<;>lia)).trans ?_;rw[Es,w6];refine Gr _ ?_;exact Kv hq
theorem aak(nx:Nat->Nat)(xs:Array α):(pickOrder nx xs).toList.Perm xs.toList:=by unfold pickOrder;simpa using ahz nx xs.size 0 xs.toList #[] (by simp)
theorem X8{α:Type}[DecidableEq α]:∀{l1 l2:List α},l1.Nodup->l1 ⊆ l2->l2.length<=l1.length->∀x∈l2,x∈l1
 |[],l2,_,_,h,x,hx=>by
  have:l2=[]:=rm.mp (by simpa using h);subst this;simp at hx
 |a::l1,l2,hn,hs,h,x,hx=>by
  by_cases e:x=a
  . subst e;exact cj
  . refine bh _ ?_
    have ha:a∈l2:=hs cj;have hn':=ue.mp hn;refine X8 (l2:=l2.erase a) hn'.2 (λy hy=>?_) ?_ x ((G9 e).mpr hx)
    . exact(G9 (λ(e:y=a)=>hn'.1 (by rw[<- e];exact hy))).mpr (hs (bh _ hy))
    . rw[List.length_erase_of_mem ha];simp at h;omega
theorem abu:entryFor table "set.__ne__" = some Builtin.«frozenset.__ne__» :=
 Cv (id' := "frozenset.__ne__") (by kernel_rfl) rfl (by decide+kernel) (by kernel_rfl)
theorem sub_set_frozenset:isSubtype (.type "set") (.type "frozenset")=pure false:=by rw[xg];kernel_rfl
section
variable{prog:Program}{w:World}{K:Type}[DecidableEq K]{knd:KeyKind prog w K}{pk:List K×Addr->Prop}{A:Around}{E:Value->Shared->Prop}{s:Shared}
set_option tactic.hygienic true in
theorem asz(X:Vo knd pk s.heap a xs o es ep t)(h:∀l,l.toList.Perm es.toList->Q l s):wpAny (model prog w) A (setWalk a) Q E s:=by
 unfold setWalk;refine aa (ji X.get X.dat X.tab.fits ?_);dsimp only;refine aa (W9 ?_);split
 . exact aa (yt (aj (h _ (aak _ _))))
 . rename_i hb
   have hb:bt w=false:=by simpa using hb
   split
   . rename_i hd
     have hd:(!t.plain&&decide (es.size > 1))=true:=hd;rw[X.pla] at hd;cases hd
   . refine aa ?_
     have:wpAny (model prog w) A (if(!t.led&&decide (es.size > 1))=true then unsupported "set:maker-not-led" else pure ()) (λ_ s'=>wpAny (model prog w) A (pure es) Q E s') E s:=by rw[X.led,hb];simp only[yd,nq,Ek,cg,jf];exact aj (aj (h es (ye _)))
     exact this
theorem aj4(hk:IsTupleKey knd s.heap ks a)(h:Q false s):wpAny (model prog w) A (Builtin.Frozenset.quietEq (.ref a)) Q E s:=by
 unfold Builtin.Frozenset.quietEq;refine aa (v9 hk.typeIs F.slot_tuple_eq.lookup ?_);refine aj ?_;have:(some (Value.builtin "tuple.__eq__")==some (Value.builtin "object.__eq__"))=false:=by decide
 rw[this];exact h
theorem abv(X:Vo knd pk h a xs o es ep t)(he:e∈es.toList):∃x∈xs,e=ent knd x:=by rw[X.ent] at he;obtain⟨x,hx,rfl⟩:=bu.mp he;exact⟨x,hx,rfl⟩
theorem aj5(X:Vo knd pk s.heap a xs o es ep t)(Y:Vo knd pk s.heap b ys o' es' ep' t')(h:∀l:List (Int×Value),l.Perm es.toList->Q l s):wpAny (model prog w) A (Builtin.Frozenset.walkUnseen a b) Q E s:=by
 unfold Builtin.Frozenset.walkUnseen;refine aa (j8 X.get X.dat X.tab.fits ?_);refine aa (j8 Y.get Y.dat Y.tab.fits ?_);refine aa ?_;refine p8 _ (λrest r s'=>r.1=none/\s'=s/\∀e∈rest,∃ks p,e.2=.ref p/\IsTupleKey knd s.heap ks p) _ ?_ ?_ _ _ ⟨rfl,rfl,λe he=>?_⟩
 . rintro e rest r s' ⟨hr,rfl,hall⟩
   obtain⟨ks,p,hep,hk⟩:=hall e cj;obtain⟨h0,x0⟩:=e;subst hep;dsimp only;refine aa (aj4 hk ?_);simp only[yd,jq];unfold Builtin.Frozenset.walk;refine aa (aa (asz X λl hl=>aj ?_));exact aj (aj (h _ hl))
 . rintro⟨r1,r2⟩ s' ⟨hr,rfl,_⟩
   simp only at hr;subst hr;exact aj (h _ (ye _))
 . rcases dw.mp he with he|he
   . obtain⟨x,hx,rfl⟩:=abv X he
     exact⟨x.1,x.2,rfl,(X.keys x hx).1⟩
   . obtain⟨x,hx,rfl⟩:=abv Y he
     exact⟨x.1,x.2,rfl,(Y.keys x hx).1⟩
theorem ay8{id:String}(hu:A.units<cLine)(hS:Gp knd pk s.heap a S n)(hT:Gp knd pk s.heap b T m)(h:∀c:Bool,(c=true↔n<=m/\∀k,S k->T k)->Q c s):wpAny (model prog w) A (Builtin.Frozenset.subsetOf id a b) Q E s:=by
 have hT':=hT;obtain⟨xs,o,es,ep,t,X,hm,hn,_⟩:=hS;obtain⟨ys,o',es',ep',t',Y,hm',hn',_⟩:=hT;have h1:=X.size;have h2:=Y.size;unfold Builtin.Frozenset.subsetOf Builtin.Frozenset.sizeOf;refine aa (aa (j8 X.get X.dat X.tab.fits (aj ?_)));refine aa (aa (j8 Y.get Y.dat Y.tab.fits (aj ?_)));split
 . exact aj (h false (by simp;lia))
 . refine aa (Az X.get X.dat X.tab.fits ?_)
   refine aa (aj5 X Y λl hl=>?_);refine aa ?_;refine p8 _ (λrest r s'=>r.1=none/\s'=s/\(∀e∈rest,∃x∈xs,e=ent knd x)/\∀x∈xs,ent knd x∈rest\/T x.1) _ ?_ ?_ _ _ ⟨rfl,rfl,λe he=>abv X (hl.mem_iff.mp he),λx hx=>.inl (hl.mem_iff.mpr (by rw[X.ent];exact bu.mpr ⟨x,hx,rfl⟩))⟩
   . rintro e rest r s' ⟨hr,rfl,hall,hdone⟩
     obtain⟨x,hx,rfl⟩:=hall e cj;show wpAny _ _ (holding [.ref x.2] (setFind b (.ref x.2) (tupleKeyHash knd x.1)) >>= _) _ _ _;refine aa (gm (asu hu (X.keys x hx).1 hT' λr hr=>?_));cases r with
     |none =>
      simp only[Option.isNone_none,jq];refine aj (aj (h false ?_));simp only[cg,false_iff,not_and,Classical.not_forall];intro _;refine⟨x.1,(hm x.1).mpr (bu.mpr ⟨x,hx,rfl⟩),λhc=>?_⟩;have:=hr.mpr hc;cases this
     |some i =>
      simp only[Option.isNone_some,cg,jf];unfold Builtin.Frozenset.unchanged;refine aa (aa (Az X.get X.dat X.tab.fits ?_));rw[bz (by simp)];refine aj (aj ⟨rfl,rfl,λe he=>hall e (bh _ he),λy hy=>?_⟩);rcases hdone y hy with hc|hc
      . rcases bw.mp hc with hc|hc
        . right
          have hTx:T x.1:=hr.mp rfl;have e2:y.2=x.2:=by have:=m6 Prod.snd hc;unfold ent at this;injection this
          have:y.1=x.1:=IsTupleKey.inj (X.keys y hy).1 (by rw[e2];exact(X.keys x hx).1);rw[this];exact hTx
        . exact .inl hc
      . exact .inr hc
   . rintro⟨r1,r2⟩ s' ⟨hr,rfl,_,hdone⟩
     simp only at hr;subst hr;refine aj (h true ?_);simp only[true_iff];refine⟨by lia,λk hk=>?_⟩;obtain⟨x,hx,rfl⟩:=bu.mp ((hm k).mp hk);rcases hdone x hx with hc|hc
     . simp at hc
     . exact hc
set_option tactic.hygienic true in
theorem a4z(hu:A.in1.units<cLine)(hu0:A.units<cLine)(hS:Gp knd pk s.heap a S n)(hT:Gp knd pk s.heap b T m)(h:∀c:Bool,(c=true↔¬∀k,S k↔T k)->Q (.bool c) s):wpAny (model prog w) A (compareOp .NotEq (.ref a) (.ref b)) Q E s:=by
 show wpAny _ _ (richCompare .NotEq (.ref a) (.ref b)) _ _ _;refine Ai (op:=.NotEq) hS.typeIs hT.typeIs F.slot_set_ne (il F.slot_set_ne hS.typeIs abu ?_ (F.args_set_ne_2 _ _)) hu0;have fin:∀c:Bool,(c=true↔∀k,S k↔T k)->Q (.bool !c) s:=λc hc=>h _ (by cases c<;>simp_all)
 have hS':=hS;have hT':=hT;obtain⟨xs,o,es,ep,t,X,hm,hn,_⟩:=hS';obtain⟨ys,o',es',ep',t',Y,hm',hn',_⟩:=hT';have h1:=X.size;have h2:=Y.size;have same:(∀k,S k↔T k)->n=m:=λe=>by
  have:(xs.map (·.1)).Perm (ys.map (·.1)):=(Cz X.nod Y.nod).mpr λk=>by rw[<- hm k,<- hm' k];exact e k
  have:=this.length_eq;simp at this;exact u_ (a_ (g_ hn) (a_ (f_ this) (f_ hn'))) (a_ (g_ hn') (a_ (g_ this) (f_ hn)))
 have back:n=m->(∀k,S k->T k)->∀k,S k↔T k:=λe hs k=>⟨hs k,λhk=>(hm k).mpr (X8 X.nod (λk hk=>(hm' k).mp (hs k ((hm k).mpr hk))) (by simp;exact a_ (f_ hn') (a_ (g_ e) (g_ hn))) k ((hm' k).mp hk))⟩
 show wpAny _ _ (Builtin.Frozenset.slot1 "__ne__" ⟨[.ref a,.ref b],[]⟩ >>= _) _ _ _;unfold Builtin.Frozenset.slot1 slotArgs;simp only[List.isEmpty_nil,nq,cg,↓reduceIte,bind_assoc,gf,Dh,u9];refine aa (aj ?_)
 try dsimp only
 refine aa (aj ?_)
 try dsimp only
 refine aa (a94 hT.typeIs ?_);simp only[nq,cg,↓reduceIte];refine aa (m:=Builtin.Frozenset.addrOf (.ref a)) (aj ?_);refine aa (m:=Builtin.Frozenset.addrOf (.ref b)) (aj ?_);unfold Builtin.Frozenset.sizeOf;refine aa (aa (j8 X.get X.dat X.tab.fits (aj ?_)));refine aa (aa (j8 Y.get Y.dat Y.tab.fits (aj ?_)));refine aa ?_;split
 . rename_i hne
   refine aj ?_;refine aj ⟨_,rfl,(λe=>nomatch e),fin false ?_⟩;simp only[cg,false_iff];intro e;have:=same e;simp at hne;lia
 . rename_i hne
   have hnm:n=m:=by simp at hne;lia
   refine aa (aa (km hS.typeIs sub_set_frozenset ?_));refine aj ?_;simp only[cg,↓reduceIte];refine ay8 hu hS hT λc hc=>?_
   exact aj ⟨_,rfl,(λe=>nomatch e),fin c (hc.trans ⟨λe=>back hnm e.2,λe=>⟨f_ hnm,λk=>(e k).mp⟩⟩)⟩
end
open PySem L2
def SmK(k:List Key):Prop:=∃i j:Int,-1<=i/\i<9/\-1<=j/\j<9/\k=[.inl i,.inl j]
def ah0(i j:Int):Int:=reduceHash (Builtin.Tuple.tupleHashOf [hashInt i,hashInt j])
def rgI:List Int:=[-1,0,1,2,3,4,5,6,7,8]
theorem ant:(rgI.all λi=>rgI.all λj=>rgI.all λi'=>rgI.all λj'=>(ah0 i j != ah0 i' j')||(i==i'&&j==j'))=true:=by decide+kernel
theorem abw(h1:-1<=i)(h2:i<9):i∈rgI:=by
 have:i=-1\/i=0\/i=1\/i=2\/i=3\/i=4\/i=5\/i=6\/i=7\/i=8:=by lia
 unfold rgI;simp only[bw,my,yp];exact this
theorem anu{P:Program}(h:SmK k)(h':SmK k')(e:tupleKeyHash (iu P w) k=tupleKeyHash (iu P w) k'):k=k':=by obtain⟨i,j,a1,a2,a3,a4,rfl⟩:=h;obtain⟨i',j',b1,b2,b3,b4,rfl⟩:=h';have e:ah0 i j=ah0 i' j':=e;have:=jg.mp (jg.mp (jg.mp (jg.mp ant i (abw a1 a2)) j (abw a3 a4)) i' (abw b1 b2)) j' (abw b3 b4);rw[e] at this;simp at this;rw[this.1,this.2]
section
variable{prog:Program}{w:World}{A:Around}{E:Value->Shared->Prop}{s:Shared}
theorem agk(hk:IsTupleKey (iu prog w) s.heap ks a)(h:Q false s):wpAny (model prog w) A (Builtin.Dict.quietEq (.ref a)) Q E s:=by
 unfold Builtin.Dict.quietEq;refine aa (v9 hk.typeIs F.slot_tuple_eq.lookup ?_);refine aj ?_;have:(some (Value.builtin "tuple.__eq__")==some (Value.builtin "object.__eq__"))=false:=by decide
 rw[this];exact h
theorem anv{xs:List (List Key×Addr×Value)}(hn:(xs.map (·.1)).Nodup)(hs:∀x∈xs,SmK x.1)(hx:x∈xs) :
 ((xs.map (entryOfKey (tupleKind (iu prog w)))).filter (·.hash==tupleKeyHash (iu prog w) x.1)).length<=1:=by
 induction xs with
 |nil=>simp
 |cons y ys ih =>
  rw[gq,ue] at hn;rw[gq]
  by_cases hy:tupleKeyHash (iu prog w) y.1=tupleKeyHash (iu prog w) x.1
  . have e:=anu (hs y cj) (hs x hx) hy
    have none:(ys.map (entryOfKey (tupleKind (iu prog w)))).filter (·.hash==tupleKeyHash (iu prog w) x.1)=[]:=by rw[List.filter_eq_nil_iff];intro z hz hq;obtain⟨z',hz',rfl⟩:=bu.mp hz;have hq:tupleKeyHash (iu prog w) z'.1=tupleKeyHash (iu prog w) x.1:=eq_of_beq (show(tupleKeyHash (iu prog w) z'.1==tupleKeyHash (iu prog w) x.1)=true from hq);have:=anu (hs z' (bh _ hz')) (hs x hx) hq;exact hn.1 (bu.mpr ⟨z',hz',this.trans e.symm⟩)
    rw[List.filter_cons,none];split<;>simp
  . rw[List.filter_cons,bz (by show ¬((tupleKeyHash (iu prog w) y.1==tupleKeyHash (iu prog w) x.1)=true);simpa using hy)]
    rcases bw.mp hx with rfl|hx
    . exact absurd rfl hy
    . exact ih hn.2 (λz hz=>hs z (bh _ hz)) hx
theorem aeb{id:String}{xs:List (List Key×Addr×Value)}(ho:s.heap.get? d=some o)(hd:o.data=.dict es ep)(he:es.toList=xs.map (entryOfKey (tupleKind (iu prog w))))(hk:∀x∈xs,IsTupleKey (iu prog w) s.heap x.1 x.2.1)(hn:(xs.map (·.1)).Nodup)(hs:∀x∈xs,SmK x.1)(h:Q es s) :
 wpAny (model prog w) A (Builtin.Dict.entriesForEmpty id d) Q E s:=by
 unfold Builtin.Dict.entriesForEmpty;refine aa (jo ho hd ?_);refine aa ?_;rw[<- Ea];refine p8 _ (λrest _ s'=>s'=s/\∀e∈rest,∃x∈xs,e=entryOfKey (tupleKind (iu prog w)) x) _ ?_ ?_ _ _ ⟨rfl,λe hm=>?_⟩
 . rintro e rest r s' ⟨rfl,hall⟩
   obtain⟨x,hx,rfl⟩:=hall e cj;show wpAny _ _ (Builtin.Dict.quietEq (.ref x.2.1) >>= _) _ _ _;refine aa (agk (hk x hx) ?_);simp only[yd,jq];have h1:=anv (prog:=prog) (w:=w) hn hs hx;rw[bz (by
    intro hc;have:(es.filter (·.hash==(entryOfKey (tupleKind (iu prog w)) x).hash)).size=((xs.map (entryOfKey (tupleKind (iu prog w)))).filter (·.hash==tupleKeyHash (iu prog w) x.1)).length:=by rw[<- he,<- qe,Array.toList_filter];rfl
    exact l_ hc (a_ (f_ this) h1))]
   exact aj ⟨rfl,λe he=>hall e (bh _ he)⟩
 . rintro b s' ⟨rfl,_⟩
   exact aj h
 . rw[he] at hm
   obtain⟨x,hx,rfl⟩:=bu.mp hm;exact⟨x,hx,rfl⟩
theorem a5a{h h':Heap}{ks:List Key}{p a:Addr}(x:IsTupleKey (iu prog w) h ks p)(hs:∀b o,h.get? b=some o->h'.get? b=some o):IsTupleKey (iu prog w) h' ks p :=
 let ⟨o,items,n,ho,r⟩:=x;⟨o,items,n,hs p o ho,r⟩
set_option tactic.hygienic true in
theorem a5b(hds:(d==sysModules)=false)(hd:s.heap.DictOfH (tupleKind (iu prog w)) d xs)(hs:∀x∈xs,SmK x.1)(hsz:xs.length<=sizeLine)(h:∀h',h'.DictOfH (tupleKind (iu prog w)) s.heap.objs.size xs->(∀b o,s.heap.get? b=some o->h'.get? b=some o)->Q (.ref s.heap.objs.size) { s with heap:=h' }) :
 wpAny (model prog w) A (call (.type "dict") [.ref d]) Q E s:=by
 refine callType_codes (Q₁:=λobj s₁=>obj=.ref s.heap.objs.size/\s₁={ s with heap:=s.heap.push { cls:=.type "dict",data:=.dict #[] } }) F.kt_called_dict (F.kt_typeCall_dict_1 _) F.entry_dict_init (kt_code_dict_new _ ⟨rfl,rfl⟩) ?_;rintro obj s₁ ⟨rfl,rfl⟩;have hdT:=hd.typeIs;obtain⟨od,esd,epd,hod,hcd,hdd,hed,hxd,hnd⟩:=hd;have keep:∀b o,s.heap.get? b=some o->(s.heap.push { cls:=.type "dict",data:=.dict #[] }).get? b=some o:=λb o e=>ao _ e
 have hnew:(s.heap.push { cls:=.type "dict",data:=.dict #[] }).get? s.heap.objs.size=some { cls:=.type "dict",data:=.dict #[] }:=bf _ rfl;have hTn:Shared.TypeIs { s with heap:=s.heap.push { cls:=.type "dict",data:=.dict #[] } } (.ref s.heap.objs.size) "dict" := ⟨_,hnew,rfl⟩;have hT':Shared.TypeIs { s with heap:=s.heap.push { cls:=.type "dict",data:=.dict #[] } } (.ref d) "dict" := ⟨od,keep _ _ hod,hcd.1⟩;have hod':=keep _ _ hod;have hdo:s.heap.objs.size≠d:=λe=>absurd (au hod) (by rw[e];exact qd _)
 have hlen:esd.size=xs.length:=zf hed;refine⟨hTn,F.args_dict_init_2 _ _,?_⟩;unfold Builtin.«dict.__init__»;refine aa ?_;unfold Builtin.Dict.selfAndRest;refine aa (wpAny_notOrdered_dict hTn ?_);show wpAny _ _ (pure (s.heap.objs.size,[Value.ref d])) _ _ _;refine aj ?_;show wpAny _ _ (Builtin.Dict.updateFrom "dict.__init__" s.heap.objs.size (.ref d) [] .none) _ _ _;unfold Builtin.Dict.updateFrom;refine aa (o7 hT' ?_);rw[bz (by decide)];refine aa ?_;unfold Builtin.Dict.merge;refine aa ?_;unfold Builtin.Dict.readDirectly;refine aa (km hT' isSubtype_dict_dict ?_);simp only[nq,cg,jf];refine aa (v9 hT' F.slot_dict_iter.lookup (aj ?_));simp only[yo,jq];refine aa (aj ?_);unfold Builtin.Dict.mergeDict;rw[bz (by simpa using hdo)];unfold Builtin.Dict.showsAll;rw[bz (by rw[hds];exact ir)];refine aa (aj ?_);refine aa (jo hod' hdd ?_);have kk:∀{h':Heap},(∀b o,s.heap.get? b=some o->h'.get? b=some o)->∀x∈xs,(tupleKind (iu prog w)).is h' x.1 x.2.1:=λhk x hx=>a5a (a:=d) (hxd x hx) hk
 have emp:esd=#[]->∀s',s'={ s with heap:=s.heap.push { cls:=.type "dict",data:=.dict #[] } }->wpAny (model prog w) A.in1.in1 (Builtin.Dict.addKeywords s.heap.objs.size [] >>= λ_=>ret Value.none) (λfin s'=>match fin with|.done f=>wants (λr s₂=>r=Value.none/\Q (.ref s.heap.objs.size) s₂) E (.ok f) s'|.again c'=>c'.quiet=true/\codeAny (model prog w) A.in1 c' (wants (λr s₂=>r=Value.none/\Q (.ref s.heap.objs.size) s₂) E) s') (λe s'=>wants (λr s₂=>r=Value.none/\Q (.ref s.heap.objs.size) s₂) E (.error e) s') s':=λhe s' hs'=>by have hx0:xs=[]:=rm.mp (by rw[<- hlen,he];rfl);subst hs';refine aa (aj (aj ⟨rfl,h _ ⟨_,#[],0,hnew,⟨rfl,rfl,rfl⟩,rfl,?_,kk keep,hnd⟩ keep⟩));rw[hx0];rfl
 dsimp only;split
 . refine aa (jo hnew rfl ?_)
   rw[cu (show(#[]:Array DictEntry).isEmpty=true from rfl)];refine aa (aeb hod' hdd hed (kk keep) hnd hs ?_);split
   . refine aa (wpAny_updateDictKeysTo hnew rfl (aj ?_) (by show esd.size<=_;exact a_ (f_ hlen) (a_ hsz x_)))
     have ah1:∀b o,s.heap.get? b=some o->((s.heap.push { cls:=.type "dict",data:=.dict #[] }).update s.heap.objs.size (Obj.mapDictKeys λ_=>esd)).get? b=some o:=λb o e=>by rw[qw _ _ (jz (dj (au e)))];exact keep b o e
     refine aa (aj (aj ⟨rfl,h _ ⟨_,esd,0+1,mj _ hnew (Obj.isFreed_of_dict (Obj.data_mapDictKeys rfl _)),⟨rfl,rfl,rfl⟩,Obj.data_mapDictKeys rfl _,hed,kk ah1,hnd⟩ ah1⟩))
   . rename_i hne
     exact aj (emp (Array.isEmpty_iff.mp (by simpa using hne)) _ rfl)
 . rename_i hf
   have he:esd=#[]:=by
    apply wg;intro hne;have hx:xs≠[]:=λe=>hne (Array.eq_empty_of_size_eq_zero (by rw[hlen,e];rfl))
    obtain⟨x,ys,rfl⟩:=Cy hx;have hall:(esd.all λe=>(keyPart e.key).isSome)=true:=by simp only[Br,Bool.not_eq_false,aq] at hf;exact hf.2
    rw[<- Array.all_toList,hed,gq,List.all_cons,aq] at hall;exact Bool.noConfusion (hall.1:(keyPart (.ref x.2.1)).isSome=true)
   refine aa (v8 hod' hdd ?_);refine aa (jo hod' hdd ?_);refine aa ?_;rw[he,uo];simp only[Std.Legacy.Range.size,du,Dh,Nat.sub_zero,vg,Nat.sub_self,Nat.div_one,List.range'_zero,Hg];exact aj (aj (emp he _ rfl))
end
section
variable{prog:Program}{w:World}{A:Around}{E:Value->Shared->Prop}{s:Shared}
inductive Ly(A:Around)(s:Shared)(kb:List (List Key×Addr×Value)):List (List Key×Addr×Value)->Bool->Prop
 |nil:Ly A s kb [] true
 |miss {k:List Key} {p:Addr} {v:Value} {r:List (List Key×Addr×Value)}:atKey kb k=none->Ly A s kb ((k,p,v)::r) false
 |hit {k:List Key} {p q:Addr} {v y:Value} {r:List (List Key×Addr×Value)} {e b:Bool}:atKey kb k=some (q,y)->SeqAt.EqAt A s v y e->Ly A s kb r b->Ly A s kb ((k,p,v)::r) (e&&b)
theorem Ly.inv(h:Ly A s kb ((k,p,v)::r) b) :
 (atKey kb k=none/\b=false)\/∃q y e b',atKey kb k=some (q,y)/\SeqAt.EqAt A s v y e/\Ly A s kb r b'/\b=(e&&b'):=by
 cases h with
 |miss hn=>exact .inl ⟨hn,rfl⟩|hit hy he hr=>exact .inr ⟨_,_,_,_,hy,he,hr,rfl⟩
theorem anw{rest:List (List Key×Addr×Value)}(room:A.units<cLine)(key:IsTupleKey (iu prog w) s.heap k p)(db:s.heap.DictOfH (tupleKind (iu prog w)) b kb)(gn:g none=pure false)(gs:∀j,g (some j)=(do let l <- dictEntries b;match l[j]? with|some f=>holding [f.val] (eqBool v f.val)|_=>unsupported "internal:dict-equal"))(hits:Ly A s kb ((k,p,v)::rest) r)(no:r=false->Q false s)(yes:Ly A s kb rest r->Q true s) :
 wpAny (model prog w) A (dictFind b (.ref p) (tupleKeyHash (iu prog w) k) >>= g) Q E s:=by
 obtain⟨o,ents,ep,at1,_,at2,at3,at4,at5⟩:=db;refine aa (wpAny_dictFind_heap (knd:=tupleKind (iu prog w)) room key at1 at2 at3 at4 at5 (λnone=>?_) λj pv some'=>?_)
 . rw[gn]
   refine aj (no ?_);rcases hits.inv with⟨_,e⟩|⟨_,_,_,_,z,_⟩
   . exact e
   . rw[atKey_none_of_get none] at z;cases z
 . rw[gs]
   have there:=atKey_of_get at5 some';refine aa (jo at1 at2 ?_);rw[show ents[j]?=some (entryOfKey (tupleKind (iu prog w)) (k,pv)) by rw[entry_at at3,some'];rfl];rcases hits.inv with⟨z,_⟩|⟨q,y,c,d,z,same,more,e⟩
   . rw[there] at z;cases z
   . have:pv=(q,y):=ie (there.symm.trans z)
     subst this;refine gm (same prog w _ _ ?_);cases c
     . exact no e
     . exact yes (by rw[e];exact more)
set_option tactic.hygienic true in
theorem a5d{id:String}(room:A.units<cLine)(na:(a==sysModules)=false)(nb:(b==sysModules)=false)(da:s.heap.DictOfH (tupleKind (iu prog w)) a ka)(db:s.heap.DictOfH (tupleKind (iu prog w)) b kb)(hits:ka.length=kb.length->Ly A s kb ka r)(post:Q (ka.length==kb.length&&r) s) :
 wpAny (model prog w) A (Builtin.Dict.samePairs id a b) Q E s:=by
 have db':=db;obtain⟨o,ents,ep,at1,_,at2,at3,at4,at5⟩:=da;obtain⟨o',bct,ep',a98,_,a99,baa,bec,bed⟩:=db;have la:=zf at3;have lb:=zf baa;unfold Builtin.Dict.samePairs;have sa:∀{d:Addr}{R:Unit->Shared->Prop},(d==sysModules)=false->R () s->wpAny (model prog w) A (Builtin.Dict.showsAll d) R E s:=λhd hR=>by unfold Builtin.Dict.showsAll;rw[hd];exact aj hR
 refine aa (sa na (aa (sa nb (aa (jo at1 at2 (aa (jo a98 a99 ?_)))))));rw[la,lb];split
 . rename_i ne
   have:(ka.length==kb.length)=false:=by simpa using ne
   rw[this] at post;exact aa (ur (aj post))
 . rename_i eq
   have eq:ka.length=kb.length:=by simpa using eq
   have post:Q r s:=by simpa[eq] using post
   refine aa (v8 at1 at2 (aa ?_));refine upto (λi q z=>z=s/\q=(none,())/\Ly A s kb (ka.drop i) r) (λi q z lt inv=>?_) (λq z inv=>?_) ⟨rfl,rfl,hits eq⟩
   . obtain⟨rfl,rfl,inv⟩:=inv
     rw[List.drop_eq_getElem_cons lt] at inv;refine aa (jo at1 at2 ?_);rw[show ents[i]?=some (entryOfKey (tupleKind (iu prog w)) ka[i]) by rw[entry_at at3];simp[lt]];refine aa (gm (anw (v:=ka[i].2.2) room (at4 _ (q9 lt)) db' rfl (λ_=>rfl) inv (λe=>?_) λmore=>?_))
     . subst e;exact aj (aj post)
     . refine aa (v8 at1 at2 ?_)
       rw[u9];exact aj ⟨rfl,rfl,more⟩
   . obtain⟨rfl,rfl,inv⟩:=inv
     rw[List.drop_length] at inv;cases inv;exact aj post
theorem eqH(na:(a==sysModules)=false)(nb:(b==sysModules)=false)(da:s.heap.DictOfH (tupleKind (iu prog w)) a ka)(db:s.heap.DictOfH (tupleKind (iu prog w)) b kb)(room:A.units+1<cLine)(hits:ka.length=kb.length->Ly A.in1 s kb ka r)(post:Q (.bool (ka.length==kb.length&&r)) s) :
 wpAny (model prog w) A (richCompare .Eq (.ref a) (.ref b)) Q E s:=by
 have two:∀{R:Value×Value->Shared->Prop},R (.ref a,.ref b) s->wpAny (model prog w) A.in1 (Builtin.Dict.dictSlotArgs "__eq__" ⟨[.ref a,.ref b],[]⟩) R E s:=λhR=>aa (wpAny_notOrdered_dict da.typeIs (aj hR))
 have body:wpAny (model prog w) A.in1 (Builtin.«dict.__eq__» ⟨[.ref a,.ref b],[]⟩) (λf z=>∃v,f=.done (.ret v)/\v≠.notImplemented/\Q v z) E s:=by refine aa (two (aa (km (T := "dict") db.typeIs PySem.F.sub_dict_dict ?_)));refine aa (aj (aa (aj (aa (a5d (show A.units+1<cLine from room) na nb da db hits (aj ⟨_,rfl,(λz=>nomatch z),?_⟩))))));simpa using post
 exact Ai (op:=.Eq) da.typeIs db.typeIs Hb (il Hb da.typeIs PySem.F.entry_dict_eq body (PySem.F.args_dict_eq_2 _ _)) (by lia)
theorem aal{P P':Program}{w w':World}:∀{ks:List Key}{vs:List Value},ItemsAre (iu P w) ks vs->ItemsAre (iu P' w') ks vs
 |_,_,.nil=>.nil|_,_,.cons a b=>.cons a (aal b)
theorem aec{P:Program}{h:Heap}(hd:h.DictOfH (tupleKind (iu P w)) d xs)(hi:∀x∈xs,∀k∈x.1,∃i,k=Sum.inl i):h.DictOfH (tupleKind (iu P' w')) d xs:=by
 obtain⟨o,es,ep,h1,h2,h3,h4,h5,h6⟩:=hd;refine⟨o,es,ep,h1,h2,h3,?_,λx hx=>?_,h6⟩
 . rw[h4]
   refine qi λx hx=>?_
   have:x.1.map (iu P w).hash=x.1.map (iu P' w').hash:=qi λk hk=>by obtain⟨i,rfl⟩:=hi x hx k hk;rfl
   show DictEntry.mk (reduceHash (Builtin.Tuple.tupleHashOf (x.1.map (iu P w).hash))) _ _=DictEntry.mk (reduceHash (Builtin.Tuple.tupleHashOf (x.1.map (iu P' w').hash))) _ _;rw[this]
 . obtain⟨o',its,n,g1,g2,g3,g4⟩:=h5 x hx
   refine⟨o',its,n,g1,g2,g3,?_⟩;exact aal g4
theorem aam{P:Program}(ha:(a==sysModules)=false)(hb:(b==sysModules)=false)(hab:a≠b)(da:s.heap.DictOfH (tupleKind (iu P w)) a ka)(db:s.heap.DictOfH (tupleKind (iu P w)) b kb)(ia:∀x∈ka,∀k∈x.1,∃i,k=Sum.inl i)(ib:∀x∈kb,∀k∈x.1,∃i,k=Sum.inl i)(hu:A.units+1<cLine)(hits:ka.length=kb.length->Ly A.in1 s kb ka r):SeqAt.EqAt A s (.ref a) (.ref b) (ka.length==kb.length&&r):=by
 intro prog' w' E Q hq;unfold eqBool
 try with_reducible refine gm ?_
 show wpAny _ _ (if(Value.ref a==Value.ref b)=true then _ else _) Q E s;rw[bz (by intro h;have:=eq_of_beq h;injection this with this;exact hab this)];exact aa (eqH ha hb (aec da ia) (aec db ib) hu hits (j0 hq))
end
end Za
namespace Sm
open PySem L2
open MW (Ex Dr Z3 Rp Fl m7 Lv Tg Res Store MO Dy Cp Op2 Blt Bm Kx Src)
def Ke(f:Dv->Dv->Option Bool)(as bs:List Dv)(j:Nat):Bool:=match as[j]?,bs[j]? with
 |some a,some b=>(f a b).getD false|_,_=>false
set_option tactic.hygienic true in
theorem Kw{f:Dv->Dv->Option Bool}:∀{as bs:List Dv}{r:Bool},MW.Ov f as bs=some r->(∀(j:Nat) a b,as[j]?=some a->bs[j]?=some b->∃c,f a b=some c) /\
 r=((List.range (min as.length bs.length)).all (Ke f as bs)&&as.length==bs.length)
 |[],[],r,h=>by cases h;exact⟨λj a b e=>by simp at e,by simp⟩
 |[],b::bs,r,h=>by cases h;exact⟨λj a b e=>by simp at e,by simp⟩
 |a::as,[],r,h=>by cases h;exact⟨λj a b _ e=>by simp at e,by simp⟩
 |a::as,b::bs,r,h=>by
  simp only[MW.Ov] at h;split at h
  . rename_i x y h1 h2
    cases h;obtain⟨g1,g2⟩:=Kw h2;refine⟨λj a' b' e1 e2=>?_,?_⟩
    . cases j with
      |zero=>simp at e1 e2;subst e1 e2;exact⟨x,h1⟩|succ j=>exact g1 j a' b' (by simpa using e1) (by simpa using e2)
    . rw[gf,gf,Nat.succ_min_succ,List.range_succ_eq_map,List.all_cons,List.all_map]
      have z:Ke f (a::as) (b::bs) 0=x:=by simp[Ke,h1]
      have z2:(Ke f (a::as) (b::bs) ∘ Nat.succ)=Ke f as bs:=by funext j;simp[Ke]
      rw[z,z2,g2];have z3:(as.length+1==bs.length+1)=(as.length==bs.length):=by
       by_cases q:as.length=bs.length
       . simp[q]
       . have:¬(as.length+1=bs.length+1):=by lia
         simp[q,this]
      rw[z3,Bool.and_assoc]
  . cases h
section
variable{nm:Nm}{W:Dy}{X:Cx}{a b c o:Expr}{a' b' c' o':Ex}{pos pos' apos:Pos}{ι:Io}{H:Hp}{σ:St}{ρ:En}{M M1 M2:Store}{x y:Dv}{es:List Expr}{es':Dr}{K:Fg}
set_option tactic.hygienic true in
theorem Qm{f:Dv->Dv->Option Bool}(hf:∀x y v r,Rep K ι H x v->Rep K ι H y v->f x y=some r->r=true):∀{as bs:List Dv}{vs:List V}{r:Bool},kj K ι H as vs->kj K ι H bs vs->MW.Ov f as bs=some r->r=true
 |_,_,_,_,.nil,.nil,h=>by cases h;rfl
 |_,_,_,_,.cons h1 t1,.cons h2 t2,h=>by
  simp only[MW.Ov] at h;split at h
  . rename_i x y e1 e2
    cases h;rw[hf _ _ _ _ h1 h2 e1,Qm hf t1 t2 e2];rfl
  . cases h
set_option tactic.hygienic true in
theorem aed(S:kh nm K ι H M){es:List Dv}(rx:Rep K ι H x v)(ry:Rep K ι H y v)(h1:MW.asList M x=some ds)(h2:MW.asList M y=some es):∃vs,kj K ι H ds vs/\kj K ι H es vs:=by
 cases rx with
 |vl e1 n1 r1 =>
  cases ry with
  |vl e2 n2 r2 =>
   simp[MW.asList] at h1 h2;subst h1 h2;rw[e1] at e2;cases e2;exact⟨_,r1,r2⟩
  |ref e2=>exact absurd (az e2) n1.1|_=>simp[MW.asList] at h2
 |@ref n p e1 =>
  cases ry with
  |vl e2 n2 r2=>exact absurd (az e1) n2.1
  |@ref n' _ e2 =>
   have hn:n=n':=by obtain⟨l1,q1⟩:=ak.mp e1;obtain⟨l2,q2⟩:=ak.mp e2;exact(qz S.nd).mp (q1.trans q2.symm)
   subst hn;rw[h1] at h2;cases h2;simp only[MW.asList] at h1;split at h1
   . rename_i q hM
     cases h1;obtain⟨vs,g1,g2⟩:=S.obj n _ p hM e1;exact⟨vs,g2,g2⟩
   . cases h1
  |_=>simp[MW.asList] at h2
 |_=>simp[MW.asList] at h1
theorem abx(S:kh nm K ι H M):∀(k:Nat)(x y:Dv)(v:V)(r:Bool),Rep K ι H x v->Rep K ι H y v->MW.Hd M k x y=some r->r=true
 |0,_,_,_,_,_,_,h=>by cases h
 |k+1,x,y,v,r,rx,ry,h=>by
  have ih:=abx S k;have lists:∀ds es,MW.asList M x=some ds->MW.asList M y=some es->(if ds.length=es.length then MW.Ov (MW.Hd M k) ds es else some false)=some r->r=true:=λds es h1 h2 h3=>by obtain⟨vs,r1,r2⟩:=aed S rx ry h1 h2;rw[cu (r1.length.trans r2.length.symm)] at h3;exact Qm (λx y v r a b c=>ih x y v r a b c) r1 r2 h3
  cases rx with
  |non=>cases ry;cases h;rfl|bl b=>cases ry;cases h;simp|int i=>cases ry;cases h;simp|str z=>cases ry;cases h;simp
  |@tup p ds vs e1 r1 =>
   cases ry with
   |@tup _ es vs2 e2 r2 =>
    rw[e1] at e2;cases e2;exact Qm (λx y v r a b c=>ih x y v r a b c) r1 r2 h
   |vl e2 n2 r2=>rw[e1] at e2;cases e2|fz e2 r2=>cases h|@ref n _ e2=>rw[Aa (λ_ e=>by cases e) (λ_ e=>by cases e)] at h;cases h
  |@vl p ds vs e1 n1 r1 =>
   cases ry with
   |tup e2 r2=>rw[e1] at e2;cases e2|@vl _ es vs2 e2 n2 r2=>exact lists ds es rfl rfl h|fz e2 r2=>cases h|ref e2=>exact absurd (az e2) n1.1
  |fz e1 r1 =>
   cases ry with
   |@ref n _ e2=>rw[Aa (λ_ e=>by cases e) (λ_ e=>by cases e)] at h;cases h
   |_=>cases h
  |@ref n p e1 =>
   cases ry with
   |tup e2 r2=>rw[Kr (λ_ e=>by cases e) (λ_ e=>by cases e)] at h;cases h
   |vl e2 n2 r2=>exact absurd (az e1) n2.1|fz e2 r2=>rw[Kr (λ_ e=>by cases e) (λ_ e=>by cases e)] at h;cases h
   |@ref n' _ e2 =>
    cases hl:MW.asList M (.ref n) with
    |none =>
     rw[Ff,hl] at h;cases hl2:MW.asList M (.ref n') with
     |some es=>rw[hl2] at h;cases h
     |none =>
      rw[hl2] at h;obtain⟨_,_,_,_,_,_,hc⟩:=Vk h;rcases hc with⟨_,er⟩|⟨en,_⟩
      . exact er
      . obtain⟨l1,q1⟩:=ak.mp e1
        obtain⟨l2,q2⟩:=ak.mp e2;exact absurd ((qz S.nd).mp (q1.trans q2.symm)) en
    |some ds =>
     cases hl2:MW.asList M (.ref n') with
     |none=>simp[MW.Hd,hl,hl2] at h|some es=>exact lists ds es hl hl2 (by simpa[MW.Hd,hl,hl2] using h)
theorem Vals.aee{j:Nat}(r:Vals xs us)(h1:xs[j]?=some v)(h2:us[j]?=some u):RelV v u:=by obtain⟨u',e1,e2⟩:=L2.Vals.get r h1;rw[h2] at e1;cases e1;exact e2
theorem Ir{K:Fg}:∀{l:List (List Kx×Dv)}{l':List (List Key×V)},ou K ι H (λk k'=>k=k') l l'->l'.map (·.1)=l.map (·.1)
 |_,_,.nil=>rfl|_,_,.cons k h t=>by simp[Ir t,k]
theorem Um(r:KT H l xs):xs.map (·.1)=l.map (·.1)/\∀x∈xs,H x.2.1=some (.tup (x.1.map kV)):=by
 induction r with
 |nil=>exact⟨rfl,by simp⟩
 |@cons p q ps qs hq t ih =>
  refine⟨by simp[ih.1,hq.1],λx hx=>?_⟩;rcases bw.mp hx with rfl|hx
  . rw[<- hq.1];exact hq.2.1
  . exact ih.2 x hx
theorem Uo(h:MW.Z4 l=true)(g:ou K ι H (λk k'=>k=k') l l')(r:KT H l' xs):∀x∈xs,∀k∈x.1,∃i,k=Sum.inl i:=λx hx k hk=>by
 have e:=(Um r).1.trans (Ir g);have:x.1∈l.map (·.1):=by rw[<- e];exact bu.mpr ⟨x,hx,rfl⟩
 obtain⟨y,hy,ey⟩:=bu.mp this;simp only[MW.Z4,jg] at h;have:=h y hy k (by rw[ey];exact hk);cases k with
 |inl i=>exact⟨i,rfl⟩|inr s=>cases this
set_option tactic.hygienic true in
theorem Yb{pins:List (Addr×Obj)}{s:Shared}(I:Inv X pins σ H s)(S:kh nm X.K ι H M):∀(k:Nat)(A:Around)(x y:Dv)(v u:V)(v' u':Value)(r:Bool),zj k A->Rep X.K ι H x v->Rep X.K ι H y u->RelV v v'->RelV u u'->MW.Hd M k x y=some r->SeqAt.EqAt A s v' u' r
 |0,_,_,_,_,_,_,_,_,_,_,_,_,_,h=>by cases h
 |k+1,A,x,y,v,u,v',u',r,hr,rx,ry,rv,ru,h=>by
  have ih:=Yb I S k A.in1;have hr1:=hr.in1;have elems:∀(ds es:List Dv)(vs ws:List V)(is js:List Value)(rr:Bool),kj X.K ι H ds vs->kj X.K ι H es ws->Vals vs is->Vals ws js->MW.Ov (MW.Hd M k) ds es=some rr ->
   ∀j (h1:j<is.toArray.size) (h2:j<js.toArray.size),SeqAt.EqAt A.in1 s is.toArray[j] js.toArray[j] (Ke (MW.Hd M k) ds es j):=λds es vs ws is js rr rd re rvs rws he j h1 h2=>by
   have l1:j<ds.length:=by rw[rd.length,rvs.length];simpa using h1
   have l2:j<es.length:=by rw[re.length,rws.length];simpa using h2
   have g1:ds[j]?=some ds[j]:=by simp[l1]
   have g2:es[j]?=some es[j]:=by simp[l2]
   obtain⟨c,hc⟩:=(Kw he).1 j _ _ g1 g2;obtain⟨va,a1,a2⟩:=rd.get g1;obtain⟨wa,b1,b2⟩:=re.get g2;have q1:is[j]?=some is.toArray[j]:=by simp
   have q2:js[j]?=some js.toArray[j]:=by simp
   have:=ih _ _ va wa _ _ c hr1 a2 b2 (Vals.aee rvs a1 q1) (Vals.aee rws b1 q2) hc;have z:Ke (MW.Hd M k) ds es j=c:=by simp[Ke,g1,g2,hc]
   rw[z];exact this
  have lists:∀(p p2:Addr)(ds es:List Dv),v=.ref p->u=.ref p2->MW.asList M x=some ds->MW.asList M y=some es->(if ds.length=es.length then MW.Ov (MW.Hd M k) ds es else some false)=some r->SeqAt.EqAt A s v' u' r:=λp p2 ds es hv hu h1 h2 h3=>by
   subst hv hu;cases rv;cases ru;obtain⟨_,vs,hv,g1,g2⟩:=uw S rx h1;cases hv;obtain⟨_,ws,hw,g3,g4⟩:=uw S ry h2;cases hw
   by_cases hpp:p=p2
   . subst hpp
     have:r=true:=by rw[g1] at g3;cases g3;rw[cu (g2.length.trans g4.length.symm)] at h3;exact Qm (λx y v r a b c=>abx S k x y v r a b c) g2 g4 h3
     rw[this];exact zc _
   . refine SeqAt.EqAt.of_refs hpp ?_
     obtain⟨is,r1,pl1,_⟩:=I.list (Jv.of g1);obtain⟨js,r2,pl2,_⟩:=I.list (Jv.of g3)
     by_cases hl:ds.length=es.length
     . rw[cu hl] at h3
       have hsz:is.toArray.size=js.toArray.size:=by simp[<- r1.length,<- r2.length,<- g2.length,<- g4.length,hl]
       have:=SeqAt.RcAt.lists (e:=Ke (MW.Hd M k) ds es) pl1.isList pl2.isList hsz hr.Vc (elems ds es vs ws is js r g2 g4 r1 r2 h3);rw[(Kw h3).2];have e1:is.toArray.size=min ds.length es.length:=by simp[<- r1.length,<- g2.length,hl]
       rw[e1] at this;simpa[hl] using this
     . rw[bz hl] at h3
       cases h3;exact Bg pl1.isList pl2.isList (by simp[<- r1.length,<- r2.length,<- g2.length,<- g4.length,hl]) hr.Vc
  cases rx with
  |non=>(cases ry<;>first|cases h|(rw[Aa (λ_ e=>by cases e) (λ_ e=>by cases e)] at h;cases h));cases rv;cases ru;exact zc _
  |bl b=>(cases ry<;>first|cases h|(rw[Aa (λ_ e=>by cases e) (λ_ e=>by cases e)] at h;cases h));cases rv;cases ru;exact SeqAt.EqAt.bool_bool _ _
  |int i =>
   cases ry<;>first|cases h|(rw[Aa (λ_ e=>by cases e) (λ_ e=>by cases e)] at h;cases h)
   obtain⟨t,rfl⟩:=rv;obtain⟨t2,rfl⟩:=ru;rw[<- Gq];exact SeqAt.EqAt.int_int _ _ _ _
  |str z =>
   cases ry<;>first|cases h|(rw[Aa (λ_ e=>by cases e) (λ_ e=>by cases e)] at h;cases h)
   obtain⟨t,rfl⟩:=rv;obtain⟨t2,rfl⟩:=ru;rw[<- Gq];exact SeqAt.EqAt.str_str _ _ _ _
  |@tup p ds vs e1 r1 =>
   cases ry with
   |@tup p2 es ws e2 r2 =>
    cases rv;cases ru;have h:MW.Ov (MW.Hd M k) ds es=some r:=h
    by_cases hpp:p=p2
    . subst hpp
      have:r=true:=by rw[e1] at e2;cases e2;exact Qm (λx y v r a b c=>abx S k x y v r a b c) r1 r2 h
      rw[this];exact zc _
    . refine SeqAt.EqAt.of_refs hpp ?_
      obtain⟨is,g1,pl1,_⟩:=I.tuple (Ml.of e1);obtain⟨js,g2,pl2,_⟩:=I.tuple (Ml.of e2);have:=SeqAt.RcAt.tuples (e:=Ke (MW.Hd M k) ds es) (show s.heap.IsTuple p is.toArray from pl1) (show s.heap.IsTuple p2 js.toArray from pl2) hr.Vc (elems ds es vs ws is js r r1 r2 g1 g2 h);rw[(Kw h).2];have z1:is.toArray.size=ds.length:=by simp[<- g1.length,<- r1.length]
      have z2:js.toArray.size=es.length:=by simp[<- g2.length,<- r2.length]
      rw[z1,z2] at this;exact this
   |@ref n _ e2=>rw[Aa (λ_ e=>by cases e) (λ_ e=>by cases e)] at h;cases h
   |_=>cases h
  |@vl p ds vs e1 n1 r1 =>
   cases ry with
   |@vl p2 es ws e2 n2 r2=>exact lists p p2 ds es rfl rfl rfl rfl h
   |@ref n p2 e2 =>
    rw[X3] at h;cases hl:MW.asList M (.ref n) with
    |none=>rw[hl] at h;cases h|some es=>rw[hl] at h;exact lists p p2 ds es rfl rfl rfl hl h
   |_=>cases h
  |fz e1 r1 =>
   cases ry with
   |@ref n _ e2=>rw[Aa (λ_ e=>by cases e) (λ_ e=>by cases e)] at h;cases h
   |_=>cases h
  |@ref n p e1 =>
   cases hl:MW.asList M (.ref n) with
   |none =>
    cases ry with
    |@ref n' p2 e2 =>
     rw[Ff,hl] at h;cases hl2:MW.asList M (.ref n') with
     |some es=>rw[hl2] at h;cases h
     |none =>
      rw[hl2] at h;obtain⟨ka,kb,m1,m2,i1,i2,hc⟩:=Vk h;cases rv;cases ru;rcases hc with⟨en,er⟩|⟨en,h3⟩
      . subst en;subst er
        rw[e1] at e2;cases e2;exact zc _
      . have hpp:p≠p2:=λz=>by
         subst z;obtain⟨l1,q1⟩:=ak.mp e1;obtain⟨l2,q2⟩:=ak.mp e2;exact en ((qz S.nd).mp (q1.trans q2.symm))
        obtain⟨la,g1,g2⟩:=S.obj n _ p m1 e1;obtain⟨lb,g3,g4⟩:=S.obj n' _ p2 m2 e2;obtain⟨_,z1,xa,ra,da⟩:=adl I.hok g1;obtain⟨_,z2,xb,rb,db⟩:=adl I.hok g3;have hla:xa.length=ka.length:=by have:=m6 List.length ((Um ra).1.trans (Ir g2));simpa using this
        have hlb:xb.length=kb.length:=by have:=m6 List.length ((Um rb).1.trans (Ir g4));simpa using this
        have hu:A.units+1<cLine:=by have:=hr1.Vc;exact this
        have hits:∀(ka:List (List Kx×Dv))(la:List (List Key×V))(xa:List (List Key×Addr×Value))(r:Bool),ou X.K ι H (λk k'=>k=k') ka la->KT H la xa->MW.eqK (MW.Hd M k) kb ka=some r->Za.Ly A.in1 s xb xa r:=by
         intro ka
         induction ka with
         |nil =>
          intro la xa r hp hk he;cases hp;cases hk;cases he;exact .nil
         |cons kv ka ihk =>
          intro la xa r hp hk he;cases hp with
          |@cons q q' d v _ la' hq rd hp' =>
           subst hq;cases hk with
           |@cons _ w _ xa' hw hk' =>
            obtain⟨w1,w2,w3⟩:=w;obtain⟨hw1,_,hw3⟩:=hw;have hw1:q=w1:=hw1;subst hw1;simp only[MW.eqK] at he;split at he
            . rename_i hn
              cases he;refine .miss ?_;have:=(g4.look (k:=q)).2 hn;have hv:=(rb.val q).Kp;rw[this] at hv;cases hat:atKey xb q with
              |none=>rfl|some z=>rw[hat] at hv;cases hv
            . rename_i y hy
              split at he
              . rename_i eb bb he1 he2
                cases he;obtain⟨vy,hv1,hv2⟩:=(g4.look (k:=q)).1 y hy;have hv:=rb.val q;rw[hv1] at hv;cases hat:atKey xb q with
                |none=>rw[hat] at hv;exact hv.elim
                |some z =>
                 rw[hat] at hv;obtain⟨z1',z2'⟩:=z;have hv:RelV vy z2':=hv;exact .hit hat (ih d y v vy w3 z2' eb hr1 rd hv2 hw3 hv he1) (ihk la' xa' bb hp' hk' he2)
              . cases he
        by_cases hlen:ka.length=kb.length
        . rw[cu hlen] at h3
          have:=Za.aam z1 z2 hpp da db (Uo i1 g2 ra) (Uo i2 g4 rb) hu (λ_=>hits ka la xa r g2 ra h3);simpa[hla,hlb,hlen] using this
        . rw[bz hlen] at h3
          cases h3;have:=Za.aam (A:=A) (s:=s) (r:=false) z1 z2 hpp da db (Uo i1 g2 ra) (Uo i2 g4 rb) hu (λe=>absurd (by rw[<- hla,<- hlb];exact e) hlen);simpa using this
    |@vl p2 es ws e2 n2 r2=>rw[Og,hl] at h;cases h|_=>rw[Kr (λ_ e=>by cases e) (λ_ e=>by cases e)] at h;cases h
   |some ds =>
    cases ry with
    |@vl p2 es ws e2 n2 r2 =>
     rw[Og,hl] at h;exact lists p p2 ds es rfl rfl hl rfl h
    |@ref n' p2 e2 =>
     cases hl2:MW.asList M (.ref n') with
     |none=>rw[Ff,hl,hl2] at h;cases h|some es=>exact lists p p2 ds es rfl rfl hl hl2 (by rw[Ff,hl,hl2] at h;exact h)
    |_=>rw[Kr (λ_ e=>by cases e) (λ_ e=>by cases e)] at h;cases h
inductive aby(A:Around)(s:Shared):Value->Value->Bool->Prop
 |tups {p p2:Addr} {is js:Array Value} (e:Nat->Bool) (h1:s.heap.IsTuple p is) (h2:s.heap.IsTuple p2 js) (he:∀j (h1:j<is.size) (h2:j<js.size),SeqAt.EqAt A.in1 s is[j] js[j] (e j)):aby A s (.ref p) (.ref p2) ((List.range (min is.size js.size)).all e&&is.size==js.size)
 |a5e {p p2:Addr} {is js:Array Value} (e:Nat->Bool) (h1:s.heap.IsList p is) (h2:s.heap.IsList p2 js) (hz:is.size=js.size) (he:∀j (h1:j<is.size) (h2:j<js.size),SeqAt.EqAt A.in1 s is[j] js[j] (e j)):aby A s (.ref p) (.ref p2) ((List.range is.size).all e)
 |lens {p p2:Addr} {is js:Array Value} (h1:s.heap.IsList p is) (h2:s.heap.IsList p2 js) (hz:(is.size != js.size)=true):aby A s (.ref p) (.ref p2) false
theorem aan{A:Around}(I:Inv X pins σ H s)(S:kh nm X.K ι H M)(hr:zj k A.in1){es:List Dv}(rd:kj X.K ι H ds vs)(re:kj X.K ι H es ws)(rvs:Vals vs is)(rws:Vals ws js)(he:MW.Ov (MW.Hd M k) ds es=some rr) :
 ∀j (h1:j<is.toArray.size) (h2:j<js.toArray.size),SeqAt.EqAt A.in1 s is.toArray[j] js.toArray[j] (Ke (MW.Hd M k) ds es j):=λj h1 h2=>by
 have l1:j<ds.length:=by rw[rd.length,rvs.length];simpa using h1
 have l2:j<es.length:=by rw[re.length,rws.length];simpa using h2
 have g1:ds[j]?=some ds[j]:=by simp[l1]
 have g2:es[j]?=some es[j]:=by simp[l2]
 obtain⟨c,hc⟩:=(Kw he).1 j _ _ g1 g2;obtain⟨va,a1,a2⟩:=rd.get g1;obtain⟨wa,b1,b2⟩:=re.get g2;have q1:is[j]?=some is.toArray[j]:=by simp
 have q2:js[j]?=some js.toArray[j]:=by simp
 have:=Yb I S k A.in1 _ _ va wa _ _ c hr a2 b2 (Vals.aee rvs a1 q1) (Vals.aee rws b1 q2) hc;have z:Ke (MW.Hd M k) ds es j=c:=by simp[Ke,g1,g2,hc]
 rw[z];exact this
theorem Oh{es:List Dv}(I:Inv X pins σ H s)(S:kh nm X.K ι H M)(hr:zj k A.in1)(rx:Rep X.K ι H x v)(ry:Rep X.K ι H y u)(rv:RelV v v')(ru:RelV u u')(h1:MW.asList M x=some ds)(h2:MW.asList M y=some es)(h3:(if ds.length=es.length then MW.Ov (MW.Hd M k) ds es else some false)=some r):aby A s v' u' r:=by
 obtain⟨p,vs,rfl,g1,g2⟩:=uw S rx h1;obtain⟨p2,ws,rfl,g3,g4⟩:=uw S ry h2;cases rv;cases ru;obtain⟨is,r1,pl1,_⟩:=I.list (Jv.of g1);obtain⟨js,r2,pl2,_⟩:=I.list (Jv.of g3)
 by_cases hl:ds.length=es.length
 . rw[cu hl] at h3
   have hsz:is.toArray.size=js.toArray.size:=by simp[<- r1.length,<- r2.length,<- g2.length,<- g4.length,hl]
   have z:=aby.a5e (A:=A) (Ke (MW.Hd M k) ds es) pl1.isList pl2.isList hsz (aan I S hr g2 g4 r1 r2 h3);rw[(Kw h3).2];have e1:is.toArray.size=min ds.length es.length:=by simp[<- r1.length,<- g2.length,hl]
   rw[e1] at z;simpa[hl] using z
 . rw[bz hl] at h3
   cases h3;exact .lens pl1.isList pl2.isList (by simp[<- r1.length,<- r2.length,<- g2.length,<- g4.length,hl])
set_option tactic.hygienic true in
theorem aef(I:Inv X pins σ H s)(S:kh nm X.K ι H M)(hr:zj k A.in1)(rx:Rep X.K ι H x v)(ry:Rep X.K ι H y u)(rv:RelV v v')(ru:RelV u u')(h:MW.Hd M (k+1) x y=some r)(hnd:MW.Z6 M x=false) :
 aby A s v' u' r\/(axr v u=true/\r=decide (v=u)):=by
 cases rx with
 |non=>(cases ry<;>first|cases h|(rw[Aa (λ_ e=>by cases e) (λ_ e=>by cases e)] at h;cases h));exact .inr ⟨rfl,by simp⟩
 |bl b=>(cases ry<;>first|cases h|(rw[Aa (λ_ e=>by cases e) (λ_ e=>by cases e)] at h;cases h));exact .inr ⟨rfl,by rename_i b2;by_cases z:b=b2<;>simp[z]⟩
 |int i=>(cases ry<;>first|cases h|(rw[Aa (λ_ e=>by cases e) (λ_ e=>by cases e)] at h;cases h));exact .inr ⟨rfl,by rename_i j;by_cases z:i=j<;>simp[z]⟩
 |str z=>(cases ry<;>first|cases h|(rw[Aa (λ_ e=>by cases e) (λ_ e=>by cases e)] at h;cases h));exact .inr ⟨rfl,by rename_i j;by_cases q:z=j<;>simp[q]⟩
 |@tup p ds vs e1 r1 =>
  cases ry with
  |@tup p2 es ws e2 r2 =>
   cases rv;cases ru;have h:MW.Ov (MW.Hd M k) ds es=some r:=h;obtain⟨is,g1,pl1,_⟩:=I.tuple (Ml.of e1);obtain⟨js,g2,pl2,_⟩:=I.tuple (Ml.of e2);have z:=aby.tups (A:=A) (Ke (MW.Hd M k) ds es) (show s.heap.IsTuple p is.toArray from pl1) (show s.heap.IsTuple p2 js.toArray from pl2) (aan I S hr r1 r2 g1 g2 h);rw[(Kw h).2];have z1:is.toArray.size=ds.length:=by simp[<- g1.length,<- r1.length]
   have z2:js.toArray.size=es.length:=by simp[<- g2.length,<- r2.length]
   rw[z1,z2] at z;exact .inl z
  |@ref n _ e2=>rw[Aa (λ_ e=>by cases e) (λ_ e=>by cases e)] at h;cases h
  |_=>cases h
 |@vl p ds vs e1 n1 r1 =>
  cases ry with
  |@vl p2 es ws e2 n2 r2=>exact .inl (Oh I S hr (.vl e1 n1 r1) (.vl e2 n2 r2) rv ru rfl rfl h)
  |@ref n p2 e2 =>
   rw[X3] at h;cases hl:MW.asList M (.ref n) with
   |none=>rw[hl] at h;cases h|some es=>rw[hl] at h;exact .inl (Oh I S hr (.vl e1 n1 r1) (.ref e2) rv ru rfl hl h)
  |_=>cases h
 |fz e1 r1 =>
  cases ry with
  |@ref n _ e2=>rw[Aa (λ_ e=>by cases e) (λ_ e=>by cases e)] at h;cases h
  |_=>cases h
 |@ref n p e1 =>
  cases hl:MW.asList M (.ref n) with
  |none =>
   cases ry with
   |@ref n' p2 e2 =>
    rw[Ff,hl] at h;cases hl2:MW.asList M (.ref n') with
    |some es=>rw[hl2] at h;cases h
    |none =>
     rw[hl2] at h;obtain⟨ka,kb,m1,_⟩:=Vk h;simp[MW.Z6,m1] at hnd
   |@vl p2 es ws e2 n2 r2=>rw[Og,hl] at h;cases h|_=>rw[Kr (λ_ e=>by cases e) (λ_ e=>by cases e)] at h;cases h
  |some ds =>
   cases ry with
   |@vl p2 es ws e2 n2 r2 =>
    rw[Og,hl] at h;exact .inl (Oh I S hr (.ref e1) (.vl e2 n2 r2) rv ru hl rfl h)
   |@ref n' p2 e2 =>
    cases hl2:MW.asList M (.ref n') with
    |none=>rw[Ff,hl,hl2] at h;cases h|some es=>exact .inl (Oh I S hr (.ref e1) (.ref e2) rv ru hl hl2 (by rw[Ff,hl,hl2] at h;exact h))
   |_=>rw[Kr (λ_ e=>by cases e) (λ_ e=>by cases e)] at h;cases h
theorem aby.rc(h:aby A s v u r)(hu:A.units<cLine):SeqAt.RcAt A s v u r/\SeqAt.RcNeAt A s v u (!r):=by
 cases h with
 |tups e h1 h2 he=>exact⟨SeqAt.RcAt.tuples h1 h2 hu he,SeqAt.RcNeAt.tuples h1 h2 hu he⟩|a5e e h1 h2 hz he=>exact⟨SeqAt.RcAt.lists h1 h2 hz hu he,SeqAt.RcNeAt.lists h1 h2 hz hu he⟩|lens h1 h2 hz=>exact⟨Bg h1 h2 hz hu,SeqAt.RcNeAt.lists_lengths h1 h2 hz hu⟩
theorem bab(hr:zj 6 X.A):Ge X (compareOp .Eq) (Y9 nm X.K .eq):=λpins s σ H v u v' u' Q I rv ru hh=>by
 obtain⟨ι,M,x,y,b,S,rx,ry,e,q⟩:=hh;obtain⟨hnd,e⟩:=Tf (show MW.xx M x y=some b from e);rcases aef (A:=X.A) I S hr.in1 rx ry rv ru e hnd with h|⟨h1,h2⟩
 . exact(h.rc hr.Vc).1 X.prog X.w X.xe _ ⟨.bl b,H,I,rfl,q⟩
 . subst h2
   exact a1o pins s σ H v u v' u' Q I rv ru ⟨h1,q⟩
theorem bac(hr:zj 6 X.A):Ge X (compareOp .NotEq) (Y9 nm X.K .ne):=λpins s σ H v u v' u' Q I rv ru hh=>by
 obtain⟨ι,M,x,y,b,S,rx,ry,e,q⟩:=hh;obtain⟨b',e1,e2⟩:=bx.mp (show(MW.xx M x y).map not=some b from e);subst e2;obtain⟨hnd,e1⟩:=Tf e1;rcases aef (A:=X.A) I S hr.in1 rx ry rv ru e1 hnd with h|⟨h1,h2⟩
 . exact(h.rc hr.Vc).2 X.prog X.w X.xe _ ⟨.bl !b',H,I,rfl,q⟩
 . subst h2
   exact a1p pins s σ H v u v' u' Q I rv ru ⟨h1,q⟩
end
section
variable{nm:Nm}{W:Dy}{X:Cx}{a b c o:Expr}{a' b' c' o':Ex}{pos pos' apos:Pos}{ι:Io}{H:Hp}{σ:St}{ρ:En}{M M1 M2:Store}{x y:Dv}{es:List Expr}{es':Dr}
set_option tactic.hygienic true in
theorem Hc:∀{ds:List Dv}{bs:List Bool},MW.Rq M x ds=some bs->bs.length=ds.length/\∀(j:Nat) d,ds[j]?=some d->∃b,bs[j]?=some b/\MW.xx M d x=some b
 |[],bs,h=>by cases h;exact⟨rfl,λj d e=>by simp at e⟩
 |y::ys,bs,h=>by
  simp only[MW.Rq] at h;split at h
  . rename_i a b h1 h2
    cases h;obtain⟨g1,g2⟩:=Hc h2;refine⟨by simp[g1],λj d e=>?_⟩;cases j with
    |zero=>simp at e;subst e;exact⟨a,rfl,h1⟩|succ j=>simpa using g2 j d (by simpa using e)
  . cases h
theorem Kl(I:Inv X pins σ H s)(e:aga X.K H p vs):(∃o,H p=some (.Py o (.lst vs)))\/(H p=none/\∃(o:Obj)(its:Array Value)(n:Nat),X.K.lookup p=some o/\o.data=.seq its n/\Vals vs its.toList):=by
 rcases e with h|⟨o,its,n,h1,_,_,h2,_,h3⟩
 . exact .inl h
 . exact .inr ⟨(I.bs p o (I.mod.kin p o h1)).2,o,its,n,h1,h2,h3⟩
theorem ay9(I:Inv X pins σ H s)(e:aga X.K H p vs)(e2:aga X.K H p ws):vs=ws:=by
 rcases Kl I e with⟨o,h⟩|⟨h,o,its,n,h1,h2,h3⟩
 . rcases Kl I e2 with⟨o',h'⟩|⟨h',_⟩
   . rw[h] at h';cases h';rfl
   . rw[h] at h';cases h'
 . rcases Kl I e2 with⟨o',h'⟩|⟨_,o',its',n',h1',h2',h3'⟩
   . rw[h] at h';cases h'
   . rw[h1] at h1';cases h1'
     rw[h2] at h2';cases h2';exact Vals.inj h3 h3'
mutual
theorem ah2{pins:List (Addr×Obj)}{s:Shared}(I:Inv X pins σ H s)(S:kh nm X.K ι H M):∀{d d':Dv}{v:V},Rep X.K ι H d v->Rep X.K ι H d' v->d=d'
 |_,_,_,.non,r=>by cases r;rfl|_,_,_,.bl b,r=>by cases r;rfl|_,_,_,.int i,r=>by cases r;rfl|_,_,_,.str z,r=>by cases r;rfl
 |_,_,_,.tup e1 r1,r=>by
  cases r with
  |tup e2 r2 =>
   rw[e1] at e2;cases e2;rw[Uq I S r1 r2]
  |vl e2 n2 r2=>rw[e1] at e2;cases e2
  |fz e2 r2 =>
   rcases Kl I e2 with⟨o,h⟩|⟨h,_⟩
   . rw[e1] at h;cases h
   . rw[e1] at h;cases h
  |ref e2 =>
   obtain⟨u,q,mu⟩:=S.mem (az e2);rw[e1] at mu;exact mu.elim
 |_,_,_,.vl e1 n1 r1,r=>by
  cases r with
  |tup e2 r2=>rw[e1] at e2;cases e2
  |vl e2 n2 r2 =>
   rw[e1] at e2;cases e2;rw[Uq I S r1 r2]
  |fz e2 r2 =>
   rcases Kl I e2 with⟨o,h⟩|⟨h,_⟩
   . rw[e1] at h;cases h
   . rw[e1] at h;cases h
  |ref e2=>exact absurd (az e2) n1.1
 |_,_,_,.fz e1 r1,r=>by
  cases r with
  |tup e2 r2 =>
   rcases Kl I e1 with⟨o,h⟩|⟨h,_⟩
   . rw[e2] at h;cases h
   . rw[e2] at h;cases h
  |vl e2 n2 r2 =>
   rcases Kl I e1 with⟨o,h⟩|⟨h,_⟩
   . rw[e2] at h;cases h
   . rw[e2] at h;cases h
  |fz e2 r2 =>
   have:=ay9 I e1 e2;subst this;rw[Uq I S r1 r2]
  |ref e2 =>
   obtain⟨u,q,mu⟩:=S.mem (az e2);rcases Kl I e1 with⟨o,h⟩|⟨h,_⟩
   . rw[h] at mu;exact mu.elim
   . rw[h] at q;cases q
 |_,_,_,.ref e1,r=>by
  cases r with
  |tup e2 r2 =>
   obtain⟨u,q,mu⟩:=S.mem (az e1);rw[e2] at mu;exact mu.elim
  |vl e2 n2 r2=>exact absurd (az e1) n2.1
  |fz e2 r2 =>
   obtain⟨u,q,mu⟩:=S.mem (az e1);rcases Kl I e2 with⟨o,h⟩|⟨h,_⟩
   . rw[h] at mu;exact mu.elim
   . rw[h] at q;cases q
  |ref e2 =>
   obtain⟨l1,q1⟩:=ak.mp e1;obtain⟨l2,q2⟩:=ak.mp e2;rw[(qz S.nd).mp (q1.trans q2.symm)]
theorem Uq{pins:List (Addr×Obj)}{s:Shared}(I:Inv X pins σ H s)(S:kh nm X.K ι H M):∀{ds ds':List Dv}{vs:List V},kj X.K ι H ds vs->kj X.K ι H ds' vs->ds=ds'
 |_,_,_,.nil,r=>by cases r;rfl
 |_,_,_,.cons h t,r=>by
  cases r with
  |cons h2 t2=>rw[ah2 I S h h2,Uq I S t t2]
end
theorem Rg(I:Inv X pins σ H s)(S:kh nm X.K ι H M)(hr:zj 6 A)(rd:kj X.K ι H ds vs)(rv:Vals vs is)(rx:Rep X.K ι H x u)(ru:RelV u u')(h:MW.Rq M x ds=some bs):∃e:Value->Bool,(∀w,w∈is.toArray->SeqAt.EqAt A s w u' (e w))/\∀(j:Nat)(w:Value),is[j]?=some w->bs[j]?=some (e w):=by
 obtain⟨g1,g2⟩:=Hc h;have at':∀(j:Nat)(w:Value),is[j]?=some w->∃b,bs[j]?=some b/\SeqAt.EqAt A s w u' b:=λj w hw=>by
  have lj:j<ds.length:=by rw[rd.length,rv.length];exact(ak.mp hw).1
  have gd:ds[j]?=some ds[j]:=by simp[lj]
  obtain⟨b,e1,e2⟩:=g2 j _ gd;obtain⟨v,a1,a2⟩:=rd.get gd;exact⟨b,e1,Yb I S 6 A _ _ v u w u' b hr a2 rx (Vals.aee rv a1 hw) ru (Tf e2).2⟩
 classical
 refine⟨λw=>if hw:∃j:Nat,is[j]?=some w then(bs[hw.choose]?).getD false else false,λw hw=>?_,λj w hw=>?_⟩
 . obtain⟨j,hj,e⟩:=uc (by simpa using hw:w∈is)
   have hex:∃j:Nat,is[j]?=some w:=⟨j,by simp[hj,e]⟩;obtain⟨b,e1,e2⟩:=at' hex.choose w hex.choose_spec;simp only[dif_pos hex,e1,ym];exact e2
 . have hex:∃j:Nat,is[j]?=some w:=⟨j,hw⟩
   obtain⟨b,e1,e2⟩:=at' j w hw;obtain⟨b',e3,e4⟩:=at' hex.choose w hex.choose_spec;simp only[dif_pos hex,e3,ym];rw[e1]
   congr 1
   have lj:j<ds.length:=by rw[rd.length,rv.length];exact(ak.mp hw).1
   have lk:hex.choose<ds.length:=by rw[rd.length,rv.length];exact(ak.mp hex.choose_spec).1
   have gd:ds[j]?=some ds[j]:=by simp[lj]
   have gk:ds[hex.choose]?=some ds[hex.choose]:=by simp[lk]
   obtain⟨c1,q1,q2⟩:=g2 j _ gd;obtain⟨c2,q3,q4⟩:=g2 hex.choose _ gk;obtain⟨v1,p1,p2⟩:=rd.get gd;obtain⟨v2,p3,p4⟩:=rd.get gk;have hv:v1=v2:=RelV.inj (Vals.aee rv p1 hw) (Vals.aee rv p3 hex.choose_spec);subst hv;rw[e1] at q1;rw[e3] at q3;cases q1;cases q3;have hd:=ah2 I S p2 p4;rw[hd,q4] at q2;exact(ie q2).symm
theorem Xa{is:List Value}{bs:List Bool}(hl:bs.length=is.length)(h:∀(j:Nat) (w:Value),is[j]?=some w->bs[j]?=some (e w)):bs=is.map e:=by
 apply Bs;intro j;rw[jk];cases q:is[j]? with
 |none=>rw[qm (by rw[hl];exact List.getElem?_eq_none_iff.mp q)];rfl|some w=>rw[h j w q];rfl
set_option tactic.hygienic true in
theorem bae(hr:zj 8 X.A):Ge X (compareOp .In) (Y9 nm X.K .inn):=λpins s σ H v u v' u' Q I rv ru hh=>by
 obtain⟨ι,M,x,y,b,S,rx,ry,e,q⟩:=hh;have e:MW.Ub M x y=some b:=e;have hu:X.A.units+1<cLine:=ado hr
 have seq:∀ds,MW.yq M y=some ds->MW.memD M x ds=some b->wpAny (model X.prog X.w) X.A (compareOp .In v' u') (EP X pins σ Q) X.xe s:=λds h1 h2=>by
  obtain⟨bs,e1,e2⟩:=bx.mp (show(MW.Rq M x ds).map (·.any id)=some b from h2);obtain⟨p,vs,rfl,hp,r⟩:=Il S ry h1;cases ru;rcases hp with hp|hp
  . obtain⟨is,r1,pl,_⟩:=I.list (Jv.of hp)
    obtain⟨f,g1,g2⟩:=Rg (A:=X.A.in1) I S ((hr.mono (by decide:7<=8)).in1) r r1 rx rv e1;refine SeqAt.in_listAt f pl.isList g1 ?_;have:=Xa (by rw[(Hc e1).1,r.length,r1.length]) g2;rw[this] at e2;rw[show is.toArray.any f=b by rw[<- e2];simp[Gy]];exact⟨.bl b,H,I,rfl,q⟩
  . obtain⟨is,r1,pl,_⟩:=I.tuple (Ml.of hp)
    obtain⟨f,g1,g2⟩:=Rg (A:=X.A.in1) I S ((hr.mono (by decide:7<=8)).in1) r r1 rx rv e1;refine SeqAt.in_tupleAt f (show s.heap.IsTuple p is.toArray from pl) g1 ?_;have:=Xa (by rw[(Hc e1).1,r.length,r1.length]) g2;rw[this] at e2;rw[show is.toArray.any f=b by rw[<- e2];simp[Gy]];exact⟨.bl b,H,I,rfl,q⟩
 cases ry with
 |@ref n p e1 =>
  simp only[MW.Ub] at e;split at e
  . rename_i kvs hM
    obtain⟨k,e2,e3⟩:=bx.mp e;obtain⟨l,h1,h2⟩:=S.obj n _ p hM e1;obtain⟨bb,rfl,hb⟩:=Vj rx e2;cases ru;refine a2k hu I (Pr.t h1 hb) rv λs' I'=>⟨.bl b,H,I',?_,q⟩
    rw[<- e3];cases hk:MW.Bf kvs k with
    |none=>rw[(h2.look (k:=k)).2 hk];rfl|some d=>obtain⟨z,h3,_⟩:=(h2.look (k:=k)).1 d hk;rw[h3];rfl
  . rename_i kvs hM
    obtain⟨k,e2,e3⟩:=bx.mp e;obtain⟨l,h1,h2⟩:=S.obj n _ p hM e1;have hy:=Vi rx e2;subst hy;cases ru;refine a2k hu I (Pr.k h1) rv λs' I'=>⟨.bl b,H,I',?_,q⟩
    rw[<- e3];cases hk:MW.Bf kvs k with
    |none=>rw[(h2.look (k:=k)).2 hk];rfl|some d=>obtain⟨z,h3,_⟩:=(h2.look (k:=k)).1 d hk;rw[h3];rfl
  . obtain⟨ds,h1,h2⟩:=dg.mp e
    exact seq ds h1 h2
 |_ =>
  simp only[MW.Ub] at e;obtain⟨ds,h1,h2⟩:=dg.mp e;exact seq ds h1 h2
set_option tactic.hygienic true in
theorem as3(hr:zj 8 X.A):Ge X (compareOp .NotIn) (Y9 nm X.K .V9):=λpins s σ H v u v' u' Q I rv ru hh=>by
 obtain⟨ι,M,x,y,b0,S,rx,ry,e,q⟩:=hh;obtain⟨b,e',eb⟩:=bx.mp (show(MW.Ub M x y).map not=some b0 from e);subst eb;have hu:X.A.units+1<cLine:=ado hr
 have seq:∀ds,MW.yq M y=some ds->MW.memD M x ds=some b->wpAny (model X.prog X.w) X.A (compareOp .NotIn v' u') (EP X pins σ Q) X.xe s:=λds h1 h2=>by
  obtain⟨bs,e1,e2⟩:=bx.mp (show(MW.Rq M x ds).map (·.any id)=some b from h2);obtain⟨p,vs,rfl,hp,r⟩:=Il S ry h1;cases ru;rcases hp with hp|hp
  . obtain⟨is,r1,pl,_⟩:=I.list (Jv.of hp)
    obtain⟨f,g1,g2⟩:=Rg (A:=X.A.in1) I S ((hr.mono (by decide:7<=8)).in1) r r1 rx rv e1;refine SeqAt.notIn_listAt f pl.isList g1 ?_;have:=Xa (by rw[(Hc e1).1,r.length,r1.length]) g2;rw[this] at e2;rw[show is.toArray.any f=b by rw[<- e2];simp[Gy]];exact⟨.bl !b,H,I,rfl,q⟩
  . obtain⟨is,r1,pl,_⟩:=I.tuple (Ml.of hp)
    obtain⟨f,g1,g2⟩:=Rg (A:=X.A.in1) I S ((hr.mono (by decide:7<=8)).in1) r r1 rx rv e1;refine SeqAt.notIn_tupleAt f (show s.heap.IsTuple p is.toArray from pl) g1 ?_;have:=Xa (by rw[(Hc e1).1,r.length,r1.length]) g2;rw[this] at e2;rw[show is.toArray.any f=b by rw[<- e2];simp[Gy]];exact⟨.bl !b,H,I,rfl,q⟩
 cases ry with
 |@ref n p e1 =>
  clear e;simp only[MW.Ub] at e';split at e'
  . rename_i kvs hM
    obtain⟨k,e2,e3⟩:=bx.mp e';obtain⟨l,h1,h2⟩:=S.obj n _ p hM e1;obtain⟨bb,rfl,hb⟩:=Vj rx e2;cases ru;refine ahi hu I (Pr.t h1 hb) rv λs' I'=>⟨.bl !b,H,I',?_,q⟩
    rw[<- e3];cases hk:MW.Bf kvs k with
    |none=>rw[(h2.look (k:=k)).2 hk];rfl|some d=>obtain⟨z,h3,_⟩:=(h2.look (k:=k)).1 d hk;rw[h3];rfl
  . rename_i kvs hM
    obtain⟨k,e2,e3⟩:=bx.mp e';obtain⟨l,h1,h2⟩:=S.obj n _ p hM e1;have hy:=Vi rx e2;subst hy;cases ru;refine ahi hu I (Pr.k h1) rv λs' I'=>⟨.bl !b,H,I',?_,q⟩
    rw[<- e3];cases hk:MW.Bf kvs k with
    |none=>rw[(h2.look (k:=k)).2 hk];rfl|some d=>obtain⟨z,h3,_⟩:=(h2.look (k:=k)).1 d hk;rw[h3];rfl
  . obtain⟨ds,h1,h2⟩:=dg.mp e'
    exact seq ds h1 h2
 |_ =>
  simp only[MW.Ub] at e';obtain⟨ds,h1,h2⟩:=dg.mp e';exact seq ds h1 h2
end
open Za (Gp Vo)
def KH(H:Hp)(x:List Key×Addr):Prop:=H x.2=some (.tup (x.1.map kV))/\∀k∈x.1,∃i,k=.inl i
theorem aeg(P:Program)(w:World)(H:Hp):Za.Vn (iu P w) (KH H):=λx hx k hk v n hv=>by
 obtain⟨i,rfl⟩:=hx.2 k hk;rcases An (show Xf (Sum.inl i) v=true from hv) with⟨j,t,e,rfl⟩|⟨y,t,e,_⟩
 . unfold hashByValue;rfl
 . cases e
section
variable{nm:Nm}{W:Dy}{X:Cx}{a b c o:Expr}{a' b' c' o':Ex}{pos pos' apos:Pos}{ι:Io}{H:Hp}{σ:St}{ρ:En}{M M1 M2:Store}{x y:Dv}{es:List Expr}{es':Dr}
theorem Vq:∀ks:List Kx,MW.Tc (MW.ami ks)=some ks:=λks=>by
 show MW.abh (ks.map MW.amh)=some ks
 induction ks with
 |nil=>rfl|cons k ks ih=>cases k<;>simp[MW.abh,MW.amh,MW.Ve,ih]
theorem Yc:∀{l:List (List Kx×Dv)},MW.Hj (l.map λp=>MW.ami p.1)=some (l.map (·.1))
 |[]=>rfl|p::l=>by simp[MW.Hj,Vq,Yc]
set_option tactic.hygienic true in
theorem ah3{K:Fg}:∀{ds:List Dv}{vs:List V}{ks:List (List Kx)},kj K ι H ds vs->MW.Hj ds=some ks->∃bs:List Addr,vs=bs.map V.ref/\bs.length=ks.length/\∀x∈ks.zip bs,H x.2=some (.tup (x.1.map kV))
 |_,_,_,.nil,h=>by simp[MW.Hj] at h;subst h;exact⟨[],rfl,rfl,by simp⟩
 |_,_,_,.cons r t,h=>by
  simp only[MW.Hj] at h;split at h
  . rename_i k ks' h1 h2
    cases h;obtain⟨b,rfl,e⟩:=Vj r h1;obtain⟨bs,rfl,hl,hz⟩:=ah3 t h2;refine⟨b::bs,rfl,by simp[hl],λx hx=>?_⟩;simp only[List.zip_cons_cons,bw] at hx;rcases hx with rfl|hx
    . exact e
    . exact hz x hx
  . cases h
theorem aj6(h:MW.Hk ks=true):ks.length<=30/\∀k∈ks,∀x∈k,∃i,x=Sum.inl i:=by
 simp only[MW.Hk,aq,di,jg] at h;refine⟨h.1,λk hk x hx=>?_⟩;have:=h.2 k hk x hx;cases x with
 |inl i=>exact⟨i,rfl⟩|inr s=>cases this
set_option tactic.hygienic true in
theorem aoa(hr:zj 8 X.A)(I:Inv X pins σ H s)(S:kh nm X.K ι H M)(rx:Rep X.K ι H x v)(ru:RelV v u)(hk:MW.keysOf M x=some ds)(hd:MW.Hj ds=some ks)(pl:MW.Hk ks=true)(h:∀p o n s',Inv X ((p,o)::pins) σ H s'->Gp (iu X.prog X.w) (KH H) s'.heap p (λk=>k∈ks) n->s'.heap.get? p=some o->Q (.ref p) s') :
 wpAny (model X.prog X.w) X.A (call (.type "set") [u]) Q X.xe s:=by
 obtain⟨hlen,hint⟩:=aj6 pl;have hu:X.A.in1.in1.in1.units+1<cLine:=by have:=hr.un;show X.A.units+1+1+1+1<cLine;lia
 have kept:∀b o,s.heap.get? b=some o->(s.heap.push (Za.Aj X.w)).get? b=some o:=λb o e=>ao _ e
 have I1:Inv X pins σ H { s with heap:=s.heap.push (Za.Aj X.w) }:=I.kept (t':=s.toks) kept;have fr:Gp (iu X.prog X.w) (KH H) (s.heap.push (Za.Aj X.w)) s.heap.objs.size (λ_=>False) 0:=Za.asv (bf _ rfl);have fin:∀(h':Heap)(tk n':Nat),(∀b o,b≠s.heap.objs.size->(s.heap.push (Za.Aj X.w)).get? b=some o->h'.get? b=some o)->Gp (iu X.prog X.w) (KH H) h' s.heap.objs.size (λk=>k∈ks) n'->Q (.ref s.heap.objs.size) { s with heap:=h',toks:=tk }:=λh' tk n' hkp hS=>by
  have I2:Inv X pins σ H { s with heap:=h',toks:=tk }:=I.kept λb o e=>hkp b o (dj (au e)) (kept b o e)
  obtain⟨o,es,ep,t,hg,hc,hdt,_⟩:=hS.get;refine h _ o n' _ (I2.T4 λq hq=>?_) hS hg;rcases bw.mp hq with rfl|hq
  . refine⟨hg,I.hok.fresh (bc _),vf I.lt,I.awv (bc _),λv hv=>?_⟩
    rw[show o.data=_ from hdt] at hv;cases hv
  . exact I2.pin q (gw _ hq)
 have lst:∀p vs,v=.ref p->H p=some (.lst vs)->kj X.K ι H ds vs->wpAny (model X.prog X.w) X.A (call (.type "set") [u]) Q X.xe s:=λp vs ev hp r=>by
  subst ev;cases ru;obtain⟨is,rv,pll,_⟩:=I1.list (Jv.of hp);obtain⟨bs,rfl,hbl,hz⟩:=ah3 r hd;have his:is=(ks.zip bs).map λx=>Value.ref x.2:=by
   apply Bs;intro j;rw[jk]
   by_cases hj:j<bs.length
   . have e1:(bs.map V.ref)[j]?=some (.ref bs[j]):=by simp[hj]
     have hj2:j<is.length:=by have:=rv.length;simp at this;exact b_ hj (f_ this)
     have e2:is[j]?=some is[j]:=by simp[hj2]
     have:=Vals.aee rv e1 e2;rw[e2,show is[j]=Value.ref bs[j] from this];have hj3:j<ks.length:=b_ hj (f_ hbl)
     have hz2:(ks.zip bs)[j]?=some (ks[j],bs[j]):=by rw[cz (by simp;lia)];simp
     rw[hz2];rfl
   . have hj2:¬j<is.length:=by have:=rv.length;simp at this;exact j_ (a_ (g_ this) (s_ hj))
     rw[qm (s_ hj2),qm (by simp;lia)];rfl
  refine Za.Ql (R:=λs'=>Q (.ref s.heap.objs.size) s') ?_ λs' h=>h
  refine Za.anr (aeg _ _ H) (ks:=ks.zip bs) (items:=is.toArray) (by have:=hr.hd;exact this) hu fr pll.isList (by simpa using his) (λx hx=>Qd I1.hok (hz x hx)) (λx hx=>⟨hz x hx,λk hk=>hint x.1 (Di (a:=x.1) (b:=x.2) hx).1 k hk⟩) (by simp;lia) λh' tk n' hkp hS=>?_
  refine fin h' tk n' hkp (hS.congr λk=>?_);rw[List.map_fst_zip (g_ hbl)]
 unfold MW.keysOf at hk;split at hk
 . rename_i n
   split at hk
   . rename_i kvs hM
     cases hk;rw[Yc] at hd;cases hd;cases rx with
     |@ref n p e1 =>
      obtain⟨l,h1,h2⟩:=S.obj n _ p hM e1;cases ru;obtain⟨_,hsm,xs,rel,dd⟩:=adl I1.hok h1;obtain⟨k1,k2⟩:=Um rel;have k3:xs.map (·.1)=kvs.map (·.1):=k1.trans (Ir h2);have hl:xs.length=kvs.length:=by have:=m6 List.length k3;simpa using this
      refine Za.Ql (R:=λs'=>Q (.ref s.heap.objs.size) s') ?_ λs' h=>h
      refine Za.anq (aeg _ _ H) (by have:=hr.un;show X.A.units+1+1<cLine;lia) fr dd hsm (λx hx=>⟨k2 x hx,λk hk=>?_⟩) (by simp at hlen;lia) λh' n' sb hS=>?_
      . have:x.1∈kvs.map (·.1):=by rw[<- k3];exact bu.mpr ⟨x,hx,rfl⟩
        exact hint x.1 this k hk
      . refine fin h' s.toks n' (λb o hb e=>(sb.2 b hb).trans e) (hS.congr λk=>?_)
        rw[k3];simp
   . obtain⟨p,vs,e1,e2,r⟩:=uw S rx hk
     exact lst p vs e1 e2 r
 . obtain⟨p,vs,e1,e2,r⟩:=uw S rx hk
   exact lst p vs e1 e2 r
theorem a5f{o:Obj}(hS:Gp (iu P w) (KH H) h p T n)(hg:h.get? p=some o)(hg':h'.get? p=some o)(le:∀a vs,H a=some (.tup vs)->H' a=some (.tup vs))(ok:Rx P w H' h'):Gp (iu P w) (KH H') h' p T n:=by obtain⟨xs,o',es,ep,t,D,r⟩:=hS;have e:o'=o:=ie (D.get.symm.trans hg);subst e;refine⟨xs,o',es,ep,t,⟨hg',D.exa,D.dat,D.tab,D.ent,λx hx=>?_,D.nod,D.led,D.pla⟩,r⟩;obtain⟨_,k1,k2⟩:=D.keys x hx;exact⟨Qd ok (le _ _ k1),le _ _ k1,k2⟩
theorem aeh:MW.Ls xs ys=true↔∀k,k∈xs↔k∈ys:=by
 simp only[MW.Ls,aq,jg,Cj,di];constructor
 . rintro⟨h1,h2⟩ k
   exact⟨λh=>by obtain⟨y,hy,e⟩:=h1 k h;rw[<- e];exact hy,λh=>by obtain⟨y,hy,e⟩:=h2 k h;rw[<- e];exact hy⟩
 . exact λh=>⟨λx hx=>⟨x,(h x).mp hx,rfl⟩,λy hy=>⟨y,(h y).mpr hy,rfl⟩⟩
set_option tactic.hygienic true in
theorem as4(hr:zj 8 X.A)(hg:Gl X xn)(hm:X.mg xn=none)(hv:bootBuiltins xn=some (.type "set"))(hn:xn≠"__name__")(hdb:(xn==("__debug__" : Str))=false)(ha:PA X [a] (W4 nm W X.K (.cons a' .nil)))(hb:PA X [b] (W4 nm W X.K (.cons b' .nil)))(he:starEach [a] X.env=(false,eval a X.env)::starEach [] X.env)(he2:starEach [b] X.env=(false,eval b X.env)::starEach [] X.env)(hpl:(backTo q1 (starEach [] X.env)).any (·.1)=false)(agl:(backTo q2 (starEach [] X.env)).any (·.1)=false) :
 PC X .NotEq (.Call (.Name xn p1) [a] [] q1) (.Call (.Name xn p2) [b] [] q2) (tE nm W X.K (.Xk a' b')):=by
 intro pins s σ H Q I hh;obtain⟨ι,ρ,M,d,M',S,R,e,q⟩:=hh;rw[MW.Z7] at e;obtain⟨x,M1,e1,e⟩:=dm e;cases hk1:(MW.keysOf M1 x).bind MW.Hj with
 |none=>rw[hk1] at e;cases e
 |some ks =>
  rw[hk1] at e;simp only at e;split at e
  . rename_i pl1
    obtain⟨y,M2,e2,e⟩:=dm e;cases hk2:(MW.keysOf M2 y).bind MW.Hj with
    |none=>rw[hk2] at e;cases e
    |some ls =>
     rw[hk2] at e;simp only at e;split at e
     . rename_i pl2
       cases e;obtain⟨ds1,g1,g1'⟩:=dg.mp hk1;obtain⟨ds2,g2,g2'⟩:=dg.mp hk2;refine ik (G8 I hg hm hv ?_ hn hdb);refine iw (Bp (ha q1 pins s σ H (λvs H1=>∃ι1 v,vs=[v]/\Le ι H ι1 H1/\kh nm X.K ι1 H1 M1/\Rep X.K ι1 H1 x v) I ⟨ι,ρ,M,[x],M1,S,R,by simp[e1,Res.bind],fun ι1 H1 vs le S1 r=>?_⟩) λus s1 ⟨vs,H1,I1,r1,ι1,v,ev,le1,S1,rx⟩=>?_) he hpl
       . obtain⟨v,ev,rv⟩:=Lx r rfl
         exact⟨ι1,v,ev,le,S1,rv⟩
       subst ev;cases r1 with
       |cons rv rn =>
        cases rn;refine aoa hr I1 S1 rx rv g1 g1' pl1 λp o n s2 I2 hS hgp=>?_
        refine ik (G8 I2 hg hm hv ?_ hn hdb);refine iw (Bp (hb q2 _ s2 σ H1 (λvs H2=>∃ι2 v,vs=[v]/\Le ι1 H1 ι2 H2/\kh nm X.K ι2 H2 M'/\Rep X.K ι2 H2 y v) I2 ⟨ι1,ρ,M1,[y],M',S1,R.mono le1,by simp[e2,Res.bind],fun ι2 H2 vs le S2 r=>?_⟩) λus s3 ⟨vs,H2,I3,r2,ι2,v2,ev2,le2,S2,ry⟩=>?_) he2 agl
        . obtain⟨v,ev,rv⟩:=Lx r rfl
          exact⟨ι2,v,ev,le,S2,rv⟩
        subst ev2;cases r2 with
        |cons rv2 rn2 =>
         cases rn2;refine aoa hr I3 S2 ry rv2 g2 g2' pl2 λp' o' n' s4 I4 hS' ber=>?_
         have hp:s4.heap.get? p=some o:=(I4.pin (p,o) (gw _ (bh _ cj))).1;have hS4:=a5f (H':=H2) hS hgp hp le2.tup I4.hok;refine Za.a4z (by have:=hr.un;show X.A.units+1<cLine;lia) (by have:=hr.un;lia) hS4 hS' λc hc=>?_
         have ec:c=!MW.Ls ks ls:=by have:=aeh (xs:=ks) (ys:=ls);cases c<;>cases h:MW.Ls ks ls<;>simp_all
         refine⟨.bl c,H2,(I4.T4 λz hz=>I4.pin z (gw _ (bh _ (bh _ hz)))),rfl,?_⟩;rw[ec];exact q ι2 H2 _ (le1.trans le2) S2 (.bl _)
     . cases e
  . cases e
end
section
variable{nm:Nm}{W:Dy}{X:Cx}{a b c o e:Expr}{a' b' c' o':Ex}{pos pos' apos cpos:Pos}{ι:Io}{H:Hp}{σ:St}{ρ:En}{M M1 M2:Store}{x y:Dv}{es:List Expr}{es':Dr}
def rM(nm:Nm)(K:Fg)(m:Bm):V->List V->Hp->VK->Prop:=λv vs H Q=>∃ι M x ds d M',kh nm K ι H M/\Rep K ι H x v/\kj K ι H ds vs/\MW.Hx m x ds M=.ok d M'/\(∀ts,x=.tup ts->m≠.index) /\
 ∀ι' H' w,Le ι H ι' H'->kh nm K ι' H' M'->Rep K ι' H' d w->Q w H'
set_option tactic.hygienic true in
theorem as5{id:String}(hT:∀ι H M x v,kh nm X.K ι H M->Rep X.K ι H x v->MW.Mw m x M=true->tyV X.K T v H)(pa:PlainAttrs T)(slot:Slot T name id)(hty:typeOf (.builtin id)=pure (.type "method_descriptor"))(hm:MtR X id (rM nm X.K m))(ho:PE X o (tE nm W X.K o'))(ha:PA X (e::es) (W4 nm W X.K es'))(hbase:attributeBase o name X.env (eval o X.env)=eval o X.env)(hfew:((backTo cpos (starEach (e::es) X.env)).all (λx=>!x.1)&&(backToKw cpos (keywordEach [] X.env)).all (λx=>x.1.isSome)
&&decide ((e::es).length+([]:List Keyword).length+(if([]:List Keyword).isEmpty then 0 else 1)<30))=true)(hline:(apos.endLine==cpos.line)=true)(hs:starEach (e::es) X.env=(false,eval e X.env)::starEach es X.env)(hplain:(backTo cpos (starEach es X.env)).any (·.1)=false) :
 PE X (.Call (.Attribute o name apos) (e::es) [] cpos) (tE nm W X.K (.bm m o' es')) :=
 PE.of (a2g pa slot hty hm ho ha hbase hfew hline hs hplain) fun σ H Q ι ρ M d M' S R e q=>by
  rw[MW.amq] at e;obtain⟨x,M1,e1,e⟩:=dm e;split at e
  . rename_i ht
    obtain⟨ds,M2,e2,e⟩:=dm e;exact one S R e1 fun ι1 H1 v le S1 R1 r=>⟨hT ι1 H1 M1 x v S1 r ht,ι1,ρ,M1,ds,M2,S1,R1,e2,fun ι2 H2 vs le2 S2 rs=>⟨ι2,M2,x,ds,d,M',S2,r.mono le2,rs,e,(λts hx hm=>by subst hx;subst hm;cases ht),fun ι' H' w W5 S' r'=>q ι' H' w ((le.trans le2).trans W5) S' r'⟩⟩
  . cases e
set_option tactic.hygienic true in
theorem ty_list(hm:m=.append\/m=.pop\/m=.index)(S:kh nm X.K ι H M)(r:Rep X.K ι H x v)(h:MW.Mw m x M=true):tyV X.K "list" v H:=by
 have go:∀ds,MW.asList M x=some ds->tyV X.K "list" v H:=λds hd=>by obtain⟨p,vs,rfl,e2,_⟩:=uw S r hd;exact .inl ⟨rfl,vs,Jv.of e2⟩
 rcases hm with rfl|rfl|rfl
 . cases x<;>simp only[MW.Mw] at h<;>try cases h
   split at h
   . rename_i n ds hM
     exact go ds (by simp only[MW.asList,hM])
   . cases h
 . cases x<;>simp only[MW.Mw] at h<;>try cases h
   split at h
   . rename_i n ds hM
     exact go ds (by simp only[MW.asList,hM])
   . cases h
 . have h:(MW.asList M x).isSome=true:=h
   obtain⟨ds,hd⟩:=m9.mp h;exact go ds hd
set_option tactic.hygienic true in
theorem as6(e:MW.Hx .append x ds M=.ok d M'):∃n d0 xs,x=.ref n/\ds=[d0]/\M[n]?=some (.lst xs)/\xs.length<100000/\d=.non/\M'=M.set n (.lst (xs++[d0])):=by
 unfold MW.Hx at e;split at e
 . rename_i n d0
   split at e
   . rename_i xs hM
     split at e
     . rename_i hl
       cases e;exact⟨_,_,_,rfl,rfl,hM,hl,rfl,rfl⟩
     . cases e
   . cases e
 . rename_i h;cases h
 . rename_i h;cases h
 . rename_i h;cases h
 . rename_i h;cases h
 . cases e
theorem as7(e:MW.Hx .index x ds M=.ok d M'):∃d0 xs j,ds=[d0]/\MW.yq M x=some xs/\MW.Ua M d0 xs=some j/\d=.int ((j:Nat):Int)/\M'=M:=by
 match ds,e with
 |[d0],e =>
  have e:Res.ofOpt (((MW.yq M x).bind (MW.Ua M d0)).map λj=>MW.D.int ((j:Nat):Int)) M=.ok d M':=by rw[<- e];cases x<;>simp only[MW.Hx]<;>first|rfl|(generalize(MW.yq M _).bind (MW.Ua M d0)=z;cases z<;>rfl)
  obtain⟨e1,e2⟩:=rz e;obtain⟨j,e3,e4⟩:=bx.mp e1;obtain⟨xs,e6,e7⟩:=dg.mp e3;exact⟨d0,xs,j,rfl,e6,e7,e4.symm,e2⟩
 |[],e=>cases x<;>simp[MW.Hx] at e|_::_::_,e=>cases x<;>simp[MW.Hx] at e
theorem aob:MtR X "list.append" (rM nm X.K .append):=λpins s σ H v vs u us Q I ru rvs hh=>by
 obtain⟨ι,M,x,ds,d,M',S,r,rs,e,_,q⟩:=hh;obtain⟨n,d0,xs,rfl,rfl,hM,hl,rfl,rfl⟩:=as6 e;cases r with
 |ref ha =>
  obtain⟨ys,h3,h4⟩:=S.obj n _ _ hM ha;cases rs with
  |cons hd ht =>
   cases ht;refine Zx pins s σ H _ _ u us Q I ru rvs ⟨_,ys,_,rfl,rfl,h3,by rw[<- h4.length];exact Xy hl,?_⟩;obtain⟨S2,le2⟩:=S.put (u:=.lst (ys++[_])) (o:=.lst (xs++[_])) hM ha λle=>⟨_,uy,(h4.mono le).append (.cons (hd.mono le) .nil)⟩
   exact q _ _ _ le2 S2 .non
theorem Ur:∀{bs:List Bool}{j:Nat},bs.findIdx? id=some j->bs[j]?=some true/\∀m,m<j->bs[m]?=some false:=fun{bs j} h=>by obtain⟨h1,h2,h3⟩:=m8.mp h;refine⟨by rw[cz h1];simpa using h2,λm hm=>?_⟩;have:=h3 m hm;rw[cz (d_ hm h1)];simpa using this
theorem as8(hr:zj 8 X.A):MtR X "list.index" (rM nm X.K .index):=λpins s σ H v vs u us Q I ru rvs hh=>by
 obtain⟨ι,M,x,ds,d,M',S,r,rs,e,nt,q⟩:=hh;obtain⟨d0,xs,j,rfl,e1,e2,rfl,rfl⟩:=as7 e;cases rs with
 |cons hd ht =>
  cases ht;cases rvs with
  |cons hu ht2 =>
   cases ht2;obtain⟨bs,e3,e4⟩:=dg.mp (show(MW.Rq M' d0 xs).bind (·.findIdx? id)=some j from e2);obtain⟨p,ys,rfl,hp,rl⟩:=Il S r e1;cases ru;rcases hp with hp|hp
   . obtain⟨z,is,n,rv,hl,hg⟩:=I.ajk hp
     obtain⟨f,g1,g2⟩:=Rg (A:=X.A.in1) I S ((hr.mono (by decide:7<=8)).in1) rl rv hd hu e3;obtain⟨f1,f2⟩:=Ur e4;have hb:=(Hc e3).1;have hlen:is.length=bs.length:=by rw[hb,rl.length,hl]
     have lj:j<is.length:=by rw[hlen];exact(ak.mp f1).1
     have fa:∀m (hm:m<is.length),bs[m]?=some (f is[m]):=λm hm=>g2 m _ (cz hm)
     have hT:s.TypeIs (.ref p) "list" := ⟨_,hg,rfl⟩;have hsz:is.length<=sizeLine:=by rw[<- hl];exact z
     rw[mz] at hsz;refine Be F.slot_list_index hT F.entry_list_index (F.args_list_index_2 _ _) (λA R s h=>SeqAt.list_indexAt p is.toArray n none #[] _ f j (by simpa using lj) (by lia) ?_ ?_ _ _ A R s h) ⟨hg,g1,?_⟩
     . have:=fa j lj;rw[f1] at this;simpa using(ie this).symm
     . intro m hm hmj
       have hm:m<is.length:=by simpa using hm
       have:=fa m hm;rw[f2 m hmj] at this;simpa using(ie this).symm
     . exact⟨.int j,H,I.tok _,⟨_,rfl⟩,q ι H _ (Le.refl _ _) S (.int _)⟩
   . cases r with
     |tup e r=>exact absurd rfl (nt _ rfl)|vl e n r=>rw[hp] at e;cases e|fz e r=>simp[MW.yq,MW.asList] at e1
     |ref e =>
      obtain⟨u',q',mu⟩:=S.mem (az e);rw[hp] at mu;exact mu.elim
end
section
variable{nm:Nm}{W:Dy}{X:Cx}{a b c o e:Expr}{a' b' c' o':Ex}{pos pos' apos cpos:Pos}{ι:Io}{H:Hp}{σ:St}{ρ:En}{M M1 M2:Store}{x y:Dv}{es:List Expr}{es':Dr}
set_option tactic.hygienic true in
theorem as9(h:MW.af8 l=true):∀k∈l.map (·.1),Za.SmK k:=λk hk=>by
 obtain⟨p,hp,rfl⟩:=bu.mp hk;simp only[MW.af8,jg] at h;have:=h p hp;split at this
 . rename_i i j e
   simp only[aq,di] at this;exact⟨i,j,this.1.1.1,this.1.1.2,this.1.2,this.2,e⟩
 . cases this
theorem aza(S:kh nm X.K ι H M)(hp:H p=none)(r:ou X.K ι H (λk k'=>k=k') kvs l) :
 kh nm X.K (ι.add p) (upd H p (.dT l)) (M++[.dT kvs])/\Le ι H (ι.add p) (upd H p (.dT l))/\Rep X.K (ι.add p) (upd H p (.dT l)) (.ref M.length) (.ref p):=by
 obtain⟨S1,le⟩:=S.new (H':=upd H p (.dT l)) (o:=.dT kvs) hp (λa u e=>by rw[j4 (j5 e hp)];exact e) λle=>⟨l,uy,r.mono le⟩
 exact⟨S1,le,.ref (by show(ι.l++[p])[M.length]?=some p;rw[<- S.len];simp)⟩
theorem azb(S:kh nm X.K ι H M)(hp:H p=none)(r:ou X.K ι H (λk k'=>k=k') kvs l) :
 kh nm X.K (ι.add p) (upd H p (.dK l)) (M++[.dK kvs])/\Le ι H (ι.add p) (upd H p (.dK l))/\Rep X.K (ι.add p) (upd H p (.dK l)) (.ref M.length) (.ref p):=by
 obtain⟨S1,le⟩:=S.new (H':=upd H p (.dK l)) (o:=.dK kvs) hp (λa u e=>by rw[j4 (j5 e hp)];exact e) λle=>⟨l,uy,r.mono le⟩
 exact⟨S1,le,.ref (by show(ι.l++[p])[M.length]?=some p;rw[<- S.len];simp)⟩
set_option tactic.hygienic true in
theorem azc:Dc X (.type "dict") (rB nm X.K .dict):=λpins s σ H vs us Q I rvs hh=>by
 obtain⟨ι,M,ds,d,M',S,r,e,q⟩:=hh;cases r with
 |nil=>simp[MW.o6] at e
 |@cons x v _ _ h t =>
  cases t with
  |cons h2 t2=>cases x<;>simp[MW.o6] at e
  |nil =>
   cases rvs with
   |cons ru rn =>
    cases rn;cases h with
    |@ref n p hp =>
     cases ru;have e:(match M[n]? with|some (.dT kvs)=>if MW.af8 kvs then MW.new (.dT kvs) M else .bad|some (.dK kvs)=>MW.new (.dK kvs) M|_=>.bad)=.ok d M':=e;split at e
     . rename_i kvs hM
       split at e
       . rename_i hs
         cases e;obtain⟨l,h1,h2⟩:=S.obj n _ p hM hp;obtain⟨z,hsm,xs,rel,dd⟩:=adl I.hok h1;obtain⟨k1,k2⟩:=Um rel;have hl:xs.length=l.length:=by have:=m6 List.length k1;simpa using this
         refine Za.a5b hsm dd (λx hx=>?_) (by rw[hl];exact z) λh' dd' keep=>?_
         . refine as9 hs x.1 ?_
           rw[<- Ir h2,<- k1];exact bu.mpr ⟨x,hx,rfl⟩
         . have hf:H s.heap.objs.size=none:=I.hok.fresh (bc _)
           obtain⟨S2,le2,r2⟩:=aza (X:=X) S hf h2;refine⟨.ref s.heap.objs.size,upd H s.heap.objs.size (.dT l),I.laid (a:=s.heap.objs.size) (o:=.dT l) (t':=s.toks) keep (bc _) ?_,rfl,q _ _ _ le2 S2 r2⟩;obtain⟨o,es,ep,g1,g2,g3,g4,g5,g6⟩:=dd';exact⟨z,ql.mpr (jz (dj I.big)),xs,rel.keeps (λb ys e=>by rw[j4 (j5 e hf)];exact e),o,es,ep,g1,g2,g3,g4,g6⟩
       . cases e
     . rename_i kvs hM
       cases e;obtain⟨l,h1,h2⟩:=S.obj n _ p hM hp;refine amc I (.inl h1) λp' s' hp' I'=>?_
       obtain⟨S2,le2,r2⟩:=azb (X:=X) S hp' h2;exact⟨.ref p',_,I',rfl,q _ _ _ le2 S2 r2⟩
     . cases e
    |_=>cases e
end
section
variable{nm:Nm}{W:Dy}{X:Cx}{a b c o e:Expr}{a' b' c' o':Ex}{pos pos' apos cpos:Pos}{ι:Io}{H:Hp}{σ:St}{ρ:En}{M M1 M2:Store}{x y:Dv}{es:List Expr}{es':Dr}
set_option tactic.hygienic true in
theorem ints_rep{K:Fg}:∀{ds:List Dv}{vs:List V}{is:List Value}{ns:List Int},kj K ι H ds vs->Vals vs is->MW.Ww ds=some ns->∃xs:Array (Int×Tok),is.toArray=intItems xs/\xs.toList.map (·.1)=ns
 |_,_,_,_,.nil,.nil,h=>by cases h;exact⟨#[],by simp[intItems],rfl⟩
 |_,_,_,_,.cons r t,.cons rv tv,h=>by
  cases r<;>simp only[MW.Ww] at h<;>try cases h
  rename_i i;obtain⟨ns',e1,e2⟩:=bx.mp h;obtain⟨xs,g1,g2⟩:=ints_rep t tv e1;obtain⟨tk,rfl⟩:=rv;refine⟨#[(i,tk)]++xs,?_,by simp[g2,e2]⟩;have h3:=m6 Array.toList g1;apply Array.toList_inj.mp;simp[intItems] at h3 ⊢;exact h3
theorem aei:∀(l:List Int)(z m:Int),(m=z\/m∈l)->z<=m->(∀a∈l,a<=m)->l.foldl (λm x=>if m<x then x else m) z=m
 |[],z,m,h,_,_=>by rcases h with h|h;exact h.symm;cases h
 |a::l,z,m,h,hz,hall=>by
  rw[Df];have ha:=hall a cj;refine aei l _ m ?_ (by split<;>lia) (λb hb=>hall b (bh _ hb));rcases h with h|h
  . subst h;left;split<;>lia
  . rcases bw.mp h with h|h
    . subst h
      by_cases hc:z<m
      . left;rw[cu hc]
      . left;rw[bz hc];lia
    . exact .inr h
theorem aej:∀(l:List Int)(z m:Int),(m=z\/m∈l)->m<=z->(∀a∈l,m<=a)->l.foldl (λm x=>if x<m then x else m) z=m
 |[],z,m,h,_,_=>by rcases h with h|h;exact h.symm;cases h
 |a::l,z,m,h,hz,hall=>by
  rw[Df];have ha:=hall a cj;refine aej l _ m ?_ (by split<;>lia) (λb hb=>hall b (bh _ hb));rcases h with h|h
  . subst h;left;split<;>lia
  . rcases bw.mp h with h|h
    . subst h
      by_cases hc:m<z
      . left;rw[cu hc]
      . left;rw[bz hc];lia
    . exact .inr h
theorem ah4(e:MW.two ds f g M=.ok d M'):M'=M/\((∃i j,ds=[.int i,.int j]/\d=.int (f i j))\/∃x m,ds=[x]/\g x=some m/\d=.int m):=by
 cases ds with
 |nil=>cases e
 |cons x r=>cases r with
  |nil =>
   obtain⟨e1,e2⟩:=rz (show Res.ofOpt ((g x).map MW.D.int) M=.ok d M' from e);obtain⟨m,e3,e4⟩:=bx.mp e1;exact⟨e2,.inr ⟨x,m,rfl,e3,e4.symm⟩⟩
  |cons y r=>cases r with
   |nil =>
    cases x<;>try cases e
    cases y<;>cases e;exact⟨rfl,.inl ⟨_,_,rfl,rfl⟩⟩
   |cons _ _=>cases e
theorem aao{h:List Int->Option Int}(e:((MW.asList M x).bind MW.Ww).bind h=some m):∃xs ns,MW.asList M x=some xs/\MW.Ww xs=some ns/\h ns=some m:=by obtain⟨ns,e5,e6⟩:=dg.mp e;obtain⟨xs,e7,e8⟩:=dg.mp e5;exact⟨xs,ns,e7,e8,e6⟩
theorem ata(e:MW.o6 .max ds M=.ok d M'):M'=M/\((∃i j,ds=[.int i,.int j]/\d=.int (if i<j then j else i))\/∃x xs ns m,ds=[x]/\MW.asList M x=some xs/\MW.Ww xs=some ns/\MW.ax6 ns=some m/\d=.int m):=by
 obtain⟨h,h2|⟨x,m,h3,h4,h5⟩⟩:=ah4 e
 . exact⟨h,.inl h2⟩
 . obtain⟨xs,ns,g1,g2,g3⟩:=aao h4
   exact⟨h,.inr ⟨x,xs,ns,m,h3,g1,g2,g3,h5⟩⟩
theorem atb(e:MW.o6 .min ds M=.ok d M'):M'=M/\((∃i j,ds=[.int i,.int j]/\d=.int (if j<i then j else i))\/∃x xs ns m,ds=[x]/\MW.asList M x=some xs/\MW.Ww xs=some ns/\MW.a2o ns=some m/\d=.int m):=by
 obtain⟨h,h2|⟨x,m,h3,h4,h5⟩⟩:=ah4 e
 . exact⟨h,.inl h2⟩
 . obtain⟨xs,ns,g1,g2,g3⟩:=aao h4
   exact⟨h,.inr ⟨x,xs,ns,m,h3,g1,g2,g3,h5⟩⟩
theorem Vr(h:Vals [v] us):∃u,us=[u]/\RelV v u:=L2.Vals.one h
theorem Rh(h:i<xs.size):(xs.toList.map (·.1))[i]?=some (numAt xs i):=by simp[numAt,h]
theorem a5g(hc:X.calm=true):Dc X (.builtin "max") (rB nm X.K .max):=λpins s σ H vs us Q I rvs hh=>by
 obtain⟨ι,M,ds,d,M',S,r,e,q⟩:=hh;obtain⟨rfl,⟨i,j,rfl,rfl⟩|⟨x,xs,ns,m,rfl,e1,e2,e3,rfl⟩⟩:=ata e
 . cases r with
   |cons h1 t1 =>
    cases t1 with
    |cons h2 t2 =>
     cases t2;cases h1;cases h2;refine ajc hc pins s σ H _ us Q I rvs ⟨i,j,rfl,?_⟩;have:=q ι H _ (Le.refl _ _) S (.int (if i<j then j else i));exact this
 . obtain⟨v,rfl,rv⟩:=Lx r rfl
   obtain⟨u,rfl,ru⟩:=Vr rvs;obtain⟨p,ws,rfl,hp,rl⟩:=uw S rv e1;cases ru;obtain⟨is,rvl,pl,_⟩:=I.list (Jv.of hp);obtain⟨xa,g1,g2⟩:=ints_rep rl rvl e2;have hne:0<xa.size:=by
    cases ns with
    |nil=>cases e3|cons n ns=>have:=m6 List.length g2;simp at this;lia
   refine max_intList (I.ok.hd hc) (by rw[<- g1];exact pl.isList) hne λw h' tk hw keep=>?_
   obtain⟨t,rfl⟩:=intItems_at hw;obtain⟨b1,b2⟩:=argBest_gt (numAt xa) (xa.size-1);have hm:m=numAt xa (argBest (λi j=>decide (numAt xa i > numAt xa j)) (xa.size-1)):=by
    cases hns:ns with
    |nil=>rw[hns] at e3;cases e3
    |cons n ns' =>
     rw[hns] at e3;cases e3;have mem:∀i,i<xa.size->numAt xa i∈n::ns':=λi hi=>by rw[<- hns,<- g2];exact az (Rh hi)
     have le:∀a∈n::ns',a<=numAt xa (argBest (λi j=>decide (numAt xa i > numAt xa j)) (xa.size-1)):=λa ha=>by
      rw[<- hns,<- g2] at ha;obtain⟨i,hi⟩:=uq.mp ha;have li:i<xa.size:=by have:=(ak.mp hi).1;simpa using this
      rw[Rh li] at hi;cases hi;exact b2 i (by lia)
     exact aei ns' n _ (bw.mp (mem _ (by omega))) (le n cj) (λa ha=>le a (bh _ ha))
   subst hm;exact⟨.int _,H,I.kept keep,⟨t,rfl⟩,q ι H _ (Le.refl _ _) S (.int _)⟩
end
section
variable{nm:Nm}{W:Dy}{X:Cx}{a b c o e:Expr}{a' b' c' o':Ex}{pos pos' apos cpos p2:Pos}{ι:Io}{H:Hp}{σ:St}{ρ:En}{M M1 M2:Store}{x y:Dv}{es:List Expr}{es':Dr}
theorem Mz(n d:Nat)(o:Option Int):HT.Jp n d o=MW.clip n d o:=by
 cases o with
 |none=>rfl
 |some i =>
  show(if i<0 then(i+(n:Int)).toNat else min i.toNat n)=(if 0<=i then min i.toNat n else(i+(n:Int)).toNat)
  by_cases h:i<0
  . rw[cu h,bz (by lia)]
  . rw[bz h,cu (by lia)]
def tO(nm:Nm)(W:Dy)(K:Fg)(o:Z3):TO:=fun σ H Q=>∃ι ρ M d M',kh nm K ι H M/\tu K ι H ρ σ/\o.den W ρ M=.ok d M'/\∀ι' H',Le ι H ι' H'->kh nm K ι' H' M'->Q d H'
theorem PO.weak{e:Option Expr}(h:PO X e t)(w:∀σ H Q,t' σ H Q->t σ H Q):PO X e t':=λpins s σ H Q I q=>h pins s σ H Q I (w σ H Q q)
theorem PO.of{e:Option Expr}{o':Z3}(h:PO X e t)(w:∀σ H Q ι ρ M d M',kh nm X.K ι H M->tu X.K ι H ρ σ->o'.den W ρ M=.ok d M'->(∀ι' H',Le ι H ι' H'->kh nm X.K ι' H' M'->Q d H')->t σ H Q):PO X e (tO nm W X.K o'):=PO.weak h fun σ H Q ⟨ι,ρ,M,d,M',S,R,e,q⟩=>w σ H Q ι ρ M d M' S R e q
theorem atd:PO X none (tO nm W X.K .none):=PO.of arc fun σ H Q ι ρ M d M' S R e q=>by rw[MW.ajq] at e;cases e;exact q ι H (Le.refl _ _) S
set_option tactic.hygienic true in
theorem ate(ha:PE X a (tE nm W X.K a')):PO X (some a) (tO nm W X.K (.some a')):=PO.of (ard ha) fun σ H Q ι ρ M d M' S R e q=>by rw[MW.ajr] at e;obtain⟨x,M1,e1,e⟩:=dm e;split at e<;>cases e;rename_i i;exact one S R e1 fun ι1 H1 v le S1 R1 r=>by cases r;exact⟨i,rfl,q ι1 H1 le S1⟩
set_option tactic.hygienic true in
theorem a5h(ha:PE X a (tE nm W X.K a'))(hl:PO X lo (tO nm W X.K lo'))(hh:PO X hi (tO nm W X.K hi')):PE X (.Subscript a (.Slice lo hi none p2) pos) (tE nm W X.K (.cut a' lo' hi')) :=
 PE.of (al3 (SlR.or arh axy) ha hl hh) fun σ H Q ι ρ M d M' S R e q=>by
  rw[MW.art] at e;obtain⟨x,M1,e1,e⟩:=dm e;obtain⟨l,M2,e2,e⟩:=dm e;obtain⟨h,M3,e3,e⟩:=dm e;obtain⟨e4,e5⟩:=rz e;subst e5;refine one S R e1 fun ι1 H1 v le S1 R1 r=>⟨ι1,ρ,M1,l,M2,S1,R1,e2,fun ι2 H2 le2 S2=>⟨ι2,ρ,M2,h,_,S2,R1.mono le2,e3,fun ι3 H3 le3 S3=>?_⟩⟩
  have r3:=(r.mono le2).mono le3;have fin:=fun ι' H' w W5 S' r'=>q ι' H' w (((le.trans le2).trans le3).trans W5) S' r'
  have lst:∀ds,MW.asList M' x=some ds->d=.vl (MW.abi ds l h)->a2f X.K v l h H3 Q:=λds hd ed=>by
   obtain⟨p,vs,rfl,hp,rl⟩:=uw S3 r3 hd;refine⟨p,vs,rfl,Jv.of hp,λp' hp'=>?_⟩;have:kj X.K ι3 H3 (MW.abi ds l h) (Ze vs l h):=by unfold MW.abi Ze;rw[Mz,Mz,<- rl.length];exact(rl.drop _).take _
   obtain⟨S4,le4,r4⟩:=abn (X:=X) S3 hp' this;subst ed;exact fin _ _ _ le4 S4 r4
  cases x with
  |tup ds =>
   right
   simp only[MW.cutOp] at e4;split at e4
   . cases e4
   . rename_i hw
     cases e4;cases r3 with
     |@tup p _ vs hp rl =>
      refine⟨p,vs,rfl,Ml.of hp,?_,λp' hp'=>?_⟩
      . rw[Mz,Mz,<- rl.length];exact hw
      . have:kj X.K ι3 H3 (MW.abi ds l h) (Ze vs l h):=by
         unfold MW.abi Ze;rw[Mz,Mz,<- rl.length];exact(rl.drop _).take _
        obtain⟨S4,le4,r4⟩:=Ob (X:=X) S3 hp' this;exact fin _ _ _ le4 S4 r4
  |_ =>
   left
   simp only[MW.cutOp] at e4;obtain⟨ds,hd,ed⟩:=bx.mp e4;exact lst ds hd ed.symm
end
section
variable{nm:Nm}{W:Dy}{X:Cx}{a b c o e:Expr}{a' b' c' o':Ex}{pos pos' apos cpos p2:Pos}{ι:Io}{H:Hp}{σ:St}{ρ:En}{M M1 M2:Store}{x y:Dv}{es:List Expr}{es':Dr}
theorem aoc(hk:∀ι H M M' x v d,kh nm X.K ι H M->Rep X.K ι H x v->MW.o6 t [x] M=.ok d M'->M'=M/\∃b ty,d=.bl b/\Qc X.K H v ty/\PySem.W.kitOne X.K ty (.type T)=some b)(hg:Gl X n)(hm:X.mg n=none)(hv:bootBuiltins n=some (.builtin "isinstance"))(hn:n≠"__name__")(hdb:(n==("__debug__" : Str))=false)(hg2:Gl X tn)(hm2:X.mg tn=none)(hv2:bootBuiltins tn=some (.type T))(hn2:tn≠"__name__")(agm:(tn==("__debug__" : Str))=false)(ha:PE X a (tE nm W X.K a'))(he:starEach [a,.Name tn p'] X.env=(false,eval a X.env)::starEach [.Name tn p'] X.env)(he2:starEach [.Name tn p'] X.env=(false,eval (.Name tn p') X.env)::starEach [] X.env)(hpl:(backTo pos (starEach [.Name tn p'] X.env)).any (·.1)=false):PE X (.Call (.Name n p) [a,.Name tn p'] [] pos) (tE nm W X.K (.blt t (.cons a' .nil))):=by intro pins s σ H Q I hh;obtain⟨ι,ρ,M,d,M',S,R,e,q⟩:=hh;rw[MW.abk] at e;obtain⟨ds,M1,e1,e⟩:=dm e;rw[MW.Kq] at e1;obtain⟨x,M2,e2,e1⟩:=dm e1;rw[MW.Ug] at e1;cases e1;refine ik (G8 I hg hm hv ?_ hn hdb);refine xr (Q:=EP X pins σ Q) ?_ he hpl;rw[he];show wpAny _ _ (spliced ((false,eval a X.env)::backTo pos (starEach [.Name tn p'] X.env))) _ _ s;refine qt (Bp (ha pins s σ H (λv H1=>∃ι1,Le ι H ι1 H1/\kh nm X.K ι1 H1 M1/\Rep X.K ι1 H1 x v) I ⟨ι,ρ,M,x,M1,S,R,e2,fun ι1 H1 v le S1 r=>⟨ι1,le,S1,r⟩⟩) λu s1 ⟨v,H1,I1,r1,ι1,le,S1,r⟩=>?_);rw[he2];show wpAny _ _ (spliced ((false,eval (.Name tn p') X.env)::backTo pos (starEach [] X.env))) _ _ s1;refine qt (G8 I1 hg2 hm2 hv2 ?_ hn2 agm);refine u5 ?_;obtain⟨rfl,b,ty,rfl,h1,h2⟩:=hk ι1 H1 _ _ x v d S1 r e;exact ajg I1 r1 h1 h2 λtk=>⟨.bl b,H1,I1.tok _,rfl,q ι1 H1 _ le S1 (.bl b)⟩
end
section
variable{nm:Nm}{W:Dy}{X:Cx}{a b c o e:Expr}{a' b' c' o':Ex}{pos pos' apos cpos:Pos}{ι:Io}{H:Hp}{σ:St}{ρ:En}{M M1 M2:Store}{x y:Dv}{es:List Expr}{es':Dr}
theorem a5i(hc:X.calm=true):Dc X (.builtin "min") (rB nm X.K .min):=λpins s σ H vs us Q I rvs hh=>by
 obtain⟨ι,M,ds,d,M',S,r,e,q⟩:=hh;obtain⟨rfl,⟨i,j,rfl,rfl⟩|⟨x,xs,ns,m,rfl,e1,e2,e3,rfl⟩⟩:=atb e
 . cases r with
   |cons h1 t1 =>
    cases t1 with
    |cons h2 t2 =>
     cases t2;cases h1;cases h2;refine ajd hc pins s σ H _ us Q I rvs ⟨i,j,rfl,?_⟩;have:=q ι H _ (Le.refl _ _) S (.int (if j<i then j else i));exact this
 . obtain⟨v,rfl,rv⟩:=Lx r rfl
   obtain⟨u,rfl,ru⟩:=Vr rvs;obtain⟨p,ws,rfl,hp,rl⟩:=uw S rv e1;cases ru;obtain⟨is,rvl,pl,_⟩:=I.list (Jv.of hp);obtain⟨xa,g1,g2⟩:=ints_rep rl rvl e2;have hne:0<xa.size:=by
    cases ns with
    |nil=>cases e3|cons n ns=>have:=m6 List.length g2;simp at this;lia
   refine min_intList (I.ok.hd hc) (by rw[<- g1];exact pl.isList) hne λw h' tk hw keep=>?_
   obtain⟨t,rfl⟩:=intItems_at hw;obtain⟨b1,b2⟩:=argBest_lt (numAt xa) (xa.size-1);have hm:m=numAt xa (argBest (λi j=>decide (numAt xa i<numAt xa j)) (xa.size-1)):=by
    cases hns:ns with
    |nil=>rw[hns] at e3;cases e3
    |cons n ns' =>
     rw[hns] at e3;cases e3;have mem:∀i,i<xa.size->numAt xa i∈n::ns':=λi hi=>by rw[<- hns,<- g2];exact az (Rh hi)
     have le:∀a∈n::ns',numAt xa (argBest (λi j=>decide (numAt xa i<numAt xa j)) (xa.size-1))<=a:=λa ha=>by
      rw[<- hns,<- g2] at ha;obtain⟨i,hi⟩:=uq.mp ha;have li:i<xa.size:=by have:=(ak.mp hi).1;simpa using this
      rw[Rh li] at hi;cases hi;exact b2 i (by lia)
     exact aej ns' n _ (bw.mp (mem _ (by omega))) (le n cj) (λa ha=>le a (bh _ ha))
   subst hm;exact⟨.int _,H,I.kept keep,⟨t,rfl⟩,q ι H _ (Le.refl _ _) S (.int _)⟩
end
section
variable{prog:Program}{w:World}{A:Around}{E:Value->Shared->Prop}{s:Shared}
theorem Zi{n:Nat}(hh:A.handled=none)(hr:IsRange s.heap r a b c t u v)(hsmall:Builtin.Range.small a b c=true)(hn:Builtin.Range.rangeSize a b c=n)(hlen:n<=2 ^ 24)(hQ:∀(h':Heap) (tk:Nat) (acc:Array Value),(∀b o,s.heap.get? b=some o->h'.get? b=some o)->ItemsOf (λi v=>∃t,v=.int (a+i*c) t) acc n->Q acc.toList { s with heap:=h',toks:=tk }):wpAny (model prog w) A (collect (.ref r)) Q E s:=by
 unfold collect;refine aa (zu (lq F.entry_proto_collect ?_));rw[jx F.plain_proto_collect _];show wpAny _ A.in1 (newList [] >>= λl=>again (.builtin "list.__iadd__" ⟨[l,.ref r],[]⟩)) _ _ s;refine aa (jb ?_);refine aj ⟨vm yg _,lq F.entry_list_iadd ?_⟩;rw[jx yg _];show wpAny _ A.in1 (Builtin.List.listExtendWith (.ref s.heap.objs.size) (.ref r) (.ref s.heap.objs.size)) _ _ _;have keep:∀b o,s.heap.get? b=some o->(s.heap.push { cls:=.type "list",data:=.seq ([]:List Value).toArray }).get? b=some o:=λb o e=>ao _ e
 have hS0:(s.heap.push { cls:=.type "list",data:=.seq ([]:List Value).toArray }).get? s.heap.objs.size=some { cls:=.type "list",data:=.seq #[] 0 }:=bf _ rfl;have ext:=wpAny_extend_range (prog:=prog) (w:=w) (A:=A) (R:=λr' s'=>∃(h':Heap)(tk:Nat)(acc:Array Value)(c':Nat),r'=.ok (.ret (.ref s.heap.objs.size))/\s'={ s with heap:=h',toks:=tk }/\(∀b o,s.heap.get? b=some o->h'.get? b=some o)
 /\h'.get? s.heap.objs.size=some { cls:=.type "list",dict:=none,data:=.seq acc c',slots:=#[] }/\ItemsOf (λi v=>∃t,v=.int (a+i*c) t) acc n)
  (s:={ s with heap:=s.heap.push { cls:=.type "list",data:=.seq ([]:List Value).toArray } }) hh (keep _ _ hr) hsmall hn hlen s.heap.objs.size (.ref s.heap.objs.size) 0 hS0
  λh' tk acc c' hk hS hacc=>⟨h',tk,acc,c',rfl,rfl,λb o e=>hk b o (dj (au e)) (keep b o e),hS,hacc⟩
 have last:∀{r':Result}{s':Shared},(∃(h':Heap)(tk:Nat)(acc:Array Value)(c':Nat),r'=.ok (.ret (.ref s.heap.objs.size))/\s'={ s with heap:=h',toks:=tk }/\(∀b o,s.heap.get? b=some o->h'.get? b=some o)
 /\h'.get? s.heap.objs.size=some { cls:=.type "list",dict:=none,data:=.seq acc c',slots:=#[] }/\ItemsOf (λi v=>∃t,v=.int (a+i*c) t) acc n)->∃(h':Heap)(tk:Nat)(acc:Array Value)(c':Nat),r'=.ok (.ret (.ref s.heap.objs.size))/\s'={ s with heap:=h',toks:=tk }/\h'.get? s.heap.objs.size=some { cls:=.type "list",dict:=none,data:=.seq acc c',slots:=#[] }/\Q acc.toList s':=λ⟨h',tk,acc,c',e1,e2,e3,e4,e5⟩=>⟨h',tk,acc,c',e1,e2,e4,by rw[e2];exact hQ h' tk acc e3 e5⟩
 refine jt ext (λfin s' hf=>?_) (λe s' he=>?_)
 . cases fin with
   |done f =>
    obtain⟨h',tk,acc,c',e1,rfl,e4,e5⟩:=last hf;cases e1;exact aa (Cm e4 (aj e5))
   |again c' =>
    refine⟨hf.1,uv hf.2 λr' s'' hr'=>?_⟩;obtain⟨h',tk,acc,c',e1,rfl,e4,e5⟩:=last hr';subst e1;exact aa (Cm e4 (aj e5))
 . obtain⟨_,_,_,_,e1,_⟩:=last he
   cases e1
theorem Vs{n:Nat}(hh:A.handled=none)(hr:IsRange s.heap r a b c t u v)(hsmall:Builtin.Range.small a b c=true)(hn:Builtin.Range.rangeSize a b c=n)(hlen:n<=2 ^ 24)(h:∀(h':Heap) (tk:Nat) (acc:Array Value),(∀b o,s.heap.get? b=some o->h'.get? b=some o)->ItemsOf (λi v=>∃t,v=.int (a+i*c) t) acc n->Q₁ (.ref h'.objs.size) { s with heap:=h'.push { cls:=.type "tuple",data:=.seq acc },toks:=tk }) :
 codeAny (model prog w) A (.call (.builtin "tuple.__new__") ⟨[.type "tuple",.ref r],[]⟩) (wants Q₁ E) s:=by
 refine codeAny_of_tree ?_;show wpAny _ A.in1 (do checkBuiltinCall "tuple.__new__" ⟨[.type "tuple",.ref r],[]⟩;again (.builtin "tuple.__new__" ⟨[.type "tuple",.ref r],[]⟩)) _ _ s;refine aa (Bx (F.newCall_tuple_1 _) (aj ⟨vm F.plain_tuple_new _,lq F.entry_tuple_new ?_⟩));rw[jx F.plain_tuple_new _];have hsub:=sub_tuple_self;have hinit:=init_tuple_lookup;have hmh:=madeHere_tuple;have hTI:s.TypeIs (.ref r) "range" := ⟨_,hr,rfl⟩
 wp_walk using o7 hTI,Zi (A:=A.in1) hh hr hsmall hn hlen
 intro h' tk acc hk hacc;show wpAny _ _ (Builtin.Tuple.tupleExact acc.toList.toArray >>= λv=>ret v) _ _ _;unfold Builtin.Tuple.tupleExact;refine aa (jb ?_ (by show acc.toList.toArray.size<=sizeLine;simp only[Array.toArray_toList];rw[hacc.1,mz];exact hlen));refine aj ?_;have e:acc.toList.toArray=acc:=by simp
 rw[e];exact h h' tk acc hk hacc
theorem Vt{n:Nat}(hh:A.handled=none)(hr:IsRange s.heap r a b c t u v)(hsmall:Builtin.Range.small a b c=true)(hn:Builtin.Range.rangeSize a b c=n)(hlen:n<=2 ^ 24)(hQ:∀(h':Heap) (tk:Nat) (acc:Array Value),(∀b o,s.heap.get? b=some o->h'.get? b=some o)->ItemsOf (λi v=>∃t,v=.int (a+i*c) t) acc n->Q (.ref h'.objs.size) { s with heap:=h'.push { cls:=.type "tuple",data:=.seq acc },toks:=tk }) :
 wpAny (model prog w) A (call (.type "tuple") [.ref r]) Q E s:=by
 refine callType_codes (Q₁:=λobj s₁=>s₁.TypeIs obj "tuple"/\Q obj s₁) Cu (F.typeCall_tuple_1 _) F.entry_object_init
  (Vs (A:=A.in1) hh hr hsmall hn hlen λh' tk acc hk hacc=>⟨⟨_,bf _ rfl,rfl⟩,hQ h' tk acc hk hacc⟩) λobj s₁ h₁=>?_
 exact⟨h₁.1,F.args_object_init_2 obj _,object_init_meets Cu.init.lookup Cu.made (by decide) prog w A.in1 _ s₁ ⟨h₁.1,rfl,h₁.2⟩⟩
end
section
variable{nm:Nm}{W:Dy}{X:Cx}{a b c o e:Expr}{a' b' c' o':Ex}{pos pos' apos cpos p2:Pos}{ι:Io}{H:Hp}{σ:St}{ρ:En}{M M1 M2:Store}{x y:Dv}{es:List Expr}{es':Dr}
theorem Yd(h:ItemsOf (λi v=>∃t,v=.int (0+(i:Int)*1) t) acc n):Vals ((List.range n).map λ(k:Nat)=>V.int (k:Int)) acc.toList:=by
 have go:∀(l:List Value)(k:Nat),(∀(j:Nat)(v:Value),l[j]?=some v->∃t,v=Value.int ((k+j:Nat):Int) t)->Vals ((List.range' k l.length).map λ(k:Nat)=>V.int (k:Int)) l:=by
  intro l
  induction l with
  |nil=>intro k _;exact .nil
  |cons v l ih =>
   intro k hk;rw[gf,Gh,gq];refine .cons ?_ (ih (k+1) λj v hj=>?_)
   . exact hk 0 v rfl
   . obtain⟨t,e⟩:=hk (j+1) v (by simpa using hj)
     exact⟨t,by rw[e];congr 1;lia⟩
 have:=go acc.toList 0 (λj v hj=>by
  obtain⟨t,e⟩:=h.2 j v (by simpa using hj);exact⟨t,by rw[e];congr 1;lia⟩)
 rw[qe,h.1,<- List.range_eq_range'] at this;exact this
theorem Ye(n:Nat):kj K ι H ((List.range n).map λ(k:Nat)=>MW.D.int (k:Int)) ((List.range n).map λ(k:Nat)=>V.int (k:Int)):=by
 generalize List.range n=l
 induction l with
 |nil=>exact .nil|cons k l ih=>exact .cons (.int _) ih
set_option tactic.hygienic true in
theorem azd(hr:zj 8 X.A)(hg:Gl X n)(hm:X.mg n=none)(hv:bootBuiltins n=some (.type "tuple"))(hn:n≠"__name__")(hdb:(n==("__debug__" : Str))=false)(hg2:Gl X tn)(hm2:X.mg tn=none)(hv2:bootBuiltins tn=some (.type "range"))(hn2:tn≠"__name__")(agm:(tn==("__debug__" : Str))=false)(ha:PA X [a] (W4 nm W X.K (.cons a' .nil)))(he:starEach [.Call (.Name tn p') [a] [] q2] X.env=(false,eval (.Call (.Name tn p') [a] [] q2) X.env)::starEach [] X.env)(hpl:(backTo q1 (starEach [] X.env)).any (·.1)=false)(he2:starEach [a] X.env=(false,eval a X.env)::starEach [] X.env)(agl:(backTo q2 (starEach [] X.env)).any (·.1)=false) :
 PE X (.Call (.Name n p) [.Call (.Name tn p') [a] [] q2] [] q1) (tE nm W X.K (.af5 a')):=by
 intro pins s σ H Q I hh;obtain⟨ι,ρ,M,d,M',S,R,e,q⟩:=hh;rw[MW.amr] at e;obtain⟨x,M1,e1,e⟩:=dm e;split at e<;>try cases e
 rename_i i;split at e<;>cases e;rename_i hi;refine ik (G8 I hg hm hv ?_ hn hdb);refine iw (Q:=EP X pins σ Q) ?_ he hpl;rw[he];show wpAny _ _ (spliced ((false,eval (.Call (.Name tn p') [a] [] q2) X.env)::backTo q1 (starEach [] X.env))) _ _ s;refine qt ?_;refine ik (G8 I hg2 hm2 hv2 ?_ hn2 agm);refine iw (Bp (ha q2 pins s σ H (λvs H1=>∃ι1,vs=[.int i]/\Le ι H ι1 H1/\kh nm X.K ι1 H1 M') I ⟨ι,ρ,M,[.int i],M',S,R,by simp[e1,Res.bind],fun ι1 H1 vs le S1 r=>?_⟩) λus s1 ⟨vs,H1,I1,r1,ι1,ev,le1,S1⟩=>?_) he2 agl
 . obtain⟨v,ev,rv⟩:=Lx r rfl
   cases rv;exact⟨ι1,ev,le,S1⟩
 subst ev;obtain⟨u,rfl,ru⟩:=Vr r1;obtain⟨t,rfl⟩:=ru;refine call_range_1 ?_;show wpAny _ _ (spliced []) _ _ _;refine u5 ?_;have keep:∀b o,s1.heap.get? b=some o->(s1.heap.push { cls:=.type "range",data:=.fields #[.int 0 s1.toks,.int i t,.int 1 (s1.toks+1)] }).get? b=some o:=λb o e=>ao _ e
 refine Vt (n:=i.toNat) hr.hd (bf _ rfl) (small_one (by lia) (by lia) (by lia) (by omega)) (by rw[rangeSize_one];split<;>lia) (by lia) λh' tk acc hk hacc=>?_
 have I2:Inv X pins σ H1 { s1 with heap:=h',toks:=tk }:=I1.kept λb o e=>hk b o (keep b o e)
 have hz:((List.range i.toNat).map λ(k:Nat)=>V.int (k:Int)).length<=sizeLine:=by simp[mz];omega
 have hf:H1 h'.objs.size=none:=I2.hok.fresh (bc _);have I3:Inv X pins σ (upd H1 h'.objs.size (.tup ((List.range i.toNat).map λ(k:Nat)=>V.int (k:Int)))) { s1 with heap:=h'.push { cls:=.type "tuple",data:=.seq acc },toks:=tk } :=
  I2.laid (a:=h'.objs.size) (t':=tk) (λb o e=>ao _ e) (bc _) (show zx X.prog X.w _ _ _ (.tup _) from⟨hz,acc.toList,Yd hacc,by simpa using L2.Xg.new _ _⟩)
 obtain⟨S2,le2,r2⟩:=Ob (X:=X) S1 hf (Ye i.toNat);exact⟨.ref h'.objs.size,_,I3,rfl,q ι1 _ _ (le1.trans le2) S2 r2⟩
end
end Sm
namespace EnT
open PySem PySem.Spec
open AutoSeq1 (wpAny_loadPart')
section
variable{prog:Program}{w:World}{A:Around}{E:Value->Shared->Prop}{s:Shared}
set_option tactic.hygienic true in
theorem aod(a:s.heap.IsTupleIter it t i)(b:s.heap.IsTuple t xs)(e:xs[i]?=some x)(q:∀h',h'.IsTupleIter it t (i+1)->Heap.SameBut it s.heap h'->Q x { s with heap:=h' }):wpAny (model prog w) A (Builtin.SmallTypes.nextOf (.ref it)) Q E s:=by obtain⟨o,o1,o2,o3⟩:=id a;obtain⟨ol,l1,l2,nl,l3⟩:=b;unfold Builtin.SmallTypes.nextOf;refine aa (jn (name:=Str.ofString "__next__") a.typeIs su (il su a.typeIs Ah ?_ (zr _)));show wpAny _ _ (field (.ref it) 0 >>= _) _ _ s;refine aa (fu o1 o3 (x:=.ref t) rfl ?_);show wpAny _ _ (if(Value.ref t==Value.none)=true then _ else field (.ref it) 1 >>= _) _ _ s;rw[bz (show ¬((Value.ref t==Value.none)=true) by exact ir)];refine aa (fu o1 o3 (x:=.int i 0) rfl (aa (lz l1 l3 ?_)));simp only[qg,e];refine aa (wpAny_setField o1 o3 (by simp) (aj ⟨x,rfl,aj (q _ ⟨_,mj _ o1 (Obj.isFreed_of_fields (Obj.data_mapFields o3 _)),(Obj.cls_mapFields ..).trans o2,?_⟩ (j7 ..))⟩));rw[Obj.data_mapFields o3];simp[rawInt]
set_option tactic.hygienic true in
theorem atf(hd:A.handled=none)(a:s.heap.IsTupleIter it t i)(b:s.heap.IsTuple t xs)(e:xs[i]?=none)(q:∀h' x,Heap.ExtBut it s.heap h'->(∃o,h'.get? x=some o/\o.cls=.type "StopIteration")->E (.ref x) { s with heap:=h' }):wpAny (model prog w) A (Builtin.SmallTypes.nextOf (.ref it)) Q E s:=by
 obtain⟨o,o1,o2,o3⟩:=id a;obtain⟨ol,l1,l2,nl,l3⟩:=b;unfold Builtin.SmallTypes.nextOf;refine aa (jn (name:=Str.ofString "__next__") a.typeIs su (il su a.typeIs Ah ?_ (zr _)));show wpAny _ _ (field (.ref it) 0 >>= _) _ _ s;refine aa (fu o1 o3 (x:=.ref t) rfl ?_);show wpAny _ _ (if(Value.ref t==Value.none)=true then _ else field (.ref it) 1 >>= _) _ _ s;rw[bz (show ¬((Value.ref t==Value.none)=true) by exact ir)];refine aa (fu o1 o3 (x:=.int i 0) rfl (aa (lz l1 l3 ?_)));simp only[qg,e];refine aa (ur (aa (wpAny_setField o1 o3 (by simp) ?_)));show wpAny _ _ (newExc (.type "StopIteration") [] >>= raiseNew) _ _ _;refine aa ?_;simp only[newExc,newTuple];refine aa (jb ?_ (by size_fits));refine aa (m:=firstArgMember _ _) (Bx (a:=Value.none) (by first|rfl|(simp only[firstArgMember];rfl)) (jb ?_ (by size_fits)));simp only[raiseNew];refine aa (wpAny_handled ?_)
 first|rw[show A.in1.handled=none by exact hd]|rw[hd]
 exact aa (aj (wpAny_throw (q _ _ (((j7 ..).extBut.push _).push _) ⟨_,bf _ rfl,rfl⟩)))
end
def Ow(b:Bool)(h:Heap)(it a:Addr)(i:Nat):Prop:=cond b (h.IsTupleIter it a i) (h.IsListIter it a i)
def Vu(b:Bool)(h:Heap)(a:Addr)(xs:Array Value):Prop:=cond b (h.IsTuple a xs) (h.IsList a xs)
theorem Ow.at(x:Ow b h it a i)(k:∀o,h.get? it=some o->h'.get? it=some o):Ow b h' it a i:=by
 cases b with
 |true=>obtain⟨o,e,r⟩:=x;exact⟨o,k o e,r⟩
 |false=>obtain⟨o,e,r⟩:=x;exact⟨o,k o e,r⟩
theorem Ow.obj(x:Ow b h it a i):∃o,h.get? it=some o/\∀v,o.data≠.cell v:=by
 cases b with
 |true=>obtain⟨o,e,c,d⟩:=x;exact⟨o,e,λv z=>by rw[d] at z;cases z⟩
 |false=>obtain⟨o,e,c,d⟩:=x;exact⟨o,e,λv z=>by rw[d] at z;cases z⟩
section
variable{prog:Program}{w:World}{A:Around}{E:Value->Shared->Prop}{s:Shared}{b:Bool}
theorem Us(a:Ow b s.heap it t i)(c:Vu b s.heap t xs)(e:xs[i]?=some x)(q:∀h',Ow b h' it t (i+1)->Heap.SameBut it s.heap h'->Q x { s with heap:=h' }):wpAny (model prog w) A (Builtin.SmallTypes.nextOf (.ref it)) Q E s:=by
 cases b with
 |true=>exact aod a c e q|false=>exact wpAny_nextOf_list_item a c e q
theorem abz(hd:A.handled=none)(a:Ow b s.heap it t i)(c:Vu b s.heap t xs)(e:xs[i]?=none)(q:∀h' x,Heap.ExtBut it s.heap h'->(∃o,h'.get? x=some o/\o.cls=.type "StopIteration")->E (.ref x) { s with heap:=h' }):wpAny (model prog w) A (Builtin.SmallTypes.nextOf (.ref it)) Q E s:=by
 cases b with
 |true=>exact atf hd a c e q|false=>exact wpAny_nextOf_list_end hd a c e q
theorem atg{i:Nat}{Q:Value->Shared->Prop}(he:IsEnum s.heap e it i old)(a:Ow b s.heap it t i)(c:Vu b s.heap t xs)(ex:xs[i]?=some x)(ne:e≠it)(q:∀h',IsEnumOut h' e it ((i:Int)+1) x s.heap.objs.size->Ow b h' it t (i+1)->h'.get? s.heap.objs.size=some { cls:=.type "tuple",data:=.seq #[.int i s.toks,x] }->h'.objs.size=s.heap.objs.size+1 ->
 (∀y o,y≠e->y≠it->s.heap.get? y=some o->h'.get? y=some o)->Q (.ref s.heap.objs.size) { s with heap:=h',toks:=s.toks+1 }) :
 wpAny (model prog w) A (Builtin.«enumerate.__next__» ⟨[.ref e],[]⟩) (λfin s'=>∃v,fin=.done (.ret v)/\Q v s') E s:=by
 obtain⟨hp,g,d,tk,os⟩:=s;show wpAny _ _ (field (.ref e) 2 >>= _) _ _ _;refine aa (fu he rfl (x:=.ref it) rfl (aa (Us a c ex λh1 a1 s1=>?_)));have s1:Heap.SameBut it hp h1:=s1;have e1:IsEnum h1 e it i old:=(s1.2 e ne).trans he;refine aa (fu e1 rfl (x:=rawInt i) rfl (aa (fu e1 rfl (x:=.none) rfl (aa (wpAny_mkInt ?_)))));show wpAny _ _ (setField (.ref e) 3 (rawInt ((i:Int)+1)) >>= _) _ _ ⟨h1,g,d,tk+1,os⟩;refine aa (gr e1 (by simp) λh2 e2 s2=>?_);have s2:Heap.SameBut e h1 h2:=s2;have e2:IsEnum h2 e it ((i:Int)+1) old:=e2;refine aa (gr e2 (by simp) λh3 e3 s3=>?_);have s3:Heap.SameBut e h2 h3:=s3;have e3:IsEnum h3 e it ((i:Int)+1) old:=e3;refine aa (wpAny_newTuple ?_);have n3:h3.objs.size=hp.objs.size:=by rw[s3.1,s2.1,s1.1]
 obtain⟨h4,d4⟩:∃h4,h4=h3.push { cls:=.type "tuple",data:=.seq #[.int i tk,x] }:=⟨_,rfl⟩;have e4:IsEnum h4 e it ((i:Int)+1) old:=by rw[d4];exact ao _ e3
 have t4:h4.get? hp.objs.size=some { cls:=.type "tuple",data:=.seq #[.int i tk,x] }:=by rw[d4,<- n3];exact bf _ rfl
 have n4:h4.objs.size=hp.objs.size+1:=by rw[d4,iz,n3]
 have k3:∀y o,y≠e->h1.get? y=some o->h4.get? y=some o:=λy o hy z=>by rw[d4];exact ao _ (s3.extBut y o hy (s2.extBut y o hy z))
 have a4:Ow b h4 it t (i+1):=a1.at λo z=>k3 it o (jz ne) z
 have lt:e<hp.objs.size:=au he
 show wpAny _ _ (Builtin.SmallTypes.ownedTupleIsFree (.ref e) >>= _) _ _ ⟨h3.push _,g,d,tk+1,os⟩;rw[n3,<- d4];refine aa ?_;unfold Builtin.SmallTypes.ownedTupleIsFree;refine aa (fu e4 rfl (x:=.none) rfl (aj ?_));simp only[jq];refine aa (ur (aa (fu e4 rfl (x:=old) rfl (aa (gr e4 (by simp) λh5 e5 s5=>?_)))));have s5:Heap.SameBut e h4 h5:=s5;have e5:IsEnum h5 e it ((i:Int)+1) x:=e5;refine aa ?_;unfold Builtin.SmallTypes.ownedTupleHandOut;refine aa (gr e5 (by simp) λh6 e6 s6=>?_);have s6:Heap.SameBut e h5 h6:=s6;have e6:IsEnumOut h6 e it ((i:Int)+1) x hp.objs.size:=e6;refine gr e6 (by simp) λh7 e7 s7=>?_
 have s7:Heap.SameBut e h6 h7:=s7;have k7:∀y o,y≠e->h4.get? y=some o->h7.get? y=some o:=λy o hy z=>s7.extBut y o hy (s6.extBut y o hy (s5.extBut y o hy z))
 exact aa (Bw (aj ⟨_,rfl,q h7 e7 (a4.at λo z=>k7 it o (jz ne) z) (k7 _ _ (vf lt) t4) (by rw[s7.1,s6.1,s5.1,n4]) λy o y1 y2 z=>k7 y o y1 (k3 y o y1 (s1.extBut y o y2 z))⟩))
set_option tactic.hygienic true in
theorem ath{i:Nat}(he:IsEnum s.heap e it i old)(a:Ow b s.heap it t i)(c:Vu b s.heap t xs)(ex:xs[i]?=some x)(ne:e≠it)(q:∀h',IsEnumOut h' e it ((i:Int)+1) x s.heap.objs.size->Ow b h' it t (i+1)->h'.get? s.heap.objs.size=some { cls:=.type "tuple",data:=.seq #[.int i s.toks,x] }->h'.objs.size=s.heap.objs.size+1 ->
 (∀y o,y≠e->y≠it->s.heap.get? y=some o->h'.get? y=some o)->Q (some (.ref s.heap.objs.size)) { s with heap:=h',toks:=s.toks+1 }):wpAny (model prog w) A (pyNext (.ref e)) Q E s:=by
 have ty:s.TypeIs (.ref e) "enumerate" := ⟨_,he,rfl⟩;unfold pyNext;refine aa (vo (jn (name:=Str.ofString "__next__") ty vh (il vh ty F.entry_enumerate_next ?_ (F.args_enumerate_next_1 _))));exact atg he a c ex ne λh' y1 y2 y3 y4 y5=>aj (q h' y1 y2 y3 y4 y5)
set_option tactic.hygienic true in
theorem ati{i:Nat}(hd:A.handled=none)(he:IsEnum s.heap e it i old)(a:Ow b s.heap it t i)(c:Vu b s.heap t xs)(ex:xs[i]?=none)(q:∀h',Heap.ExtBut it s.heap h'->Q none { s with heap:=h' }):wpAny (model prog w) A (pyNext (.ref e)) Q E s:=by have ty:s.TypeIs (.ref e) "enumerate" := ⟨_,he,rfl⟩;unfold pyNext;refine aa (vo (jn (name:=Str.ofString "__next__") ty vh (il vh ty F.entry_enumerate_next ?_ (F.args_enumerate_next_1 _))));show wpAny _ _ (field (.ref e) 2 >>= _) _ _ _;refine aa (fu he rfl (x:=.ref it) rfl (aa (abz hd a c ex λh' z k ⟨o,o1,o2⟩=>?_)));exact aa (km (T := "StopIteration") (b:=true) ⟨o,o1,o2⟩ Cw (aj (q _ k)))
set_option tactic.hygienic true in
theorem atj(t:Addr)(xs:Array Value)(n:Nat)(dct:Option Addr)(sl:Array (Option Value)) :
 Meets (Builtin.«enumerate.__new__» ⟨[.type "enumerate",.ref t],[]⟩) (λ_ R s=>s.heap.get? t=some { cls:=.type "tuple",dict:=dct,data:=.seq xs n,slots:=sl } /\
  R (.ok (.ret (.ref (s.heap.push { cls:=.type "tuple_iterator",data:=.fields #[.ref t,.int 0 0] }).objs.size)))
   { s with heap:=(s.heap.push { cls:=.type "tuple_iterator",data:=.fields #[.ref t,.int 0 0] }).push { cls:=.type "enumerate",data:=.fields #[.none,.bool false,.ref s.heap.objs.size,rawInt 0,.none,.none] } }) :=
 .of_wp λprog w A R s h=>by
  obtain⟨hp,g,d,tk,os⟩:=s;obtain⟨hl,h⟩:=h;have hsub:=sub_enumerate;have hT:Heap.IsTuple (Shared.heap ⟨hp,g,d,tk,os⟩) t xs:=⟨_,hl,rfl,n,rfl⟩
  wp_walk using zg hl
  refine wpAny_stack_any λst=>aj ?_
  split
  . rename_i c _ _ _ _ _
    cases(c==Value.type "enumerate")<;>(wp_walk using zg hl,xq hT)<;>exact⟨_,rfl,h⟩
  . wp_walk using zg hl,xq hT
    exact⟨_,rfl,h⟩
theorem aoe(c:s.heap.IsTuple t xs)(q:∀h',IsEnum h' (s.heap.objs.size+1) s.heap.objs.size 0 .none->h'.IsTupleIter s.heap.objs.size t 0->h'.objs.size=s.heap.objs.size+2 ->
 (∀y o,s.heap.get? y=some o->h'.get? y=some o)->Q (.ref (s.heap.objs.size+1)) { s with heap:=h' }):wpAny (model prog w) A (call (.type "enumerate") [.ref t]) Q E s:=by
 obtain⟨⟨c0,dct,dt,sl⟩,hl,hc,n,hd⟩:=c;have hc:c0=.type "tuple" := hc;have hd:dt=.seq xs n:=hd;subst hc hd;have n1:(s.heap.push { cls:=.type "tuple_iterator",data:=.fields #[.ref t,.int 0 0] }).objs.size=s.heap.objs.size+1:=iz ..;refine callType_new F.called_enumerate (by decide) (F.typeCall_enumerate_1 _) (F.newCall_enumerate_1 _) (λobj=>F.args_object_init_2 obj _) F.entry_enumerate_new (atj t xs n dct sl) ⟨hl,?_⟩;show _/\_;rw[n1];have e1:IsEnum ((s.heap.push { cls:=.type "tuple_iterator",data:=.fields #[.ref t,.int 0 0] }).push { cls:=.type "enumerate",data:=.fields #[.none,.bool false,.ref s.heap.objs.size,rawInt 0,.none,.none] }) (s.heap.objs.size+1) s.heap.objs.size 0 .none:=by rw[<- n1];exact bf _ rfl
 exact⟨⟨_,e1,rfl⟩,q _ e1 ⟨_,ao _ (bf _ rfl),rfl,rfl⟩ (by rw[iz,n1]) λy o z=>ao _ (ao _ z)⟩
end
end EnT
namespace L2
open PySem PySem.Spec EnT
theorem Inv.aap{ch:List Addr}(I:Inv X pins σ H s)(hf:∀b∈ch,Wu X pins H b)(k:∀b o,b∉ch->s.heap.get? b=some o->h'.get? b=some o)(hn:s.heap.objs.size<=n)(new:zx X.prog X.w (upd H n (.tup vs)) h' n (.tup vs)):Inv X pins σ (upd H n (.tup vs)) { s with heap:=h',toks:=t' }:=by
 have fr:H n=none:=I.hok.fresh hn;have nch:∀b u,H b=some u->b∉ch:=λb u e z=>by rw[(hf b z).1] at e;cases e
 have old:∀b o,s.heap.get? b=some o->b≠n:=λb o e=>dj (gh (au e) hn)
 refine I.step (g':=s.gens) (d':=s.drawn) (ch:=ch) (λb hb=>⟨(hf b hb).2.2.2.1,(hf b hb).2.1,(hf b hb).2.2.2.2.1,(hf b hb).2.2.2.2.2⟩) (λb o _ _ hc e _=>k b o hc e) (λb o _ _ hc e _=>⟨o.slots,k b o hc e⟩) (λb o _ e n0=>by rw[j4 (old b o e)];exact n0)
  (λb o hc e=>⟨o,k b o hc e⟩) (λb xs e=>by rw[j4 (j5 e fr)];exact e) (λb o u e=>by rw[j4 (j5 e fr)];exact e) (λb ps e=>⟨#[],by rw[j4 (j5 e fr),e];simp⟩) (λm hm=>?_) (λb u e=>?_) I.bare
 . obtain⟨o,es,ep,ho,r⟩:=hm
   exact⟨o,es,ep,k _ o (λz=>(hf _ z).2.1 rfl) ho,r⟩
 . by_cases z:b=n
   . subst z;rw[uy] at e;cases e;exact new
   . rw[j4 z] at e
     refine(I.hok b u e).stay (λc v hc q=>k c v ?_ q) (λc q=>by rw[j4 (j5 q fr)];exact q) λc xs q=>by rw[j4 (j5 q fr)];exact q
     rcases hc with y|y
     . rw[y];exact nch b u e
     . exact nch c _ y
theorem Inv.ah5{ch:List Addr}(I:Inv X pins σ H s)(hf:∀b∈ch,Wu X pins H b)(k:∀b o,b∉ch->s.heap.get? b=some o->h'.get? b=some o):Inv X pins σ H { s with heap:=h',toks:=t' }:=by
 have nch:∀b u,H b=some u->b∉ch:=λb u e z=>by rw[(hf b z).1] at e;cases e
 refine I.step (g':=s.gens) (d':=s.drawn) (ch:=ch) (λb hb=>⟨(hf b hb).2.2.2.1,(hf b hb).2.1,(hf b hb).2.2.2.2.1,(hf b hb).2.2.2.2.2⟩) (λb o _ _ hc e _=>k b o hc e) (λb o _ _ hc e _=>⟨o.slots,k b o hc e⟩) (λb o _ e n0=>n0)
  (λb o hc e=>⟨o,k b o hc e⟩) (λb xs e=>e) (λb o u e=>e) (λb ps e=>⟨#[],by rw[e];simp⟩) (λm hm=>?_) (λb u e=>?_) I.bare
 . obtain⟨o,es,ep,ho,r⟩:=hm
   exact⟨o,es,ep,k _ o (λz=>(hf _ z).2.1 rfl) ho,r⟩
 . refine(I.hok b u e).stay (λc v hc q=>k c v ?_ q) (λ_ q=>q) λ_ _ q=>q
   rcases hc with y|y
   . rw[y];exact nch b u e
   . exact nch c _ y
def SqX(b:Bool)(K:Fg)(H:Hp)(a:Addr)(xs:List V):Prop:=cond b (Ml K H a xs) (Jv K H a xs)
theorem Inv.ab0(I:Inv X pins σ H s)(h:SqX b X.K H a xs):∃its,Vals xs its/\Vu b s.heap a its.toArray:=by
 cases b with
 |true=>obtain⟨its,rv,p,hz⟩:=I.tuple h;exact⟨its,rv,show s.heap.IsTuple a its.toArray from p⟩
 |false=>obtain⟨its,rv,p,hz⟩:=I.list h;exact⟨its,rv,p.isList⟩
theorem Inv.Yg(I:Inv X pins σ H s)(h:SqX b X.K H a xs)(g:SqX b X.K H a ys):xs=ys:=by
 cases b with
 |true=>exact I.Zq h g|false=>exact I.adg h g
def Ien(b:Bool)(K:Fg)(a:Addr):It :=
 ⟨λi H=>∃xs x,SqX b K H a xs/\xs[i]?=some x,λi H v H'=>∃p x,v=.ref p/\H p=none/\H'=upd H p (.tup [.int (i:Nat),x])/\∀xs,SqX b K H a xs->xs[i]?=some x,λi H=>∃xs,SqX b K H a xs/\xs.length<=i⟩
set_option tactic.hygienic true in
theorem atk(a e it:Addr)(ne:e≠it):Turn P w K (.Tuple ts k0 pt) (Ien b K a) [e,it] e (λi h=>(∃old,IsEnum h e it ((i:Nat):Int) old)/\Ow b h it a i) where
 mem:=by simp
 obj:=λi h st c hc=>by
  obtain⟨⟨old,e1⟩,e2⟩:=st;rcases bw.mp hc with z|z
  . subst z;exact⟨_,e1,λv z=>by cases z⟩
  . have z:c=it:=by simpa using z
    subst z;exact e2.obj
 keep:=λi h h' st k=>by obtain⟨⟨old,e1⟩,e2⟩:=st;exact⟨⟨old,k e (by simp) _ e1⟩,e2.at λo z=>k it (by simp) o z⟩
 item:=by
  intro X hP hw hK hc i pins s σ H E I hf st hg;subst hP hw hK;obtain⟨xs,x,hq,hx⟩:=hg;obtain⟨its,rv,p⟩:=I.ab0 hq;obtain⟨u,hu,ru⟩:=rv.get hx;obtain⟨⟨old,e1⟩,e2⟩:=st;have lt:e<s.heap.objs.size:=au e1
  refine ath e1 e2 p (x:=u) (by simpa using hu) ne λh1 o1 a1 t1 n1 k1=>⟨_,rfl,?_⟩
  refine wpAny_letOwnedTupleGo_enum o1 λh2 o2 s2=>?_
  have s2:Heap.SameBut e h1 h2:=s2;have t2:h2.get? s.heap.objs.size=some { cls:=.type "tuple",data:=.seq #[.int i s.toks,u] }:=(s2.2 _ (vf lt)).trans t1;refine⟨.ref s.heap.objs.size,upd H s.heap.objs.size (.tup [.int (i:Nat),x]),I.aap (t':=s.toks+1) hf (λc o hc z=>?_) (bc _) ⟨by show 2<=sizeLine;decide,[.int i s.toks,u],.cons ⟨s.toks,rfl⟩ (.cons ru .nil),⟨_,t2,rfl,_,rfl,rfl⟩⟩,rfl,
   ⟨_,x,rfl,I.hok.fresh (bc _),rfl,λys hy=>by rw[I.Yg hy hq];exact hx⟩,⟨⟨u,?_⟩,a1.at λo z=>s2.extBut it o (jz ne) z⟩,λc hc=>?_⟩
  . have c1:c≠e:=λz=>hc (by simp[z])
    have c2:c≠it:=λz=>hc (by simp[z])
    exact s2.extBut c o c1 (k1 c o c1 c2 z)
  . have q:((i+1:Nat):Int)=(i:Int)+1:=by push_cast;rfl
    rw[q];exact o2
  . have lt2:c<s.heap.objs.size:=by
     rcases bw.mp hc with z|z
     . rw[z];exact lt
     . have z:c=it:=by simpa using z
       obtain⟨o,z2,_⟩:=e2.obj;rw[z];exact au z2
    rw[j4 (dj lt2)];exact(hf c hc).1
 done:=by intro X hP hw hK hc i pins s σ H E I hf st hg;subst hP hw hK;obtain⟨xs,hq,hx⟩:=hg;obtain⟨its,rv,p⟩:=I.ab0 hq;obtain⟨⟨old,e1⟩,e2⟩:=st;have hl:=rv.length;refine ati (I.ok.hd hc) e1 e2 p (by simp;exact a_ (g_ hl) hx) λh' eb=>⟨rfl,I.ah5 (t':=s.toks) hf λc o hc z=>eb c o (λy=>hc (by simp[y])) z⟩
 self:=λ_ _ _ _ _ st h=>by obtain⟨⟨old,e1⟩,e2⟩:=st;exact wpAny_pyIter_enum e1 h
theorem a5k(hg:Gl X "enumerate")(hm:X.mg "enumerate" = none)(ha:PA X [a] ta)(hs:starEach [a] X.env=[(false,eval a X.env)]) :
 PI X (.Tuple ts k0 pt) (.Call (.Name "enumerate" p) [a] [] pos) (fun σ H R=>ta σ H λvs H1=>∃b q,vs=[.ref q]/\(∃xs,SqX b X.K H1 q xs)/\R (Ien b X.K q) H1):=by
 intro pins s σ H R I h;refine Eh (G8 I hg hm (show bootBuiltins "enumerate" = some (.type "enumerate") by decide+kernel) (iw (Bp (ha pos pins s σ H _ I h) λus s1 ⟨vs,H1,I1,r1,q1⟩=>?_) hs rfl));obtain⟨b,q,rfl,⟨xs,hq⟩,hR⟩:=q1;cases r1 with
 |cons r rr =>
  cases rr;cases r;obtain⟨its,rv,p⟩:=I1.ab0 hq;have fin:∀h',IsEnum h' (s1.heap.objs.size+1) s1.heap.objs.size 0 .none->Ow b h' s1.heap.objs.size q 0->(∀y o,s1.heap.get? y=some o->h'.get? y=some o) ->
   wpAny (model X.prog X.w) X.A (pyIter (.ref (s1.heap.objs.size+1))) (PIE X pins σ (.Tuple ts k0 pt) R) X.xe { s1 with heap:=h' }:=λh' e1 e2 kk=>by
   refine wpAny_pyIter_enum e1 ?_;refine⟨s1.heap.objs.size+1,[s1.heap.objs.size+1,s1.heap.objs.size],_,_,H1,rfl,I1.kept (t':=s1.toks) kk,atk (b:=b) q _ _ (Nat.succ_ne_self _),⟨⟨.none,e1⟩,e2⟩,λc hc=>?_,hR⟩;have hle:s1.heap.objs.size<=c:=by
    rcases bw.mp hc with z|z
    . rw[z];exact qj _
    . have z:c=s1.heap.objs.size:=by simpa using z
      rw[z];exact bc _
   exact I1.alo hle (I1.hok.fresh hle)
  cases b with
  |true=>exact aoe p λh' e1 e2 _ kk=>fin h' e1 e2 kk
  |false=>exact call_enumerate_list p λh' e1 e2 _ kk=>fin h' e1 e2 kk
end L2
namespace Sm
open PySem L2
open MW (Ex Dr Z3 Rp Fl m7 Lv Tg Res Store MO Dy Cp Op2 Blt Bm Kx Src)
section
variable{nm:Nm}{W:Dy}{X:Cx}{a b c o:Expr}{a' b' c' o':Ex}{pos pos' apos:Pos}{ι:Io}{H:Hp}{σ:St}{ρ:En}{M M1 M2:Store}{x y:Dv}{es:List Expr}{es':Dr}{k n f:Nat}{fa C:Addr}{fd:FuncData}{ps:List Str}{m:Str}
theorem aj7{i:Nat}(h:(MW.Ks ds 0)[i]?=some d):∃z,ds[i]?=some z/\d=.tup [.int (i:Nat),z]:=by
 unfold MW.Ks at h;rw[jk,zq] at h;cases e:ds[i]? with
 |none=>rw[e] at h;simp at h|some z=>rw[e] at h;simp at h;exact⟨z,rfl,h.symm⟩
theorem ah6(r:kj X.K ι H ds vs)(hk:∀ι1 H1,LeX ι H ι1 H1->SqX bb X.K H1 q vs):am3 nm X.K ι H (.con (MW.Ks ds 0)) (Ien bb X.K q):=fun ι1 H1 M1 le S1=>by
 refine⟨λi d hi hd=>?_,λ_=>⟨vs,hk ι1 H1 le,?_⟩⟩
 . obtain⟨z,e1,rfl⟩:=aj7 (show(MW.Ks ds 0)[i]?=some d from hd)
   obtain⟨v,g1,g2⟩:=(r.Ie le).get e1;refine⟨⟨vs,v,hk ι1 H1 le,g1⟩,λu H2 ⟨p,x,e2,e3,e4,e5⟩=>?_⟩;have ex:x=v:=by have:=e5 vs (hk ι1 H1 le);rw[g1] at this;cases this;rfl
   subst ex e2 e4;obtain⟨S2,le2,r2⟩:=Ob (X:=X) S1 e3 (.cons (.int _) (.cons g2 .nil));exact⟨le2,S2,r2⟩
 . show vs.length<=(MW.Ks ds 0).length
   rw[<- r.length];simp[MW.Ks]
theorem a5l(hg:Gl X "enumerate")(hm:X.mg "enumerate" = none)(ha:PE X a (tE nm W X.K a'))(hst:noStar a=true):PI X (.Tuple ts k0 pt) (.Call (.Name "enumerate" pr) [a] [] pos) (tI nm W X.K (.enm a')):=by
 intro pins s0 σ H R' I hh;obtain⟨ι,ρ,M,s,M',S,R,e,q⟩:=hh;rw[MW.ahq] at e;obtain⟨x,M1,e1,e⟩:=dm e;refine PI.weak (a5k (ts:=ts) (k0:=k0) (pt:=pt) (p:=pr) (pos:=pos) hg hm (Mm ha Uj (ju hst _ _)) (ju hst _ _)) (wi':=fun σ0 H0 R0=>σ0=σ/\H0=H/\R0=R') (fun σ0 H0 R0 ⟨z1,z2,z3⟩=>?_) pins s0 σ H R' I ⟨rfl,rfl,rfl⟩;subst z1 z2 z3;refine Xu (es':=.cons a' .nil) (ds:=[x]) (M1:=M1) S R (by rw[MW.Kq,e1];simp) fun ι1 H1 vs le S1 R1 r=>?_
 cases r with
 |cons r1 r2 =>
  cases r2;cases r1 with
  |@tup p ds us h1 rr =>
   cases e;exact⟨true,p,rfl,⟨us,Ml.of h1⟩,q ι1 H1 _ le S1 (ah6 rr fun ι2 H2 le2=>Ml.of (le2.tup _ _ h1))⟩
  |@vl p ds us h1 n1 rr =>
   cases e;exact⟨false,p,rfl,⟨us,Jv.of h1⟩,q ι1 H1 _ le S1 (ah6 rr fun ι2 H2 le2=>Jv.of (le2.lst _ _ n1.1 h1))⟩
  |_=>cases e
set_option tactic.hygienic true in
theorem aze:Ge X (binaryOp .Add) (rOp nm X.K (MW.Kg .amf)) :=
 Ge.of al5 λv u H Q ι M x y d M' S rv ru e q=>by
  have e:MW.af6 x y M=.ok d M':=e;unfold MW.af6 at e;split at e<;>try cases e
  rename_i xs ys h1 h2
  by_cases hl:xs.length+ys.length<=100000
  case neg=>rw[bz hl] at e;cases e
  rw[cu hl] at e;obtain⟨p,vs,rfl,g1,r1⟩:=uw S rv h1;obtain⟨p2,vs2,rfl,g2,r2⟩:=uw S ru h2;refine⟨p,p2,vs,vs2,rfl,rfl,g1,g2,by rw[<- r1.length,<- r2.length];exact ig hl Ui,λp3 h3=>?_⟩;have e:Res.ok (MW.D.ref M.length) (M++[.lst (xs++ys)])=.ok d M':=e;cases e;obtain⟨z1,z2,z3⟩:=W6 S h3 (r1.append r2);exact q _ _ _ z2 z1 z3
theorem atl{mi ci:Nat}{cl:MW.Cl}{pl:Sem Bool}(ho:PE X o (tE nm W X.K o'))(c0:Cls X.K C)(hme:Meth X.K C m fa)(F:Ij X.prog X.w X.K X.mg X.base CX0 k fa fd ps (spF nm W X.K 1 f))(hr:zj k X.A)(hb:Binds X.K fd ps [])
 (ayz:∀c' cl',W.cls[c']?=some cl'->∀g,cl'.meths.lookup mi=some g->nm.cls c'=some C/\g=f) (hno:∀i,nm.fld i≠m)
 (ht:eval (.Call (.Attribute o m apos) [] [] pos) X.env=(do
  let ov <- eval o X.env
  standAt apos.atName
  let (f,first) <- holding [ov] (getMethod ov m pl)
  callWith pos f first (backTo pos (starEach [] X.env)) (backToKw pos (keywordEach [] X.env)))) :
 PE X (.Call (.Attribute o m apos) [] [] pos) (tE nm W X.K (.meth o' mi .nil)) :=
 PE.of (alz (E:=E0) ho c0 hme F hr hb .nil ahk ht) fun σ H Q ι ρ M d M' S R e q=>by
  rw[MW.Xl] at e;obtain⟨x,M1,e1,e⟩:=dm e;rw[MW.Ug] at e;refine one S R e1 fun ι1 H1 v le S1 R1 r=>?_
  obtain⟨j,hx⟩:∃j,x=.ref j:=by cases x<;>first|exact⟨_,rfl⟩|cases e
  subst hx;obtain⟨p,rfl,hp⟩:∃p,v=.ref p/\ι1.l[j]?=some p:=by cases r with|ref z=>exact⟨_,rfl,z⟩
  have e:(match M1[j]? with
   | some (.ins c _)=>(match(W.cls[c]?).bind λC=>C.meths.lookup mi with
    | some f=>W.call f [.ref j] M1|none=>.bad)
   | _=>.bad)=Res.ok d M':=e
  cases hM:M1[j]? with
  |none=>rw[hM] at e;cases e
  |some ob =>
   rw[hM] at e;cases ob with
   |ins ci fs =>
    have e:(match(W.cls[ci]?).bind λC=>C.meths.lookup mi with|some f=>W.call f [.ref j] M1|none=>.bad)=Res.ok d M':=e;cases hL:(W.cls[ci]?).bind λC=>C.meths.lookup mi with
    |none=>rw[hL] at e;cases e
    |some g =>
     rw[hL] at e;have e:W.call g [.ref j] M1=.ok d M':=e;obtain⟨cl',h1,h2⟩:=dg.mp hL;obtain⟨h3,rfl⟩:=ayz ci cl' h1 g h2;obtain⟨C',dx,l,g1,g2,g3⟩:=S1.obj j _ p hM hp;rw[h3] at g1;cases g1;exact⟨p,dx,l,rfl,g2,Xx hno g3,ι1,M1,[.ref j],d,M',S1,.cons r .nil,rfl,e,fun ι' H' v W5 S' r'=>q ι' H' v (le.trans W5) S' r'⟩
   |_=>cases e
theorem atm:PS X st (tS nm W X.K (.raise ci es')):=λpins s σ H D I hh=>by obtain⟨ι,ρ,M,fl,ρ',M',S,R,e,q⟩:=hh;rw[MW.ams] at e;obtain⟨x,M1,e1,e⟩:=dm e;cases e
theorem awb(h:PE X a t):PE X (.BoolOp op [a] pos) t:=λpins s σ H Q I q=>PyProof.Rows.BoolOp_one (h pins s σ H Q I q)
end
end Sm
namespace EnT
open PySem PySem.Spec
theorem Vu.at(x:Vu b h a xs)(k:∀o,h.get? a=some o->h'.get? a=some o):Vu b h' a xs:=by
 cases b with
 |true=>obtain⟨o,e,r⟩:=x;exact⟨o,k o e,r⟩
 |false=>obtain⟨o,e,r⟩:=x;exact⟨o,k o e,r⟩
theorem Vu.obj(x:Vu b h a xs):∃o,h.get? a=some o:=by
 cases b with
 |true=>obtain⟨o,e,_⟩:=x;exact⟨o,e⟩
 |false=>obtain⟨o,e,_⟩:=x;exact⟨o,e⟩
def itO(b:Bool)(a:Addr):Obj:={ cls:=.type (cond b "tuple_iterator" "list_iterator"),data:=.fields #[.ref a,.int 0 0] }
section
variable{prog:Program}{w:World}{A:Around}{E:Value->Shared->Prop}{s:Shared}{b1 b2:Bool}
theorem aof(c:Vu b s.heap a xs)(q:Q (.ref s.heap.objs.size) { s with heap:=s.heap.push (itO b a) }):wpAny (model prog w) A (pyIter (.ref a)) Q E s:=by
 cases b with
 |true=>exact xq c q|false=>exact yj c q
theorem atn{Q:Value->Shared->Prop}(D:ZipApart z TI TO i1 i2 l1 l2)(hz:IsZip s.heap z TI TO .none)(hI:IsPair s.heap TI (.ref i1) (.ref i2))(hO:IsPair s.heap TO p q)(a1:Ow b1 s.heap i1 l1 k)(a2:Ow b2 s.heap i2 l2 k)(c1:Vu b1 s.heap l1 xs)(c2:Vu b2 s.heap l2 ys)(ex:xs[k]?=some x)(ey:ys[k]?=some y)(hq:∀h',IsZip h' z TI TO (rawInt s.heap.objs.size)->IsPair h' TO x y->Ow b1 h' i1 l1 (k+1)->Ow b2 h' i2 l2 (k+1)->IsPair h' s.heap.objs.size x y->h'.objs.size=s.heap.objs.size+1 ->
 (∀c o,c≠z->c≠TO->c≠i1->c≠i2->s.heap.get? c=some o->h'.get? c=some o)->Q (.ref s.heap.objs.size) { s with heap:=h' }) :
 wpAny (model prog w) A (Builtin.«zip.__next__» ⟨[.ref z],[]⟩) (λfin s'=>∃v,fin=.done (.ret v)/\Q v s') E s:=by
 show wpAny _ _ (field (.ref z) 2 >>= _) _ _ _;refine aa (fu hz rfl (x:=.bool false) rfl (aa (fu hz rfl (x:=.ref TI) rfl (aa (lz hI rfl (aa ?_))))));unfold Builtin.SmallTypes.ownedTupleIsFree;refine aa (fu hz rfl (x:=.none) rfl (aj ?_));simp only[jq];refine aa (ur (aa (fu hz rfl (x:=.ref TO) rfl (aa (gr hz (by simp) λg1 z1 s1=>?_)))));have z1:IsZip g1 z TI TO .ellipsis:=z1;refine aa ?_;simp only[List.zipIdx_cons,List.zipIdx_nil,Dg,Hg];refine aa (aa (Ak ?_));refine aa (Us (s:={ s with heap:=g1 }) (a1.at λo e=>s1.extBut _ o D.i1z e) (c1.at λo e=>s1.extBut _ o D.l1z e) ex λg2 e2 s2=>aj ?_);have O2:IsPair g2 TO p q:=s2.extBut _ _ D.TOi1 (s1.extBut _ _ D.TOz hO);refine aa (lz O2 rfl (aa (zp O2 λg3 O3 s3=>?_)));have O3:IsPair g3 TO x q:=O3;have k3:∀c o,c≠z->c≠TO->c≠i1->s.heap.get? c=some o->g3.get? c=some o:=λc o y1 y2 y3 e=>s3.extBut _ _ y2 (s2.extBut _ _ y3 (s1.extBut _ _ y1 e))
 refine aa (Bw (aj (aa (aa (Ak ?_)))));refine aa (Us (s:={ s with heap:=g3 }) (a2.at λo e=>k3 _ o D.i2z D.TOi2.symm D.i12.symm e) (c2.at λo e=>k3 _ o D.l2z D.l2TO D.l2i1 e) ey λg4 e4 s4=>aj ?_);have O4:IsPair g4 TO x q:=s4.extBut _ _ D.TOi2 O3;refine aa (lz O4 rfl (aa (zp O4 λg5 O5 s5=>?_)));have O5:IsPair g5 TO x y:=O5;refine aa (Bw (aj (aj (aa (lz O5 rfl (aa (wpAny_newTuple ?_)))))));have n5:g5.objs.size=s.heap.objs.size:=by rw[s5.1,s4.1,s3.1,s2.1,s1.1]
 have k5:∀c o,c≠z->c≠TO->c≠i1->c≠i2->s.heap.get? c=some o->g5.get? c=some o:=λc o y1 y2 y3 y4 e=>s5.extBut _ _ y2 (s4.extBut _ _ y4 (k3 c o y1 y2 y3 e))
 have z5:IsZip g5 z TI TO .ellipsis:=s5.extBut _ _ D.TOz.symm (s4.extBut _ _ D.i2z.symm (s3.extBut _ _ D.TOz.symm (s2.extBut _ _ D.i1z.symm z1)));have f1:Ow b1 g5 i1 l1 (k+1):=e2.at λo e=>s5.extBut _ _ D.TOi1.symm (s4.extBut _ _ D.i12 (s3.extBut _ _ D.TOi1.symm e))
 have f2:Ow b2 g5 i2 l2 (k+1):=e4.at λo e=>s5.extBut _ _ D.TOi2.symm e
 have zl:z<g5.objs.size:=au z5
 have z6:IsZip (g5.push { cls:=.type "tuple",data:=.seq #[x,y] }) z TI TO .ellipsis:=ao _ z5;refine aa ?_;unfold Builtin.SmallTypes.ownedTupleHandOut;refine aa (gr z6 (by simp) λg7 z7 s7=>?_);have z7:IsZip g7 z TI TO (rawInt g5.objs.size):=z7;refine gr z7 (by simp) λg8 z8 s8=>?_
 have z8:IsZip g8 z TI TO (rawInt g5.objs.size):=z8;have up:∀c o,c≠z->g5.get? c=some o->g8.get? c=some o:=λc o y1 e=>s8.extBut _ _ y1 (s7.extBut _ _ y1 (ao _ e))
 have t8:IsPair g8 g5.objs.size x y:=s8.extBut _ _ (vf zl) (s7.extBut _ _ (vf zl) (bf _ rfl));have n8:g8.objs.size=g5.objs.size+1:=by rw[s8.1,s7.1,iz]
 rw[n5] at z8 t8 n8;refine aj ⟨_,rfl,?_⟩;show Q (.ref g5.objs.size) _;rw[n5];exact hq g8 z8 (up _ _ D.TOz O5) (f1.at λo e=>up _ o D.i1z e) (f2.at λo e=>up _ o D.i2z e) t8 n8 λc o y1 y2 y3 y4 e=>up c o y1 (k5 c o y1 y2 y3 y4 e)
theorem azf(hd:A.handled=none)(D:ZipApart z TI TO i1 i2 l1 l2)(hz:IsZip s.heap z TI TO .none)(hI:IsPair s.heap TI (.ref i1) (.ref i2))(hO:IsPair s.heap TO p q)(a1:Ow b1 s.heap i1 l1 k)(a2:Ow b2 s.heap i2 l2 k)(c1:Vu b1 s.heap l1 xs)(c2:Vu b2 s.heap l2 ys)(he:xs[k]?=none\/ys[k]?=none)(hE:∀h' e,(∀c o,c≠z->c≠TO->c≠i1->c≠i2->s.heap.get? c=some o->h'.get? c=some o)->(∃o,h'.get? e=some o/\o.cls=.type "StopIteration")->E (.ref e) { s with heap:=h' }) :
 wpAny (model prog w) A (Builtin.«zip.__next__» ⟨[.ref z],[]⟩) Q E s:=by
 show wpAny _ _ (field (.ref z) 2 >>= _) _ _ _;refine aa (fu hz rfl (x:=.bool false) rfl (aa (fu hz rfl (x:=.ref TI) rfl (aa (lz hI rfl (aa ?_))))));unfold Builtin.SmallTypes.ownedTupleIsFree;refine aa (fu hz rfl (x:=.none) rfl (aj ?_));simp only[jq];refine aa (ur (aa (fu hz rfl (x:=.ref TO) rfl (aa (gr hz (by simp) λg1 z1 s1=>?_)))));have z1:IsZip g1 z TI TO .ellipsis:=z1;have stop:∀(g:Heap)(x:Addr)(o:Obj),IsZip g z TI TO .ellipsis->g.get? x=some o->o.cls=.type "StopIteration" -> x≠z:=λg x o e1 e2 e3 y=>by subst y;rw[e1] at e2;cases e2;simp at e3
 refine aa ?_;simp only[List.zipIdx_cons,List.zipIdx_nil,Dg,Hg];refine aa (aa (Ak ?_));have A1:=a1.at (h':=g1) λo e=>s1.extBut _ o D.i1z e
 have C1:=c1.at (h':=g1) λo e=>s1.extBut _ o D.l1z e
 cases hx:xs[k]? with
 |none =>
  refine aa (abz (s:={ s with heap:=g1 }) hd A1 C1 hx λg2 x s2 ⟨o,o1,o2⟩=>?_);have z2:IsZip g2 z TI TO .ellipsis:=s2 _ _ D.i1z.symm z1;exact gr z2 (by simp) λg3 _ s3=>hE g3 x (λc o y1 _ y3 _ e=>s3.extBut _ _ y1 (s2 _ _ y3 (s1.extBut _ _ y1 e))) ⟨o,s3.extBut _ _ (stop _ _ _ z2 o1 o2) o1,o2⟩
 |some x =>
  have ey:ys[k]?=none:=by rcases he with h|h;rw[hx] at h;cases h;exact h
  refine aa (Us (s:={ s with heap:=g1 }) A1 C1 hx λg2 e2 s2=>aj ?_);have O2:IsPair g2 TO p q:=s2.extBut _ _ D.TOi1 (s1.extBut _ _ D.TOz hO);refine aa (lz O2 rfl (aa (zp O2 λg3 O3 s3=>?_)));have k3:∀c o,c≠z->c≠TO->c≠i1->s.heap.get? c=some o->g3.get? c=some o:=λc o y1 y2 y3 e=>s3.extBut _ _ y2 (s2.extBut _ _ y3 (s1.extBut _ _ y1 e))
  refine aa (Bw (aj (aa (aa (Ak ?_)))));refine aa (abz (s:={ s with heap:=g3 }) hd (a2.at λo e=>k3 _ o D.i2z D.TOi2.symm D.i12.symm e) (c2.at λo e=>k3 _ o D.l2z D.l2TO D.l2i1 e) ey λg4 x s4 ⟨o,o1,o2⟩=>?_);have z4:IsZip g4 z TI TO .ellipsis:=s4 _ _ D.i2z.symm (s3.extBut _ _ D.TOz.symm (s2.extBut _ _ D.i1z.symm z1));exact gr z4 (by simp) λg5 _ s5=>hE g5 x (λc o y1 y2 y3 y4 e=>s5.extBut _ _ y1 (s4 _ _ y4 (k3 c o y1 y2 y3 e))) ⟨o,s5.extBut _ _ (stop _ _ _ z4 o1 o2) o1,o2⟩
set_option tactic.hygienic true in
theorem ato(D:ZipApart z TI TO i1 i2 l1 l2)(hz:IsZip s.heap z TI TO .none)(hI:IsPair s.heap TI (.ref i1) (.ref i2))(hO:IsPair s.heap TO p q)(a1:Ow b1 s.heap i1 l1 k)(a2:Ow b2 s.heap i2 l2 k)(c1:Vu b1 s.heap l1 xs)(c2:Vu b2 s.heap l2 ys)(ex:xs[k]?=some x)(ey:ys[k]?=some y)(hq:∀h',IsZip h' z TI TO (rawInt s.heap.objs.size)->IsPair h' TO x y->Ow b1 h' i1 l1 (k+1)->Ow b2 h' i2 l2 (k+1)->IsPair h' s.heap.objs.size x y->h'.objs.size=s.heap.objs.size+1 ->
 (∀c o,c≠z->c≠TO->c≠i1->c≠i2->s.heap.get? c=some o->h'.get? c=some o)->Q (some (.ref s.heap.objs.size)) { s with heap:=h' }):wpAny (model prog w) A (pyNext (.ref z)) Q E s:=by
 have ty:s.TypeIs (.ref z) "zip" := ⟨_,hz,rfl⟩;unfold pyNext;refine aa (vo (jn (name:=Str.ofString "__next__") ty zb (il zb ty F.entry_zip_next ?_ (F.args_zip_next_1 _))));exact atn D hz hI hO a1 a2 c1 c2 ex ey λh' y1 y2 y3 y4 y5 y6 y7=>aj (hq h' y1 y2 y3 y4 y5 y6 y7)
set_option tactic.hygienic true in
theorem atp(hd:A.handled=none)(D:ZipApart z TI TO i1 i2 l1 l2)(hz:IsZip s.heap z TI TO .none)(hI:IsPair s.heap TI (.ref i1) (.ref i2))(hO:IsPair s.heap TO p q)(a1:Ow b1 s.heap i1 l1 k)(a2:Ow b2 s.heap i2 l2 k)(c1:Vu b1 s.heap l1 xs)(c2:Vu b2 s.heap l2 ys)(he:xs[k]?=none\/ys[k]?=none)(hq:∀h',(∀c o,c≠z->c≠TO->c≠i1->c≠i2->s.heap.get? c=some o->h'.get? c=some o)->Q none { s with heap:=h' }):wpAny (model prog w) A (pyNext (.ref z)) Q E s:=by
 have ty:s.TypeIs (.ref z) "zip" := ⟨_,hz,rfl⟩;unfold pyNext;refine aa (vo (jn (name:=Str.ofString "__next__") ty zb (il zb ty F.entry_zip_next ?_ (F.args_zip_next_1 _))));refine azf hd D hz hI hO a1 a2 c1 c2 he λh' e k ⟨o,o1,o2⟩=>?_
 exact aa (km (T := "StopIteration") (b:=true) ⟨o,o1,o2⟩ Cw (aj (hq _ k)))
end
def zH2(b1 b2:Bool)(h:Heap)(l1 l2:Addr):Heap:=(h.push (itO b1 l1)).push (itO b2 l2)
def zH3(b1 b2:Bool)(h:Heap)(l1 l2:Addr):Heap:=(zH2 b1 b2 h l1 l2).push { cls:=.type "tuple",data:=.seq #[.ref h.objs.size,.ref (h.push (itO b1 l1)).objs.size] }
def zH4(b1 b2:Bool)(h:Heap)(l1 l2:Addr):Heap:=(zH3 b1 b2 h l1 l2).push { cls:=.type "tuple",data:=.seq #[.none,.none] }
def zH5(b1 b2:Bool)(h:Heap)(l1 l2:Addr):Heap:=(zH4 b1 b2 h l1 l2).push { cls:=.type "zip",data:=.fields #[.none,.bool false,.bool false,.ref (zH2 b1 b2 h l1 l2).objs.size,.ref (zH3 b1 b2 h l1 l2).objs.size] }
theorem ab1(b1 b2:Bool)(l1 l2:Addr)(xs ys:Array Value) :
 Meets (Builtin.«zip.__new__» ⟨[.type "zip",.ref l1,.ref l2],[]⟩) (λ_ R s=>Vu b1 s.heap l1 xs/\Vu b2 s.heap l2 ys /\
  R (.ok (.ret (.ref (zH4 b1 b2 s.heap l1 l2).objs.size))) { s with heap:=zH5 b1 b2 s.heap l1 l2 }) :=
 .of_wp λprog w A R s h=>by
  obtain⟨hp,g,d,tk,os⟩:=s;obtain⟨hl1,hl2,h⟩:=h;have hsub:=sub_zip;have hL1:Vu b1 (Shared.heap ⟨hp,g,d,tk,os⟩) l1 xs:=hl1;have hL2:Vu b2 (Shared.heap ⟨hp.push (itO b1 l1),g,d,tk,os⟩) l2 ys:=Vu.at hl2 λo e=>ao _ e
  wp_walk using aof hL1,aof hL2
  exact⟨_,rfl,h⟩
section
variable{prog:Program}{w:World}{A:Around}{E:Value->Shared->Prop}{s:Shared}{b1 b2:Bool}
theorem Ow.new(e:h.get? i=some (itO b a)):Ow b h i a 0:=by
 cases b with
 |true=>exact⟨_,e,rfl,rfl⟩|false=>exact⟨_,e,rfl,rfl⟩
theorem atq(hl1:Vu b1 s.heap l1 xs)(hl2:Vu b2 s.heap l2 ys)(h:∀h',IsZip h' (s.heap.objs.size+4) (s.heap.objs.size+2) (s.heap.objs.size+3) .none->IsPair h' (s.heap.objs.size+2) (.ref s.heap.objs.size) (.ref (s.heap.objs.size+1)) ->
 IsPair h' (s.heap.objs.size+3) .none .none->Ow b1 h' s.heap.objs.size l1 0->Ow b2 h' (s.heap.objs.size+1) l2 0 ->
 (∀c o,s.heap.get? c=some o->h'.get? c=some o)->Q (.ref (s.heap.objs.size+4)) { s with heap:=h' }) :
 wpAny (model prog w) A (call (.type "zip") [.ref l1,.ref l2]) Q E s:=by
 refine callType_new F.called_zip (by decide) (F.typeCall_zip_2 _ _) (F.newCall_zip_2 _ _) (λobj=>F.args_object_init_3 obj _ _) F.entry_zip_new
  (ab1 b1 b2 l1 l2 xs ys) ⟨hl1,hl2,?_⟩
 have z1:(s.heap.push (itO b1 l1)).objs.size=s.heap.objs.size+1:=iz ..;have z2:(zH2 b1 b2 s.heap l1 l2).objs.size=s.heap.objs.size+2:=by unfold zH2;rw[iz,z1]
 have z3:(zH3 b1 b2 s.heap l1 l2).objs.size=s.heap.objs.size+3:=by unfold zH3;rw[iz,z2]
 have z4:(zH4 b1 b2 s.heap l1 l2).objs.size=s.heap.objs.size+4:=by unfold zH4;rw[iz,z3]
 have g5:(zH5 b1 b2 s.heap l1 l2).get? (zH4 b1 b2 s.heap l1 l2).objs.size=some _:=bf _ rfl;have g4:(zH5 b1 b2 s.heap l1 l2).get? (zH3 b1 b2 s.heap l1 l2).objs.size=some _:=ao _ (bf _ rfl);have g3:(zH5 b1 b2 s.heap l1 l2).get? (zH2 b1 b2 s.heap l1 l2).objs.size=some _:=ao _ (ao _ (bf _ rfl));have g2:(zH5 b1 b2 s.heap l1 l2).get? (s.heap.push (itO b1 l1)).objs.size=some _:=ao _ (ao _ (ao _ (bf _ rfl)));have g1:(zH5 b1 b2 s.heap l1 l2).get? s.heap.objs.size=some _:=ao _ (ao _ (ao _ (ao _ (bf _ rfl))));show _/\_;rw[z2,z3,z4] at g5;rw[z1,z2] at g3;rw[z3] at g4;rw[z1] at g2;rw[z4];exact⟨⟨_,g5,rfl⟩,h _ g5 g3 g4 (Ow.new g1) (Ow.new g2) λc o x =>
  ao _ (ao _ (ao _ (ao _ (ao _ x))))⟩
end
end EnT
namespace L2
open PySem PySem.Spec EnT
def Izp(b1 b2:Bool)(K:Fg)(a c:Addr):It :=
 ⟨λi H=>∃xs x ys y,SqX b1 K H a xs/\xs[i]?=some x/\SqX b2 K H c ys/\ys[i]?=some y,λi H v H'=>∃p x y,v=.ref p/\H p=none/\H'=upd H p (.tup [x,y])/\(∀xs,SqX b1 K H a xs->xs[i]?=some x)/\∀ys,SqX b2 K H c ys->ys[i]?=some y,
  λi H=>∃xs ys,SqX b1 K H a xs/\SqX b2 K H c ys/\(xs.length<=i\/ys.length<=i)⟩
theorem atr{TI TO:Addr}(D:ZipApart z TI TO i1 i2 a c):Turn P w K (.Tuple ts k0 pt) (Izp b1 b2 K a c) [z,TI,TO,i1,i2] z
 (λi h=>IsZip h z TI TO .none/\IsPair h TI (.ref i1) (.ref i2)/\(∃p q,IsPair h TO p q)/\Ow b1 h i1 a i/\Ow b2 h i2 c i) where
 mem:=by simp
 obj:=λi h st e hc=>by
  obtain⟨e1,e2,⟨p,q,e3⟩,e4,e5⟩:=st;simp only[bw,my,yp] at hc;rcases hc with rfl|rfl|rfl|rfl|rfl
  . exact⟨_,e1,λv z=>by cases z⟩
  . exact⟨_,e2,λv z=>by cases z⟩
  . exact⟨_,e3,λv z=>by cases z⟩
  . exact e4.obj
  . exact e5.obj
 keep:=λi h h' st k=>by obtain⟨e1,e2,⟨p,q,e3⟩,e4,e5⟩:=st;exact⟨k z (by simp) _ e1,k TI (by simp) _ e2,⟨p,q,k TO (by simp) _ e3⟩,e4.at λo x=>k i1 (by simp) o x,e5.at λo x=>k i2 (by simp) o x⟩
 item:=by
  intro X hP hw hK hc i pins s σ H E I hf st hg;subst hP hw hK;obtain⟨xs,x,ys,y,hq,hx,hq2,hy⟩:=hg;obtain⟨its,rv,p⟩:=I.ab0 hq;obtain⟨its2,rv2,p2⟩:=I.ab0 hq2;obtain⟨u,hu,ru⟩:=rv.get hx;obtain⟨u2,hu2,ru2⟩:=rv2.get hy;obtain⟨e1,e2,⟨o1,o2,e3⟩,e4,e5⟩:=st;have lt:∀b∈[z,TI,TO,i1,i2],b<s.heap.objs.size:=λb hb=>by
   simp only[bw,my,yp] at hb;rcases hb with rfl|rfl|rfl|rfl|rfl
   . exact au e1
   . exact au e2
   . exact au e3
   . obtain⟨o,z2,_⟩:=e4.obj;exact au z2
   . obtain⟨o,z2,_⟩:=e5.obj;exact au z2
  refine ato D e1 e2 e3 e4 e5 p p2 (x:=u) (y:=u2) (by simpa using hu) (by simpa using hu2) λh1 y1 y2 y3 y4 y5 y6 y7=>⟨_,rfl,?_⟩
  refine wpAny_letOwnedTupleGo_zip y1 λh2 w1 s2=>?_
  have s2:Heap.SameBut z h1 h2:=s2;have zl:=lt z (by simp);have t2:h2.get? s.heap.objs.size=some { cls:=.type "tuple",data:=.seq #[u,u2] }:=(s2.2 _ (vf zl)).trans y5;refine⟨.ref s.heap.objs.size,upd H s.heap.objs.size (.tup [x,y]),I.aap (t':=s.toks) hf (λc o hc zz=>?_) (bc _) ⟨by show 2<=sizeLine;decide,[u,u2],.cons ru (.cons ru2 .nil),⟨_,t2,rfl,_,rfl,rfl⟩⟩,rfl,
   ⟨_,x,y,rfl,I.hok.fresh (bc _),rfl,λys hy=>by rw[I.Yg hy hq];exact hx,λys hy'=>by rw[I.Yg hy' hq2];exact hy⟩,
   ⟨w1,s2.extBut _ _ D.TIz (y7 TI _ D.TIz D.TITO D.TIi1 D.TIi2 e2),⟨u,u2,s2.extBut _ _ D.TOz y2⟩,y3.at λo zz=>s2.extBut _ o D.i1z zz,y4.at λo zz=>s2.extBut _ o D.i2z zz⟩,λc hc=>?_⟩
  . have c1:c≠z:=λq=>hc (by simp[q])
    exact s2.extBut c o c1 (y7 c o c1 (λq=>hc (by simp[q])) (λq=>hc (by simp[q])) (λq=>hc (by simp[q])) zz)
  . rw[j4 (dj (lt c hc))]
    exact(hf c hc).1
 done:=by intro X hP hw hK hc i pins s σ H E I hf st hg;subst hP hw hK;obtain⟨xs,ys,hq,hq2,hx⟩:=hg;obtain⟨its,rv,p⟩:=I.ab0 hq;obtain⟨its2,rv2,p2⟩:=I.ab0 hq2;obtain⟨e1,e2,⟨o1,o2,e3⟩,e4,e5⟩:=st;have hl:=rv.length;have hl2:=rv2.length;refine atp (I.ok.hd hc) D e1 e2 e3 e4 e5 p p2 (by simp;lia) λh' eb=>⟨rfl,I.ah5 (t':=s.toks) hf λc o hc zz=>eb c o (λq=>hc (by simp[q])) (λq=>hc (by simp[q])) (λq=>hc (by simp[q])) (λq=>hc (by simp[q])) zz⟩
 self:=λ_ _ _ _ _ st h=>by obtain⟨e1,_⟩:=st;exact wpAny_pyIter_zip e1 h
theorem a5p(hg:Gl X "zip")(hm:X.mg "zip" = none)(ha:PA X [a,c] ta)(hs:starEach [a,c] X.env=(false,eval a X.env)::starEach [c] X.env)(hpl:(backTo pos (starEach [c] X.env)).any (·.1)=false) :
 PI X (.Tuple ts k0 pt) (.Call (.Name "zip" p) [a,c] [] pos) (fun σ H R=>ta σ H λvs H1=>∃b1 b2 q1 q2,vs=[.ref q1,.ref q2]/\(∃xs,SqX b1 X.K H1 q1 xs)/\(∃ys,SqX b2 X.K H1 q2 ys)/\R (Izp b1 b2 X.K q1 q2) H1):=by
 intro pins s σ H R I h;refine Eh (G8 I hg hm (show bootBuiltins "zip" = some (.type "zip") by decide+kernel) (iw (Bp (ha pos pins s σ H _ I h) λus s1 ⟨vs,H1,I1,r1,q1⟩=>?_) hs hpl));obtain⟨b1,b2,q1,q2,rfl,⟨xs,hq⟩,⟨ys,hq2⟩,hR⟩:=q1;cases r1 with
 |cons r rr =>
  cases rr with
  |cons r2 rr =>
   cases rr;cases r;cases r2;obtain⟨its,rv,p⟩:=I1.ab0 hq;obtain⟨its2,rv2,p2⟩:=I1.ab0 hq2;refine atq p p2 λh' e1 e2 e3 e4 e5 kk=>?_
   refine wpAny_pyIter_zip e1 ?_;have l1:q1<s1.heap.objs.size:=by obtain⟨o,e⟩:=p.obj;exact au e
   have l2:q2<s1.heap.objs.size:=by obtain⟨o,e⟩:=p2.obj;exact au e
   refine⟨s1.heap.objs.size+4,_,_,_,H1,rfl,I1.kept (t':=s1.toks) kk,atr (b1:=b1) (b2:=b2) (PyProof.Rows.zipApart_new l1 l2),⟨e1,e2,⟨_,_,e3⟩,e4,e5⟩,λc hc=>?_,hR⟩;have hle:s1.heap.objs.size<=c:=by simp only[bw,my,yp] at hc;rcases hc with rfl|rfl|rfl|rfl|rfl<;>omega
   exact I1.alo hle (I1.hok.fresh hle)
end L2
namespace Sm
open PySem L2
open MW (Ex Dr Z3 Rp Fl m7 Lv Tg Res Store MO Dy Cp Op2 Blt Bm Kx Src)
section
variable{nm:Nm}{W:Dy}{X:Cx}{a b c o:Expr}{a' b' c' o':Ex}{pos pos' apos:Pos}{ι:Io}{H:Hp}{σ:St}{ρ:En}{M M1 M2:Store}{x y:Dv}{es:List Expr}{es':Dr}{k n f:Nat}
theorem aog{ds es:List Dv}{i:Nat}(h:((ds.zip es).map λp=>MW.D.tup [p.1,p.2])[i]?=some d):∃x y,ds[i]?=some x/\es[i]?=some y/\d=.tup [x,y]:=by rw[jk] at h;obtain⟨p,hp,rfl⟩:=bx.mp h;obtain⟨h1,h2⟩:=Ab.mp hp;exact⟨_,_,h1,h2,rfl⟩
theorem ah7(r:Rep X.K ι H x v)(e:MW.abj x=some ds):∃b p us,v=.ref p/\kj X.K ι H ds us/\SqX b X.K H p us/\∀ι2 H2,LeX ι H ι2 H2->SqX b X.K H2 p us:=by
 cases r with
 |@tup p ds us h1 rr=>cases e;exact⟨true,p,us,rfl,rr,Ml.of h1,fun ι2 H2 le2=>Ml.of (le2.tup _ _ h1)⟩
 |@vl p ds us h1 n1 rr=>cases e;exact⟨false,p,us,rfl,rr,Jv.of h1,fun ι2 H2 le2=>Jv.of (le2.lst _ _ n1.1 h1)⟩
 |_=>cases e
theorem atu{es:List Dv}(r1:kj X.K ι H ds vs)(r2:kj X.K ι H es ws)(hk1:∀ι1 H1,LeX ι H ι1 H1->SqX b1 X.K H1 q1 vs)(hk2:∀ι1 H1,LeX ι H ι1 H1->SqX b2 X.K H1 q2 ws) :
 am3 nm X.K ι H (.con ((ds.zip es).map λp=>MW.D.tup [p.1,p.2])) (Izp b1 b2 X.K q1 q2):=fun ι1 H1 M1 le S1=>by
 refine⟨λi d hi hd=>?_,λ_=>⟨vs,ws,hk1 ι1 H1 le,hk2 ι1 H1 le,?_⟩⟩
 . obtain⟨x,y,e1,e2,rfl⟩:=aog hd
   obtain⟨v,g1,g2⟩:=(r1.Ie le).get e1;obtain⟨w,g3,g4⟩:=(r2.Ie le).get e2;refine⟨⟨vs,v,ws,w,hk1 ι1 H1 le,g1,hk2 ι1 H1 le,g3⟩,λu H2 ⟨p,x',y',e5,e6,e7,e8,e9⟩=>?_⟩;have ex:x'=v:=by have:=e8 vs (hk1 ι1 H1 le);rw[g1] at this;cases this;rfl
   have ey:y'=w:=by have:=e9 ws (hk2 ι1 H1 le);rw[g3] at this;cases this;rfl
   subst ex ey e5 e7;obtain⟨S2,le2,r2⟩:=Ob (X:=X) S1 e6 (.cons g2 (.cons g4 .nil));exact⟨le2,S2,r2⟩
 . show vs.length<=((ds.zip es).map λp=>MW.D.tup [p.1,p.2]).length\/ws.length<=((ds.zip es).map λp=>MW.D.tup [p.1,p.2]).length
   rw[<- r1.length,<- r2.length,fc,List.length_zip]
   lia
theorem atv(e:(Rp.zip a' c').den W ρ M=.ok s M'):∃x y ds es M1,a'.den W ρ M=.ok x M1/\c'.den W ρ M1=.ok y M'/\MW.abj x=some ds/\MW.abj y=some es/\s=.con ((ds.zip es).map λp=>MW.D.tup [p.1,p.2]):=by
 rw[MW.arv] at e;obtain⟨x,N1,e1,e⟩:=dm e;obtain⟨y,N2,e2,e⟩:=dm e;obtain⟨ds,N3,e3,e⟩:=dm e;obtain⟨es,N4,e4,e⟩:=dm e;obtain⟨e3,h3⟩:=rz e3;obtain⟨e4,h4⟩:=rz e4;injection e with e5 e6
 exact⟨x,y,ds,es,N1,e1,by rw[e2,<- h3,<- h4,e6],e3,e4,e5.symm⟩
theorem a5q(hg:Gl X "zip")(hm:X.mg "zip" = none)(ha:PE X a (tE nm W X.K a'))(hst:noStar a=true)(hb:PE X c (tE nm W X.K c'))(hst2:noStar c=true)(hpl:(backTo pos (starEach [c] X.env)).any (·.1)=false) :
 PI X (.Tuple ts k0 pt) (.Call (.Name "zip" pr) [a,c] [] pos) (tI nm W X.K (.zip a' c')):=by
 intro pins s0 σ H R' I hh;obtain⟨ι,ρ,M,s,M',S,R,e,q⟩:=hh;obtain⟨x,y,ds,es,N1,e1,e2,e3,e4,rfl⟩:=atv e;refine PI.weak (a5p (ts:=ts) (k0:=k0) (pt:=pt) (p:=pr) (pos:=pos) hg hm (Mm ha (Mm hb Uj (ju hst2 _ _)) (ju hst _ _)) (ju hst _ _) hpl) (wi':=fun σ0 H0 R0=>σ0=σ/\H0=H/\R0=R') (fun σ0 H0 R0 ⟨z1,z2,z3⟩=>?_) pins s0 σ H R' I ⟨rfl,rfl,rfl⟩;subst z1 z2 z3;refine Xu (es':=.cons a' (.cons c' .nil)) (ds:=[x,y]) (M1:=M') S R (by rw[MW.Kq,e1];simp[e2]) fun ι1 H1 vs le S1 R1 r=>?_
 cases r with
 |cons r1 r2 =>
  cases r2 with
  |cons r2 r3 =>
   cases r3;obtain⟨b1,p1,us1,rfl,g1,g2,g3⟩:=ah7 r1 e3;obtain⟨b2,p2,us2,rfl,g4,g5,g6⟩:=ah7 r2 e4;exact⟨b1,b2,p1,p2,rfl,⟨_,g2⟩,⟨_,g5⟩,q ι1 H1 _ le S1 (atu g1 g4 g3 g6)⟩
end
section
variable{nm:Nm}{W:Dy}{X:Cx}{a b c o e:Expr}{a' b' c' o':Ex}{pos pos' apos cpos p2:Pos}{ι:Io}{H:Hp}{σ:St}{ρ:En}{M M1 M2:Store}{x y:Dv}{es:List Expr}{es':Dr}
theorem Yh(K:Fg)(T:String):PySem.W.kitOne K (.type T) (.type T)=some true:=by unfold PySem.W.kitOne;rw[cu (by simp)]
set_option tactic.hygienic true in
theorem aj8(hno:∀T∈["NoneType", "bool", "int", "str", "list", "dict"],PySem.W.kitOne X.K (.type T) (.type "tuple")=some false):∀ι H M M' x v d,kh nm X.K ι H M->Rep X.K ι H x v->MW.o6 .isTuple [x] M=.ok d M'->M'=M/\∃b ty,d=.bl b/\Qc X.K H v ty/\PySem.W.kitOne X.K ty (.type "tuple")=some b:=fun ι H M M' x v d S r e=>by
 have e:Res.ofOpt ((MW.isT M x).map MW.D.bl) M=.ok d M':=e;obtain⟨e1,e2⟩:=rz e;obtain⟨b,e3,rfl⟩:=bx.mp e1;refine⟨e2,b,?_⟩;cases r with
 |non=>cases e3;exact⟨_,rfl,.non,hno _ (by simp)⟩|bl b=>cases e3;exact⟨_,rfl,.bl _,hno _ (by simp)⟩|int i=>cases e3;exact⟨_,rfl,.int _,hno _ (by simp)⟩|str z=>cases e3;exact⟨_,rfl,.str _,hno _ (by simp)⟩|tup h r=>cases e3;exact⟨_,rfl,.tup h,Yh _ _⟩|vl h n r=>cases e3;exact⟨_,rfl,.lst h,hno _ (by simp)⟩|fz e r=>cases e3
 |@ref n p hp =>
  have e3:(match M[n]? with|some (.lst _)=>some false|some (.dT _)=>some false|some (.dK _)=>some false|_=>none)=some b:=e3;split at e3
  . rename_i hM
    cases e3;obtain⟨vs,h1,_⟩:=S.obj n _ p hM hp;exact⟨_,rfl,.lst h1,hno _ (by simp)⟩
  . rename_i hM
    cases e3;obtain⟨vs,h1,_⟩:=S.obj n _ p hM hp;exact⟨_,rfl,.dT h1,hno _ (by simp)⟩
  . rename_i hM
    cases e3;obtain⟨vs,h1,_⟩:=S.obj n _ p hM hp;exact⟨_,rfl,.dK h1,hno _ (by simp)⟩
  . cases e3
theorem aoh(hno:∀T∈["NoneType", "int", "str", "list", "tuple"],PySem.W.kitOne X.K (.type T) (.type "bool")=some false):∀ι H M M' x v d,kh nm X.K ι H M->Rep X.K ι H x v->MW.o6 .isBool [x] M=.ok d M'->M'=M/\∃b ty,d=.bl b/\Qc X.K H v ty/\PySem.W.kitOne X.K ty (.type "bool")=some b:=fun ι H M M' x v d S r e=>by
 have e:Res.ofOpt ((MW.isB x).map MW.D.bl) M=.ok d M':=e;obtain⟨e1,e2⟩:=rz e;obtain⟨b,e3,rfl⟩:=bx.mp e1;refine⟨e2,b,?_⟩;cases r with
 |non=>cases e3;exact⟨_,rfl,.non,hno _ (by simp)⟩|bl b=>cases e3;exact⟨_,rfl,.bl _,Yh _ _⟩|int i=>cases e3;exact⟨_,rfl,.int _,hno _ (by simp)⟩|str z=>cases e3;exact⟨_,rfl,.str _,hno _ (by simp)⟩|tup h r=>cases e3;exact⟨_,rfl,.tup h,hno _ (by simp)⟩|vl h n r=>cases e3;exact⟨_,rfl,.lst h,hno _ (by simp)⟩|fz e r=>cases e3|ref hp=>cases e3
end
section
variable{nm:Nm}{W:Dy}{X:Cx}{a b c o e:Expr}{a' b' c' o':Ex}{pos pos' apos cpos p2:Pos}{ι:Io}{H:Hp}{σ:St}{ρ:En}{M M1 M2:Store}{x y:Dv}{es:List Expr}{es':Dr}
set_option tactic.hygienic true in
theorem atw(e:MW.Hx .pop x ds M=.ok d M'):∃n i xs j,x=.ref n/\ds=[.int i]/\M[n]?=some (.lst xs)/\MW.Rr xs.length i=some j/\xs[j]?=some d/\M'=M.set n (.lst (xs.eraseIdx j)):=by
 unfold MW.Hx at e;split at e
 . rename_i h;cases h
 . rename_i n i
   split at e
   . rename_i xs hM
     split at e
     . rename_i j d0 hj
       cases e;obtain⟨j',h1,h2⟩:=dg.mp hj;obtain⟨d',h3,h4⟩:=bx.mp h2;cases h4;exact⟨_,_,_,_,rfl,rfl,hM,h1,h3,rfl⟩
     . cases e
   . cases e
 . rename_i h;cases h
 . rename_i h;cases h
 . rename_i h;cases h
 . cases e
theorem a5r:MtR X "list.pop" (rM nm X.K .pop):=λpins s σ H v vs u us Q I ru rvs hh=>by
 obtain⟨ι,M,x,ds,d,M',S,r,rs,e,_,q⟩:=hh;obtain⟨n,i,xs,j,rfl,rfl,hM,h1,h2,rfl⟩:=atw e;cases r with
 |ref ha =>
  obtain⟨ys,h3,h4⟩:=S.obj n _ _ hM ha;cases rs with
  |cons hd ht =>
   cases ht;cases hd;obtain⟨w,g1,g2⟩:=h4.get h2;obtain⟨k1,k2,k3,k4⟩:=aa9 (ase h1);obtain⟨z,_⟩:=I.ajk h3;have hl:xs.length=ys.length:=h4.length;rw[hl] at k1 k3 k4;have z':=z;rw[mz] at z';refine al4 pins s σ H _ _ u us Q I ru rvs ⟨_,ys,i,j,w,rfl,rfl,h3,by lia,by lia,k1,g1,?_⟩;obtain⟨S2,le2⟩:=S.put (u:=.lst (ys.eraseIdx j)) (o:=.lst (xs.eraseIdx j)) hM ha λle=>⟨_,uy,(h4.mono le).eraseIdx j⟩
   exact q _ _ _ le2 S2 (g2.mono le2)
theorem atx:∀ι H M M' x v d,kh nm X.K ι H M->Rep X.K ι H x v->MW.o6 .isInt [x] M=.ok d M'->M'=M/\∃b ty,d=.bl b/\Qc X.K H v ty/\PySem.W.kitOne X.K ty (.type "int")=some b:=fun ι H M M' x v d S r e=>by
 have e:(match x with|.int _=>Res.ok (MW.D.bl true) M|_=>.bad)=.ok d M':=e;cases r with
 |int i=>cases e;exact⟨rfl,true,_,rfl,.int _,Yh _ _⟩|_=>cases e
end
end Sm
namespace Sm
open PySem L2
open MW (Ex Dr Z3 Rp Fl m7 Lv Tg Res Store MO Dy Cp Op2 Blt Bm Kx Src)
section
variable{nm:Nm}{W:Dy}{X:Cx}{ι:Io}{H:Hp}{σ:St}{ρ:En}{M M1 M2:Store}{x y:Dv}
set_option tactic.hygienic true in
theorem aty(e:MW.Hx .get x ds M=.ok d M'):∃n k d0,x=.ref n/\ds=[k,d0]/\M'=M/\((∃kvs q,M[n]?=some (.dK kvs)/\MW.Ve k=some q/\d=(MW.Bf kvs q).getD d0)\/∃kvs q,M[n]?=some (.dT kvs)/\MW.Tc k=some q/\d=(MW.Bf kvs q).getD d0):=by
 cases x with
 |ref n =>
  match ds,e with
  |[k,d0],e =>
   have e:(match M[n]? with
    |some (.dT kvs)=>Res.ofOpt ((MW.Tc k).map λq=>(MW.Bf kvs q).getD d0) M
    |some (.dK kvs)=>Res.ofOpt ((MW.Ve k).map λq=>(MW.Bf kvs q).getD d0) M
    | _=>.bad)=.ok d M':=e
   refine⟨n,k,d0,rfl,rfl,?_⟩;split at e
   . rename_i kvs hM
     obtain⟨e1,e2⟩:=rz e;obtain⟨q,h1,h2⟩:=bx.mp e1;exact⟨e2,.inr ⟨kvs,q,hM,h1,h2.symm⟩⟩
   . rename_i kvs hM
     obtain⟨e1,e2⟩:=rz e;obtain⟨q,h1,h2⟩:=bx.mp e1;exact⟨e2,.inl ⟨kvs,q,hM,h1,h2.symm⟩⟩
   . cases e
  |[],e=>cases e|[_],e=>cases e|_::_::_::_,e=>cases e
 |_=>cases e
set_option tactic.hygienic true in
theorem ty_dict(S:kh nm X.K ι H M)(r:Rep X.K ι H x v)(h:MW.Mw .get x M=true):tyV X.K "dict" v H:=by
 cases r with
 |@ref n p hp =>
  have h:(match M[n]? with|some (.dT _)=>true|some (.dK _)=>true|_=>false)=true:=h;split at h
  . rename_i hM
    obtain⟨l,h1,_⟩:=S.obj n _ p hM hp;exact .inr (.inr (.inl ⟨rfl,.inr ⟨_,h1⟩⟩))
  . rename_i hM
    obtain⟨l,h1,_⟩:=S.obj n _ p hM hp;exact .inr (.inr (.inl ⟨rfl,.inl ⟨_,h1⟩⟩))
  . cases h
 |_=>cases h
theorem a5s(hu:X.A.units+1<cLine):MtR X "dict.get" (rM nm X.K .get):=λpins s σ H v vs u us Q I ru rvs hh=>by
 obtain⟨ι,M,x,ds,d,M',S,r,rs,e,_,q⟩:=hh;obtain⟨n,k,d0,rfl,rfl,rfl,h⟩:=aty e;cases rs with
 |cons rk rt =>
  cases rt with
  |cons rd rt =>
   cases rt;cases rvs with
   |cons hk1 ht1 =>
    cases ht1 with
    |cons hd1 ht1 =>
     cases ht1;cases r with
     |ref ha =>
      cases ru;rcases h with⟨kvs,k0,hM,hk,rfl⟩|⟨kvs,k0,hM,hk,rfl⟩
      . obtain⟨l,h1,h2⟩:=S.obj n _ _ hM ha
        have hy:=Vi rk hk;subst hy;refine amb hu I (Pr.k h1) hk1 hd1 λw' s' I' rw'=>⟨_,H,I',rw',q ι H _ (Le.refl _ _) S ?_⟩
        cases hl:MW.Bf kvs k0 with
        |none=>rw[(h2.look (k:=k0)).2 hl];exact rd|some d=>obtain⟨z,h3,h4⟩:=(h2.look (k:=k0)).1 d hl;rw[h3];exact h4
      . obtain⟨l,h1,h2⟩:=S.obj n _ _ hM ha
        obtain⟨bb,rfl,hb⟩:=Vj rk hk;refine amb hu I (Pr.t h1 hb) hk1 hd1 λw' s' I' rw'=>⟨_,H,I',rw',q ι H _ (Le.refl _ _) S ?_⟩
        cases hl:MW.Bf kvs k0 with
        |none=>rw[(h2.look (k:=k0)).2 hl];exact rd|some d=>obtain⟨z,h3,h4⟩:=(h2.look (k:=k0)).1 d hl;rw[h3];exact h4
end
section
variable{nm:Nm}{W:Dy}{X:Cx}{a b c o e:Expr}{a' b' c' o':Ex}{pos pos' apos cpos p2:Pos}{ι:Io}{H:Hp}{σ:St}{ρ:En}{M M1 M2:Store}{x y:Dv}{es:List Expr}{es':Dr}
set_option tactic.hygienic true in
theorem azg(hr:zj 8 X.A)(hg:Gl X n)(hm:X.mg n=none)(hv:bootBuiltins n=some (.type "list"))(hn:n≠"__name__")(hdb:(n==("__debug__" : Str))=false)(hg2:Gl X tn)(hm2:X.mg tn=none)(hv2:bootBuiltins tn=some (.type "range"))(hn2:tn≠"__name__")(agm:(tn==("__debug__" : Str))=false)(ha:PA X [a] (W4 nm W X.K (.cons a' .nil)))(he:starEach [.Call (.Name tn p') [a] [] q2] X.env=(false,eval (.Call (.Name tn p') [a] [] q2) X.env)::starEach [] X.env)(hpl:(backTo q1 (starEach [] X.env)).any (·.1)=false)(he2:starEach [a] X.env=(false,eval a X.env)::starEach [] X.env)(agl:(backTo q2 (starEach [] X.env)).any (·.1)=false) :
 PE X (.Call (.Name n p) [.Call (.Name tn p') [a] [] q2] [] q1) (tE nm W X.K (.abg a')):=by
 intro pins s σ H Q I hh;obtain⟨ι,ρ,M,d,M',S,R,e,q⟩:=hh;rw[MW.adt] at e;obtain⟨x,M1,e1,e⟩:=dm e;split at e<;>try cases e
 rename_i i;split at e<;>cases e;rename_i hi;refine ik (G8 I hg hm hv ?_ hn hdb);refine iw (Q:=EP X pins σ Q) ?_ he hpl;rw[he];show wpAny _ _ (spliced ((false,eval (.Call (.Name tn p') [a] [] q2) X.env)::backTo q1 (starEach [] X.env))) _ _ s;refine qt ?_;refine ik (G8 I hg2 hm2 hv2 ?_ hn2 agm);refine iw (Bp (ha q2 pins s σ H (λvs H1=>∃ι1,vs=[.int i]/\Le ι H ι1 H1/\kh nm X.K ι1 H1 M1) I ⟨ι,ρ,M,[.int i],M1,S,R,by simp[e1,Res.bind],fun ι1 H1 vs le S1 r=>?_⟩) λus s1 ⟨vs,H1,I1,r1,ι1,ev,le1,S1⟩=>?_) he2 agl
 . obtain⟨v,ev,rv⟩:=Lx r rfl
   cases rv;exact⟨ι1,ev,le,S1⟩
 subst ev;obtain⟨u,rfl,ru⟩:=Vr r1;obtain⟨t,rfl⟩:=ru;refine call_range_1 ?_;show wpAny _ _ (spliced []) _ _ _;refine u5 ?_;have keep:∀b o,s1.heap.get? b=some o->(s1.heap.push { cls:=.type "range",data:=.fields #[.int 0 s1.toks,.int i t,.int 1 (s1.toks+1)] }).get? b=some o:=λb o e=>ao _ e
 refine call_list_range (n:=i.toNat) hr.hd (bf _ rfl) (small_one (by lia) (by lia) (by lia) (by omega)) (by rw[rangeSize_one];split<;>lia) (by lia) λh' tk acc c' hk hS hacc=>?_
 have hsz:(s1.heap.push { cls:=.type "range",data:=.fields #[.int 0 s1.toks,.int i t,.int 1 (s1.toks+1)] }).objs.size=s1.heap.objs.size+1:=iz ..;have hS:h'.get? (s1.heap.push { cls:=.type "range",data:=.fields #[.int 0 s1.toks,.int i t,.int 1 (s1.toks+1)] }).objs.size=some { cls:=.type "list",dict:=none,data:=.seq acc c',slots:=#[] }:=hS;show EP X pins σ Q (.ref (s1.heap.push { cls:=.type "range",data:=.fields #[.int 0 s1.toks,.int i t,.int 1 (s1.toks+1)] }).objs.size) _;rw[hsz] at hS ⊢;have hz:((List.range i.toNat).map λ(k:Nat)=>V.int (k:Int)).length<=sizeLine:=by simp[mz];omega
 have hle:s1.heap.objs.size<=s1.heap.objs.size+1:=qj _
 have hf:H1 (s1.heap.objs.size+1)=none:=I1.hok.fresh hle;have I3:Inv X pins σ (upd H1 (s1.heap.objs.size+1) (.lst ((List.range i.toNat).map λ(k:Nat)=>V.int (k:Int)))) { s1 with heap:=h',toks:=tk } :=
  I1.laid (a:=s1.heap.objs.size+1) (t':=tk) (λb o e=>hk b o (keep b o e)) hle (show zx X.prog X.w _ _ _ (.lst _) from⟨hz,acc.toList,c',Yd hacc,by simpa using hS⟩)
 obtain⟨S2,le2,r2⟩:=W6 (X:=X) S1 hf (Ye i.toNat);exact⟨.ref (s1.heap.objs.size+1),_,I3,rfl,q _ _ _ (le1.trans le2) S2 r2⟩
end
section
variable{nm:Nm}{W:Dy}{X:Cx}{ι:Io}{H:Hp}{σ:St}{ρ:En}{M M1 M2:Store}{x y:Dv}
theorem atz(hh:A.handled=none)(hl:s.heap.IsList l (intItems xs))(h:∀h' tk t',(∀b o,s.heap.get? b=some o->h'.get? b=some o)->Q (.int (preSum (numAt xs) xs.size) t') { s with heap:=h',toks:=tk }) :
 wpAny (model prog w) A (call (.builtin "sum") [.ref l]) Q E s:=by
 have hsz:(intItems xs).size=xs.size:=by simp[intItems]
 refine call_sum_walkAnyS (iter_intList hl λs₂ e st hfp hlI=>?_);subst e;have W:=(Walks.list (prog:=prog) (w:=w) (A:=A.in1) hh s.heap.objs.size l hlI (intItems xs)).toS;rw[hsz] at W;refine⟨s.heap.objs.size,_,_,_,_,_,_,numAt xs,rfl,W,st,hfp,λi v hP=>intItems_at hP,λs' t' hm=>?_⟩;obtain⟨h',g',d',tk',os'⟩:=s';have e1:g'=s.gens:=hm.gens;have e2:d'=s.drawn:=hm.drawn;have e3:os'=s.os:=hm.os;subst e1 e2 e3;exact h h' tk' t' (old_kept hm.heap)
theorem at6(e:MW.o6 .sum ds M=.ok d M'):∃x xs ns,ds=[x]/\MW.yq M x=some xs/\MW.Ww xs=some ns/\d=.int ns.sum/\M'=M:=by
 match ds,e with
 |[x],e =>
  have e:Res.ofOpt (((MW.yq M x).bind MW.Ww).map λis=>MW.D.int is.sum) M=.ok d M':=e;obtain⟨e1,e2⟩:=rz e;obtain⟨ns,e3,e4⟩:=bx.mp e1;obtain⟨xs,e5,e6⟩:=dg.mp e3;exact⟨x,xs,ns,rfl,e5,e6,e4.symm,e2⟩
 |[],e=>cases e|_::_::_,e=>cases e
theorem a5t(hc:X.calm=true):Dc X (.builtin "sum") (rB nm X.K .sum):=λpins s σ H vs us Q I rvs hh=>by
 obtain⟨ι,M,ds,d,M',S,r,e,q⟩:=hh;obtain⟨x,xs,ns,rfl,e1,e2,rfl,rfl⟩:=at6 e;obtain⟨v,rfl,rv⟩:=Lx r rfl;obtain⟨u,rfl,ru⟩:=Vr rvs;obtain⟨p,ws,rfl,hp,rl⟩:=Il S rv e1;cases ru;have fin:∀(xa:Array (Int×Tok)),xa.toList.map (·.1)=ns->∀h' tk t',(∀b o,s.heap.get? b=some o->h'.get? b=some o)->EP X pins σ Q (.int (preSum (numAt xa) xa.size) t') { s with heap:=h',toks:=tk }:=λxa g2 h' tk t' keep=>by
  have z:preSum (numAt xa) xa.size=ns.sum:=by rw[preSum_eq,vz (by simp),g2]
  rw[z];exact⟨.int _,H,I.kept keep,⟨t',rfl⟩,q ι H _ (Le.refl _ _) S (.int _)⟩
 rcases hp with hp|hp
 . obtain⟨is,rvl,pl,_⟩:=I.list (Jv.of hp)
   obtain⟨xa,g1,g2⟩:=ints_rep rl rvl e2;exact atz (I.ok.hd hc) (by rw[<- g1];exact pl.isList) (fin xa g2)
 . obtain⟨is,rvl,pl,_⟩:=I.tuple (Ml.of hp)
   obtain⟨xa,g1,g2⟩:=ints_rep rl rvl e2;exact PySem.W.ktm_sumG (I.ok.hd hc) (by rw[<- g1];exact pl) (fin xa g2)
end
section
variable{nm:Nm}{W:Dy}{X:Cx}{a b c o e:Expr}{a' b' c' o':Ex}{pos pos' apos cpos:Pos}{ι:Io}{H:Hp}{σ:St}{ρ:En}{M M1 M2:Store}{x y:Dv}{es:List Expr}{es':Dr}
theorem tup_is(I:Inv X pins σ H s)(r:RelV (.ref p) v)(h:H p=some (.tup vs)):s.TypeIs v "tuple"/\∀a,v=.ref a->∃ob,s.heap.get? a=some ob/\ob.dict=none:=by cases r;obtain⟨_,_,_,o,h1,h2,_,_,h3⟩:=(show zx X.prog X.w H s.heap p (.tup vs) from I.hok p _ h);exact⟨⟨o,h1,h2⟩,λa e=>by cases e;exact⟨o,h1,h3⟩⟩
set_option tactic.hygienic true in
theorem a5u{id:String}(hT:∀x M,MW.Mw m x M=true->∃ds,x=.tup ds)(hi:m≠.index)(pa:PlainAttrs "tuple")(slot:Slot "tuple" name id)(hty:typeOf (.builtin id)=pure (.type "method_descriptor"))(hm:MtR X id (rM nm X.K m))(ho:PE X o (tE nm W X.K o'))(ha:PA X (e::es) (W4 nm W X.K es'))(hbase:attributeBase o name X.env (eval o X.env)=eval o X.env)(hfew:((backTo cpos (starEach (e::es) X.env)).all (λx=>!x.1)&&(backToKw cpos (keywordEach [] X.env)).all (λx=>x.1.isSome)
&&decide ((e::es).length+([]:List Keyword).length+(if([]:List Keyword).isEmpty then 0 else 1)<30))=true)(hline:(apos.endLine==cpos.line)=true)(hs:starEach (e::es) X.env=(false,eval e X.env)::starEach es X.env)(hplain:(backTo cpos (starEach es X.env)).any (·.1)=false) :
 PE X (.Call (.Attribute o name apos) (e::es) [] cpos) (tE nm W X.K (.bm m o' es')):=by
 intro pins s σ H Q I hh;obtain⟨ι,ρ,M,d,M',S,R,e0,q⟩:=hh;rw[MW.amq] at e0;obtain⟨x,M1,e1,e0⟩:=dm e0;split at e0
 . rename_i ht
   obtain⟨ds,M2,e2,e0⟩:=dm e0;obtain⟨ts,rfl⟩:=hT _ _ ht;refine wpAny_Call_method_late hbase hfew hline rfl (Bp (ho pins s σ H (λv H1=>(∃p vs,v=.ref p/\H1 p=some (.tup vs))/\W4 nm W X.K es' σ H1 λvs H2=>rM nm X.K m v vs H2 Q) I (one S R e1 fun ι1 H1 v le S1 R1 r=>?_)) λv s1 ⟨xv,H1,I1,r1,⟨p,vs,ev,hp⟩,q1⟩=>?_)
   . refine⟨?_,ι1,ρ,M1,ds,M2,S1,R1,e2,fun ι2 H2 vs le2 S2 rs=>⟨ι2,M2,.tup ts,ds,d,M',S2,r.mono le2,rs,e0,λ_ _=>hi,fun ι' H' w W5 S' r'=>q ι' H' w ((le.trans le2).trans W5) S' r'⟩⟩
     cases r with
     |tup h1 h2=>exact⟨_,_,rfl,h1⟩
   . subst ev
     obtain⟨h1,h2⟩:=tup_is I1 r1 hp;refine⟨"tuple",id,pa,slot,hty,h1,h2,?_⟩;have hA:=ha cpos pins s1 σ H1 _ I1 q1;rw[hs] at hA ⊢;refine Calls.callWith_builtin (by show(false||(backTo cpos (starEach es X.env)).any (·.1))=false;rw[hplain]<;>rfl) (Calls.evalArgs_plain ?_);exact Bp hA λus s2 ⟨vs,H2,I2,r2,q2⟩=>hm pins s2 σ H2 _ vs v us Q I2 r1 r2 q2
 . cases e0
end
end Sm
namespace PySem.SeqAt
open AutoSeq1 (wpAny_loadPart')
open MeetsSeq MeetsSeq2 MeetsSeq3 SeqRoads2
theorem aoi{f:Nat->β->Sem (ForInStep β)}(I:Nat->β->Shared->Prop){Q:β->Shared->Prop}{c:β}(turn:∀i c s,i<b->I i c s->wpAny M A (f i c) (λr s'=>match r with|.yield c'=>I (i+1) c' s'|.done c'=>Q c' s') E s)(fin:∀c s,I b c s->Q c s)(init:I 0 c s):wpAny M A (forIn [:b] c f) Q E s:=by
 rw[uo];have hsz:([:b]:Std.Legacy.Range).size=b:=by simp[Std.Legacy.Range.size]
 show wpAny M A (forIn (List.range' 0 ([:b]:Std.Legacy.Range).size 1) c f) Q E s;rw[hsz];refine p8 f (λl c s=>∃i,i<=b/\l=List.range' i (b-i) 1/\I i c s) Q ?_ ?_ _ c ⟨0,jr _,by simp,init⟩
 . rintro x rest c s ⟨i,hi,hl,h⟩
   have hlt:i<b:=by
    rcases Bo i b with z|z
    . exact z
    . rw[show b-i=0 by lia] at hl;simp at hl
   obtain⟨n,hn⟩:∃n,b-i=n+1:=⟨b-i-1,by lia⟩;rw[hn,Gh] at hl;obtain⟨rfl,rfl⟩:=List.cons.inj hl;refine jt (turn x c s hlt h) (λr s' h'=>?_) λ_ _ z=>z
   cases r with
   |done c'=>exact h'|yield c'=>exact⟨x+1,hlt,by congr 1;lia,h'⟩
 . rintro c s ⟨i,hi,hl,h⟩
   have:i=b:=by
    rcases Bo i b with z|z
    . obtain⟨n,hn⟩:∃n,b-i=n+1:=⟨b-i-1,by lia⟩
      rw[hn,Gh] at hl;simp at hl
    . exact u_ hi z
   subst this;exact fin _ _ h
theorem Zj(l:Addr)(items:Array Value)(n:Nat)(dd:Option Addr)(sl:Array (Option Value))(x:Value)(e:Value->Bool)(j:Nat)(hj:j<items.size)
 (hit:e items[j]=true) (hno:∀m (hm:m<items.size),m<j->e items[m]=false) :
 Meets (Builtin.«tuple.index» ⟨[.ref l,x],[]⟩)
  (λA R s=>s.heap.get? l=some { cls:=.type "tuple",dict:=dd,data:=.seq items n,slots:=sl }/\(∀y,y∈items->EqAt A.in1 s y x (e y))/\R (.ok (.ret (.int j s.toks))) { s with toks:=s.toks+1 }) :=
 .of_wp λprog w A R s h=>by
  obtain⟨hp,g,d,tk,os⟩:=s;obtain⟨hl,he,h⟩:=h
  wp_walk using zg hl,aoi (λi b s'=>b.1=none/\s'=⟨hp,g,d,tk,os⟩/\i<=j)
  case turn =>
   rintro i b s' hi ⟨hb,rfl,hij⟩;have hi':i<items.size:=c_ hij hj
   rw[show items[i]?=some items[i] from Array.getElem?_eq_getElem hi'];refine aa (he _ (Array.getElem_mem hi') prog w _ _ ?_);rcases Bo i j with z|z
   . rw[hno i hi' z]
     wp_walk
     exact⟨rfl,rfl,z⟩
   . obtain rfl:i=j:=u_ hij z
     rw[hit]
     wp_walk
     exact⟨_,rfl,h⟩
  case fin =>
   rintro b s' ⟨hb,rfl,hij⟩
   lia
  case init=>exact⟨rfl,rfl,jr _⟩
end PySem.SeqAt
namespace Sm
open PySem L2
open MW (Ex Dr Z3 Rp Fl m7 Lv Tg Res Store MO Dy Cp Op2 Blt Bm Kx Src)
section
variable{nm:Nm}{W:Dy}{X:Cx}{ι:Io}{H:Hp}{σ:St}{ρ:En}{M M1 M2:Store}{x y:Dv}
theorem aoj(e:MW.Hx .N8 x ds M=.ok d M'):∃d0 xs j,ds=[d0]/\x=.tup xs/\MW.Ua M d0 xs=some j/\d=.int ((j:Nat):Int)/\M'=M:=by
 cases x with
 |tup xs =>
  match ds,e with
  |[d0],e =>
   have e:Res.ofOpt ((MW.Ua M d0 xs).map λj=>MW.D.int ((j:Nat):Int)) M=.ok d M':=by rw[<- e];simp only[MW.Hx];generalize MW.Ua M d0 xs=z;cases z<;>rfl
   obtain⟨e1,e2⟩:=rz e;obtain⟨j,e3,e4⟩:=bx.mp e1;exact⟨d0,xs,j,rfl,rfl,e3,e4.symm,e2⟩
  |[],e=>cases e|_::_::_,e=>cases e
 |_=>cases e
theorem aok(hr:zj 8 X.A):MtR X "tuple.index" (rM nm X.K .N8):=λpins s σ H v vs u us Q I ru rvs hh=>by
 obtain⟨ι,M,x,ds,d,M',S,r,rs,e,nt,q⟩:=hh;obtain⟨d0,xs,j,rfl,rfl,e2,rfl,rfl⟩:=aoj e;cases rs with
 |cons hd ht =>
  cases ht;cases rvs with
  |cons hu ht2 =>
   cases ht2;obtain⟨bs,e3,e4⟩:=dg.mp (show(MW.Rq M' d0 xs).bind (·.findIdx? id)=some j from e2);cases r with
   |tup hp rl =>
    cases ru;obtain⟨z,is,rv,⟨cls,dd,data,sl⟩,hg,hc,n,hda,hdi⟩:=(show zx X.prog X.w H s.heap _ (.tup _) from I.hok _ _ hp);simp only at hc hda;subst hc hda;obtain⟨f,g1,g2⟩:=Rg (A:=X.A.in1) I S ((hr.mono (by decide:7<=8)).in1) rl rv hd hu e3;obtain⟨f1,f2⟩:=Ur e4;have hlen:is.length=bs.length:=by rw[(Hc e3).1,rl.length,rv.length]
    have lj:j<is.length:=by rw[hlen];exact(ak.mp f1).1
    have fa:∀m (hm:m<is.length),bs[m]?=some (f is[m]):=λm hm=>g2 m _ (cz hm)
    refine Be Ep ⟨_,hg,rfl⟩ F.entry_tuple_index (F.args_tuple_index_2 _ _) (λA R s h=>SeqAt.Zj _ is.toArray n dd sl _ f j (by simpa using lj) ?_ ?_ _ _ A R s h) ⟨hg,g1,?_⟩
    . have:=fa j lj;rw[f1] at this;simpa using(ie this).symm
    . intro m hm hmj
      have hm:m<is.length:=by simpa using hm
      have:=fa m hm;rw[f2 m hmj] at this;simpa using(ie this).symm
    . exact⟨.int j,H,I.tok _,⟨_,rfl⟩,q ι H _ (Le.refl _ _) S (.int _)⟩
end
end Sm
namespace Za
open PySem SetTable
open PyProof.Rows (F.entry_set_update_loop F.plain_set_update_loop)
theorem at7(k:TOk t es)(F:Fst t h N)(room:t.place.size+1<=t.mask) :
 layNew t es h x=(insertAt es (t.put (P t.mask h N).j).2 (h,x),(t.put (P t.mask h N).j).1,false,false):=by
 have e:t.freeSlot h=some ((P t.mask h N).j,false):=by
  unfold freeSlot probe;rw[ad8];rcases anf k F (λ_=>h+1) (10*turns t.mask) 0 (jr _) (by have:=F.lt;exact c_ C_ this) with⟨a,_⟩|⟨m,i,_,_,_,c,_⟩
  . rw[a];rfl
  . lia
 have f:=(k.put (x:=x) F room).fits;unfold layNew;rw[e];show(insertAt es (t.put (P t.mask h N).j).2 (h,x),(t.put (P t.mask h N).j).1.orStandIn (insertAt es (t.put (P t.mask h N).j).2 (h,x)).size,false,!(t.put (P t.mask h N).j).1.fits (insertAt es (t.put (P t.mask h N).j).2 (h,x)).size)=_;unfold orStandIn;rw[cu f,f];rfl
theorem aj9(hm:Msk (sizeAbove wanted-1))(hz:es.size<=sizeAbove wanted-1) :
 ∃es' t',relayAll t es wanted=(es',t',false)/\t'.mask=sizeAbove wanted-1/\TOk t' es'/\es'.toList.Perm es.toList/\t'.led=t.led/\t'.plain=t.plain:=by
 obtain⟨t',order,e,e1,T',p,sz,hl,hp,_,hpm⟩:=ahy hm t.finger (t.movedTo (sizeAbove wanted-1)) t.led t.plain es hz;have er:t.relaid (es.map (·.1)) wanted=some (t',order):=e;refine⟨order.filterMap (es[·]?),t',?_,e1,T',p,hl,hp⟩;unfold relayAll;rw[er];dsimp only;rw[cu];rw[aq];exact⟨by unfold coversAll;exact List.isPerm_iff.mpr hpm,T'.fits⟩
section
variable{prog:Program}{w:World}{A:Around}{E:Value->Shared->Prop}{s:Shared}
def enI(x:Int×Tok):Int×Value:=(hashInt x.1,.int x.1 x.2)
structure Oi(w:World)(h:Heap)(a:Addr)(xs:List (Int×Tok))(o:Obj)(es:Array (Int×Value))(ep:Nat)(t:SetTable):Prop where
 get:h.get? a=some o
 exa:o.ExactSet
 dat:o.data=.set es ep t
 tab:TOk t es
 ent:es.toList=xs.map enI
 nod:(xs.map (·.1)).Nodup
 led:t.led=!bt w
 pla:t.plain=true
def Ih(w:World)(h:Heap)(a:Addr)(S:Int->Prop)(n:Nat):Prop:=∃xs o es ep t,Oi w h a xs o es ep t/\(∀k,S k↔k∈xs.map (·.1))/\xs.length=n/\t.place.size*5<t.mask*3
section
variable{h:Heap}{a:Addr}{xs:List (Int×Tok)}{o:Obj}{es:Array (Int×Value)}{ep:Nat}{t:SetTable}
theorem Oi.size(X:Oi w h a xs o es ep t):es.size=xs.length:=by have:=m6 List.length X.ent;simpa using this
theorem Oi.elems(X:Oi w h a xs o es ep t):ElemsOf (intKind prog w) es.toList:=λe he=>by rw[X.ent] at he;obtain⟨x,_,rfl⟩:=bu.mp he;exact⟨⟨x.1,by simp[enI,intKind,Value.isInt],rfl⟩,rfl⟩
theorem a5v(X:Oi w h a xs o es ep t)(T':TOk t' es')(he:es'.toList=xs'.map enI)(hn:(xs'.map (·.1)).Nodup)(hl:t'.led=!bt w)(hp:t'.plain=true) :
 Oi w (h.update a (Obj.putSet es' t')) a xs' { o with data:=.set es' (ep+1) t' } es' (ep+1) t':=by
 have hg:(h.update a (Obj.putSet es' t')).get? a=some { o with data:=.set es' (ep+1) t' }:=by have:=mj (Obj.putSet es' t') X.get (by rw[putSet_of es' t' X.dat];rfl);rw[putSet_of es' t' X.dat] at this;exact this
 exact⟨hg,X.exa,rfl,T',he,hn,hl,hp⟩
end
theorem Ih.get(hS:Ih w h a S n):∃o es ep t,h.get? a=some o/\o.ExactSet/\o.data=.set es ep t/\t.fits es.size=true :=
 let ⟨_,o,es,ep,t,X,_⟩:=hS;⟨o,es,ep,t,X.get,X.exa,X.dat,X.tab.fits⟩
theorem Ih.congr(hS:Ih w h a S n)(e:∀k,S k↔S' k):Ih w h a S' n :=
 let ⟨xs,o,es,ep,t,X,hm,r⟩:=hS;⟨xs,o,es,ep,t,X,λk=>(e k).symm.trans (hm k),r⟩
theorem Ih.moved(hS:Ih w h a S n)(hm:∀o,h.get? a=some o->h'.get? a=some o):Ih w h' a S n :=
 let ⟨xs,o,es,ep,t,X,r⟩:=hS
 ⟨xs,o,es,ep,t,⟨hm o X.get,X.exa,X.dat,X.tab,X.ent,X.nod,X.led,X.pla⟩,r⟩
theorem aom(hg:h.get? a=some (Aj w)):Ih w h a (λ_=>False) 0 :=
 ⟨[],Aj w,#[],0,_,⟨hg,⟨rfl,rfl,rfl⟩,rfl,⟨.inl rfl,rfl,rfl,λi j a b e=>by simp[SetTable.fresh] at e,λi j e=>by simp[SetTable.fresh] at e,by simp[SetTable.fresh],λi j e a=>by simp[SetTable.fresh] at a⟩,
  rfl,Bt,rfl,rfl⟩,λk=>by simp,rfl,by simp[SetTable.fresh]⟩
theorem at8(hS:Ih w s.heap a S n)(hn:n+1<32)(h:∀h' n' b,Heap.SameBut a s.heap h'->Ih w h' a (λk'=>S k'\/k'=k) n'->n'<=n+1->Q b { s with heap:=h' }) :
 wpAny (model prog w) A (setAddHashed a (.int k tk) (hashInt k)) Q E s:=by
 obtain⟨xs,o,es,ep,t,X,hm,hl,nf⟩:=hS;obtain⟨N,F⟩:=X.tab.fst (hashInt k);have hsz:=X.size;have hel:=X.elems (prog:=prog);have hkey:(intKind prog w).is k (.int k tk)=true:=by simp[intKind,Value.isInt]
 unfold setAddHashed setAddHashedIn;refine gm (aa (ji X.get X.dat X.tab.fits ?_));dsimp only;rw[byScan_of (knd:=intKind prog w) (x:=.int k tk) rfl (by unfold scanBound;lia) hel];simp only[↓reduceIte];unfold setAddByScan;refine aa ?_;refine aa (ur ?_);refine aa (wpAny_setScan_of (knd:=intKind prog w) (k:=k) hkey X.get X.dat X.tab.fits hel ?_);cases hr:List.findIdx? (λe=>(intKind prog w).is k e.2) es.toList with
 |some j =>
  dsimp only;obtain⟨hj,hpj,_⟩:=m8.mp hr;have hSk:S k:=by
   obtain⟨x,hx,ex⟩:∃x∈xs,enI x=es.toList[j]:=by have hmem:=q9 hj;generalize es.toList[j]=e at hmem;rw[X.ent] at hmem;exact bu.mp hmem
   have hp2:(intKind prog w).is k (enI x).2=true:=by rw[ex];exact hpj
   refine(hm k).mpr (bu.mpr ⟨x,hx,?_⟩);have:(intKind prog w).is x.1 (enI x).2=true:=by simp[enI,intKind,Value.isInt]
   exact(intKind prog w).inj _ _ _ this hp2
  refine aj (aj ?_);have:=h s.heap n false (Ay a s.heap) ⟨xs,o,es,ep,t,X,λk'=>by
   rw[<- hm k'];exact⟨λh=>h.elim id (λe=>e▸hSk),.inl⟩,hl,nf⟩ x_
  exact this
 |none =>
  dsimp only;have hno:∀x∈xs,x.1≠k:=λx hx e=>by have:=um.mp hr (enI x) (by rw[X.ent];exact bu.mpr ⟨x,hx,rfl⟩);subst e;simp[enI,intKind,Value.isInt] at this
  have room:t.place.size+1<=t.mask:=by have:=X.tab.msk;rcases this with e|e|e|e|e<;>lia
  have T':=X.tab.put (x:=.int k tk) F room;rw[at7 X.tab F room];have hpl:(t.put (P t.mask (hashInt k) N).j).1.plain=true:=X.pla;have hld:(t.put (P t.mask (hashInt k) N).j).1.led=!bt w:=X.led;obtain⟨xs',ex,px⟩:=Hn (f:=enI) (insertAt_perm es (t.put (P t.mask (hashInt k) N).j).2 (hashInt k,.int k tk)) (xs:=xs++[(k,tk)]) (by rw[Es,X.ent,ud];rfl);have pm:=px.map (·.1);have hnd:(xs'.map (·.1)).Nodup:=pm.nodup_iff.mpr (by
   rw[ud,zm];refine⟨X.nod,by simp,λa ha b hb=>?_⟩;simp at hb;subst hb;rintro rfl;obtain⟨x,hx,e⟩:=bu.mp ha;exact hno x hx e)
  have hX:=a5v X T' ex hnd hld hpl;have hmem:∀k',(S k'\/k'=k)↔k'∈xs'.map (·.1):=λk'=>by rw[pm.mem_iff,ud,dw,hm k'];simp
  have hlen:xs'.length=n+1:=by rw[px.length_eq];simp[hl]
  have hes:(insertAt es (t.put (P t.mask (hashInt k) N).j).2 (hashInt k,Value.int k tk)).size=es.size+1:=Qk _ _ _;have anp:(t.put (P t.mask (hashInt k) N).j).1.place.size=es.size+1:=by rw[T'.siz,hes]
  have hf:(t.put (P t.mask (hashInt k) N).j).1.fill=es.size+1:=by unfold fill;rw[anp,T'.dum];rfl
  generalize insertAt es (t.put (P t.mask (hashInt k) N).j).2 (hashInt k,Value.int k tk)=es1 at *;generalize(t.put (P t.mask (hashInt k) N).j).1=t1 at *;dsimp only;refine aa (aj ?_);rw[hpl];simp only[jq];refine aa ?_;rw[hashByValue_scannable 8 (x:=.int k tk) rfl];refine aj ?_;have ep1:plainKind (.int k tk)=true:=rfl;simp only[ep1,jq];refine aa (yl X.get X.dat ?_ (My (by lia)))
  by_cases htf:t1.tooFull=true
  . rw[htf]
    simp only[yd,Ii,jq];obtain⟨g1,g2,g3,g4,g5⟩:=aaj (es.size+1) (c_ (v_ (f_ hsz)) (c_ (v_ (f_ hl)) hn));obtain⟨es2,t2,e2,m2,T2,p2,l2,q2⟩:=aj9 (t:=t1) (es:=es1) (wanted:=grown (es.size+1)) g1 (a_ (f_ hes) g2);rw[hes,e2];dsimp only;refine aa (aj ?_);obtain⟨xs2,ex2,px2⟩:=Hn p2 ex;have hX2:=a5v hX T2 ex2 ((px2.map _).nodup_iff.mpr hnd) (l2.trans hld) (q2.trans hpl);have hz2:es2.size=es.size+1:=by have:=p2.length_eq;simp at this;exact this.trans hes
    refine aa (yl hX.get rfl ?_ (My (a_ (f_ hz2) (a_ g2 (a_ C_ g5)))));refine aj (aj (h _ (n+1) true ((j7 s.heap a _).trans (j7 _ a _)) ⟨xs2,_,es2,_,t2,hX2,λk'=>?_,by rw[px2.length_eq,hlen],?_⟩ (bc _)))
    . exact(hmem k').trans (px2.map (·.1)).mem_iff.symm
    . rw[T2.siz,m2,hz2];exact t_ g4
  . rw[Bool.not_eq_true] at htf
    rw[htf];simp only[Hf,cg,jf];refine aj (aj (h _ (n+1) true (j7 s.heap a _) ⟨xs',_,_,_,_,hX,hmem,hlen,?_⟩ (bc _)));unfold tooFull at htf;rw[hf] at htf;rw[anp];simp at htf;exact htf
theorem aon{I:Addr}{P:Nat->Value->Prop}(W:WalksS prog w A.in1 I fp wr G n P St)(a:Addr)(haf:a∉fp)(ks:List Int)(hkl:ks.length=n)(hval:∀i v x,P i v->ks[i]?=some x->∃tk,v=.int x tk)(hb:n<31) :
 ∀(k i n':Nat)(s:Shared),n-i=k->i<=n->St i s ->
  Ih w s.heap a (λk'=>k'∈ks.take i) n'->n'<=i ->
  (∀s' n'',Moved (a::wr) G s s'->Ih w s'.heap a (λk'=>k'∈ks) n''->n''<=n->R (.ok (.ret .none)) s') ->
  codeAny (model prog w) A (.builtin "set.update.loop" ⟨[.ref a,.ref I],[]⟩) R s:=by
 have haw:a∉wr:=λh=>haf (W.sub _ h)
 have hsub:∀b∈wr,b∈a::wr:=λb hb=>bh _ hb
 intro k
 induction k with
 |zero =>
  intro i n' s hk hi hst hS hn' hR;have hin:i=n:=by lia
  subst hin;refine lq p7 ?_;rw[jx j9 _];show wpAny _ A.in1 (pyNext (.ref I) >>= _) _ _ s;refine aa (W.done s _ _ hst λs' hm=>?_);show wpAny _ A.in1 (ret Value.none) _ _ s';refine aj (hR s' n' (hm.mono hsub) ((hS.moved λo=>hm.heap a o haw).congr λk=>?_) hn');rw[vz (f_ hkl)]
 |succ k ih =>
  intro i n' s hk hi hst hS hn' hR;have hlt:i<n:=by lia
  refine lq p7 ?_;rw[jx j9 _];show wpAny _ A.in1 (pyNext (.ref I) >>= _) _ _ s;refine aa (W.item i s _ _ hlt hst λv s' hP hst' hm=>?_);have lx:i<ks.length:=b_ hlt (g_ hkl)
  have hgx:ks[i]?=some ks[i]:=by simp[lx]
  obtain⟨tk,rfl⟩:=hval i v _ hP hgx;have hS':=hS.moved λo=>hm.heap a o haw
  show wpAny _ A.in1 (holding [Value.int ks[i] tk] (setAdd a (.int ks[i] tk)) >>= _) _ _ s';refine aa (gm ?_);unfold setAdd;refine gm ?_;refine aa (wpAny_pyHash_int ?_);refine at8 (s:={ s' with toks:=s'.toks+1 }) hS' (by lia) λh' n2 b hsb hS2 hn2=>?_
  refine aj ⟨vm j9 _,ih (i+1) n2 _ (by lia) hlt (W.frame _ s' _ _ hst' (Ag _ _) λb hb o e=>?_) (hS2.congr λk=>?_) (a_ hn2 (v_ hn')) λs'' n3 hm'' hS'' hn3=>?_⟩
  . rw[hsb.2 b (λh:b=a=>haf (by rw[<- h];exact hb))];exact e
  . rw[Ew,dw,hgx];simp
  . refine hR s'' n3 (Moved.trans W.gtrans ((hm.mono hsub).then_heap (Ag _ _) λb o hb e=>?_) hm'') hS'' hn3
    rw[hsb.2 b (λh:b=a=>hb (by rw[h];exact cj))];exact e
theorem aka{id:String}(hh:A.handled=none)(hS:Ih w s.heap a (λ_=>False) 0)(hl:s.heap.IsList l items)(hit:PyProof.Rows.IntsAre items.toList ks)(hlen:ks.length<31)(h:∀h' tk n',(∀b o,b≠a->s.heap.get? b=some o->h'.get? b=some o)->Ih w h' a (λk=>k∈ks) n'->n'<=ks.length->Q () { s with heap:=h',toks:=tk }) :
 wpAny (model prog w) A (Builtin.Frozenset.updateFrom id a (.ref l)) Q E s:=by
 have hT:s.TypeIs (.ref l) "list" := let ⟨o,ho,hc,_⟩:=hl;⟨o,ho,hc⟩;have hsz:items.size=ks.length:=by rw[<- qe];exact PyProof.Rows.IntsAre.length hit
 obtain⟨oa,esa,epa,ta,hga,hca,hda,hfa⟩:=hS.get;unfold Builtin.Frozenset.updateFrom;refine aa (Ig hT F.sub_list_set F.sub_list_frozenset ?_);simp only[cg,jf];refine aa (o7 hT ?_);rw[bz (by decide)];refine aa (yj hl ?_);refine aa (zu ?_);have hlt:l<s.heap.objs.size:=let ⟨o,ho,_⟩:=hl;au ho
 have hat:a<s.heap.objs.size:=au hga
 have hla:l≠a:=by rintro rfl;obtain⟨o,ho,_,n,hd⟩:=hl;rw[ho] at hga;cases hga;rw[hd] at hda;cases hda
 have hneI:l≠s.heap.objs.size:=dj hlt;have haf:a∉[s.heap.objs.size,l]:=by simp only[bw,my,yp,Ko];exact⟨dj hat,λe=>hla e.symm⟩
 have keep:∀b o,s.heap.get? b=some o->(s.heap.push { cls:=.type "list_iterator",data:=.fields #[.ref l,.int 0 0] }).get? b=some o:=λb o e=>ao _ e
 refine aon ((Walks.list (by simp[hh]) _ l hneI items).toS) a haf ks hsz.symm (λi v x hv hx=>?_) (c_ (f_ hsz) hlen) items.size 0 0 _ rfl (jr _)
  ⟨⟨_,bf _ rfl,rfl,rfl⟩,hl.push _⟩ ?_ (bc _) ?_
 . obtain⟨tk,e⟩:=PyProof.Rows.IntsAre.int_at hit i v (by rw[lg];exact hv)
   rw[dh,hx] at e;exact⟨tk,e⟩
 . refine(hS.moved λo e=>keep a o e).congr λk=>by simp
 . intro s' n'' hm hS' hn''
   obtain⟨h',g',d',tk',os'⟩:=s';have eg:g'=s.gens:=hm.gens;have ed:d'=s.drawn:=hm.drawn;have eo:os'=s.os:=hm.os;subst eg;subst ed;subst eo;show wpAny _ _ _ _ _ _;refine aj (h h' tk' n'' (λb o hb e=>?_) hS' (a_ hn'' (f_ hsz)));refine hm.heap b o ?_ (keep b o e);simp only[bw,my,yp,Ko];exact⟨hb,dj (au e)⟩
theorem akb(hh:A.handled=none)(hl:s.heap.IsList l items)(hit:PyProof.Rows.IntsAre items.toList ks)(hlen:ks.length<31)(h:∀h' tk n',(∀b o,s.heap.get? b=some o->h'.get? b=some o)->Ih w h' s.heap.objs.size (λk=>k∈ks) n'->n'<=ks.length->Q (.ref s.heap.objs.size) { s with heap:=h',toks:=tk }) :
 wpAny (model prog w) A (call (.type "set") [.ref l]) Q E s:=by
 refine Ql (R:=λs'=>∃h' tk n',s'={ s with heap:=h',toks:=tk }/\(∀b o,s.heap.get? b=some o->h'.get? b=some o)/\Ih w h' s.heap.objs.size (λk=>k∈ks) n'/\n'<=ks.length)
  (aka (s:={ s with heap:=s.heap.push (Aj w) }) (by simp[hh]) (aom (bf _ rfl)) (hl.push _) hit hlen λh' tk n' hk hS' hn'=>⟨h',tk,n',rfl,λb o e=>hk b o (dj (au e)) (ao _ e),hS',hn'⟩)
  λs' ⟨h',tk,n',e,hk,hS',hn'⟩=>by subst e;exact h h' tk n' hk hS' hn'
end
theorem Yi:entryFor table "set.__iter__" = some Builtin.«frozenset.__iter__» :=
 Cv (id' := "frozenset.__iter__") (by kernel_rfl) rfl (by decide+kernel) (by kernel_rfl)
theorem Bq:Slot "set_iterator" "__next__" "set_iterator.__next__" :=
 .of (owner := "set_iterator") (n := "__next__") (by rw[typeLookup_type,builtinLookup_eq_fast];kernel_rfl) (by decide+kernel) (by decide+kernel) (by decide+kernel)
  (by first|exact .inl (by decide+kernel)|exact .inr (by decide+kernel)) (by rw[xg];kernel_rfl)
theorem Ox:Slot "set_iterator" "__iter__" "set_iterator.__iter__" :=
 .of (owner := "set_iterator") (n := "__iter__") (by rw[typeLookup_type,builtinLookup_eq_fast];kernel_rfl) (by decide+kernel) (by decide+kernel) (by decide+kernel)
  (by first|exact .inl (by decide+kernel)|exact .inr (by decide+kernel)) (by rw[xg];kernel_rfl)
theorem M9:entryFor table "set_iterator.__next__" = some Builtin.«set_iterator.__next__»:=entryFor_of_fast (by kernel_rfl)
theorem Vv:entryFor table "set_iterator.__iter__" = some Builtin.«dict_keyiterator.__iter__» :=
 Cv (id' := "dict_keyiterator.__iter__") (by kernel_rfl) rfl (by decide+kernel) (by kernel_rfl)
theorem Oz(a:Value):argsOk "set_iterator.__next__" ⟨[a],[]⟩:=by unfold argsOk;kernel_rfl
theorem Wx(a:Value):argsOk "set_iterator.__iter__" ⟨[a],[]⟩:=by unfold argsOk;kernel_rfl
theorem agn(hs:Srt xs):below xs 0=0:=by
 obtain⟨h1,h2,h3⟩:=Ip (j:=0) hs;rcases Ef (below xs 0) with e|e
 . exact e
 . have l:0<xs.size:=b_ e h1
   have:=h2 0 xs[0] (by simp[l]) e
   lia
theorem ago(hs:Srt xs)(h:xs[i]?=some j):below xs (j+1)=i+1:=by
 obtain⟨h1,h2,h3⟩:=Ip (j:=j+1) hs;have a1:i<below xs (j+1):=by
  rcases Bo i (below xs (j+1)) with l|l
  . exact l
  . have:=h3 i j h l;lia
 have a2:¬i+1<below xs (j+1):=λl=>by
  have l2:i+1<xs.size:=b_ l h1
  have e2:xs[i+1]?=some xs[i+1]:=by simp[l2]
  have:=h2 (i+1) _ e2 l;have:=hs i (i+1) j _ h e2 B_
  lia
 exact u_ (s_ a2) a1
section
variable{prog:Program}{w:World}{A:Around}{E:Value->Shared->Prop}{s:Shared}{a I:Addr}{xs:List (Int×Tok)}{o:Obj}{es:Array (Int×Value)}{ep:Nat}{t:SetTable}
def wkN(w:World)(a:Addr)(es:Array (Int×Value))(ep:Nat):Array (Int×Value):=if bt w then pickOrder (w.params.setOrder a ep) es else es
theorem ael:(wkN w a es ep).toList.Perm es.toList:=by
 unfold wkN;split
 . exact aak _ _
 . exact ye _
theorem Yj:(wkN w a es ep).size=es.size:=by have:=(ael (w:=w) (a:=a) (es:=es) (ep:=ep)).length_eq;simpa using this
def itN(a:Addr)(slot i n ep:Nat):Obj:={ cls:=.type "set_iterator",data:=.fields #[.int slot 0,.int i 0,.ref a,.int n 0,.int ep 0] }
set_option tactic.hygienic true in
theorem awd(X:Oi w s.heap a xs o es ep t){slot:Nat}(hb:bt w=false->below t.place slot=i)(hs:∀e sl,(wkN w a es ep)[i]?=some e->(bt w=false->below t.place sl=i+1)->Q (some (e.2,sl)) s)(hn:(wkN w a es ep)[i]?=none->Q none s) :
 wpAny (model prog w) A (setNext a slot i ep) Q E s:=by
 unfold setNext;refine aa (ji X.get X.dat X.tab.fits ?_);dsimp only;refine aa (W9 ?_);cases hbt:bt w with
 |true =>
  simp only[jq,u9,cg,jf];refine aa ?_;unfold setWalk;refine aa (ji X.get X.dat X.tab.fits ?_);dsimp only;refine aa (W9 ?_);rw[hbt];simp only[jq];refine aa (yt (aj (aj ?_)));have ew:wkN w a es ep=pickOrder (w.params.setOrder a ep) es:=by unfold wkN;rw[hbt];rfl
  show Q (((pickOrder (w.params.setOrder a ep) es)[i]?).map _) s;rw[<- ew];cases hg:(wkN w a es ep)[i]? with
  |none=>exact hn hg|some e=>exact hs e slot hg (λc=>by rw[hbt] at c;cases c)
 |false =>
  have ew:wkN w a es ep=es:=by unfold wkN;rw[hbt];rfl
  simp only[cg,jf];split
  . rename_i hd
    have hd:(!t.plain&&decide (es.size > 1))=true:=hd;rw[X.pla] at hd;cases hd
  . refine aa ?_
    have fin:Q (match es[below t.place slot]?,t.place[below t.place slot]? with|some (_,x),some j=>some (x,j+1)|_,_=>none) s:=by
     rw[hb hbt];cases hg:es[i]? with
     |none=>exact hn (by rw[ew];exact hg)
     |some e =>
      have li:i<t.place.size:=by rw[X.tab.siz];exact(jd.mp hg).1
      have hp:t.place[i]?=some t.place[i]:=by simp[li]
      rw[hp];exact hs e _ (by rw[ew];exact hg) (λ_=>ago X.tab.srt hp)
    have:wpAny (model prog w) A (if(!t.led&&!es.isEmpty)=true then unsupported "set:maker-not-led" else pure ()) (λ_ s'=>wpAny (model prog w) A (pure (match es[below t.place slot]?,t.place[below t.place slot]? with|some (_,x),some j=>some (x,j+1)|_,_=>none)) Q E s') E s:=by rw[X.led,hbt];simp only[yd,nq,Ek,cg,jf];exact aj (aj fin)
    exact this
set_option tactic.hygienic true in
theorem aoo(X:Oi w s.heap a xs o es ep t){slot:Nat}(hI:s.heap.get? I=some (itN a slot i es.size ep))(hb:bt w=false->below t.place slot=i)(he:(wkN w a es ep)[i]?=some e)(hQ:∀h' sl,h'.get? I=some (itN a sl (i+1) es.size ep)->(bt w=false->below t.place sl=i+1)->Heap.SameBut I s.heap h'->Q (some e.2) { s with heap:=h' }) :
 wpAny (model prog w) A (pyNext (.ref I)) Q E s:=by
 have hT:s.TypeIs (.ref I) "set_iterator" := ⟨_,hI,rfl⟩;unfold pyNext;refine aa (vo (jn (name:=Str.ofString "__next__") hT Bq
  (il Bq hT M9 ?_ (Oz _))))
 unfold Builtin.«set_iterator.__next__»;refine aa (m:=slotArgs "__next__" 0 _) (aj ?_);refine aa (wpAny_fieldsOf hI rfl ?_);show wpAny _ _ (setEntries a >>= _) _ _ s;refine aa (j8 X.get X.dat X.tab.fits ?_);rw[u9];simp only[cg,jf];show wpAny _ _ (setNext a slot i ep >>= _) _ _ s;refine aa (awd X hb (λe' sl he' hsl=>?_) (λhn=>by rw[hn] at he;cases he));rw[he'] at he;cases he;dsimp only;refine aa (gr hI (by simp) λh1 g1 sb1=>?_);refine aa (gr (s:={ s with heap:=h1 }) g1 (by simp) λh2 g2 sb2=>?_);exact aj ⟨_,rfl,aj (hQ h2 sl (by rw[g2];rfl) hsl (sb1.trans sb2))⟩
set_option tactic.hygienic true in
theorem at9(hh:A.handled=none)(X:Oi w s.heap a xs o es ep t){slot:Nat}(hI:s.heap.get? I=some (itN a slot i es.size ep))(hb:bt w=false->below t.place slot=i)(he:(wkN w a es ep)[i]?=none)(hQ:∀h',Heap.ExtBut I s.heap h'->Q none { s with heap:=h' }) :
 wpAny (model prog w) A (pyNext (.ref I)) Q E s:=by
 have hT:s.TypeIs (.ref I) "set_iterator" := ⟨_,hI,rfl⟩;unfold pyNext;refine aa (vo (jn (name:=Str.ofString "__next__") hT Bq
  (il Bq hT M9 ?_ (Oz _))))
 unfold Builtin.«set_iterator.__next__»;refine aa (m:=slotArgs "__next__" 0 _) (aj ?_);refine aa (wpAny_fieldsOf hI rfl ?_);show wpAny _ _ (setEntries a >>= _) _ _ s;refine aa (j8 X.get X.dat X.tab.fits ?_);rw[u9];simp only[cg,jf];show wpAny _ _ (setNext a slot i ep >>= _) _ _ s;refine aa (awd X hb (λe' sl he' hsl=>by rw[he'] at he;cases he) (λhn=>?_));dsimp only;refine aa (gr hI (by simp) λh1 g1 sb1=>?_);show wpAny _ _ (newExc (.type "StopIteration") [] >>= _) _ _ _;refine aa ?_;simp only[newExc,newTuple];refine aa (jb ?_ (by size_fits));refine aa (m:=firstArgMember _ _) (Bx (a:=Value.none) (by first|rfl|(simp only[firstArgMember];rfl)) ?_);refine jb ?_ (by size_fits);simp only[raiseNew];refine aa (wpAny_handled ?_);rw[show A.in1.handled=none from hh];refine aa (aj (wpAny_throw ?_));refine aa (km (T := "StopIteration") (b:=true) ⟨_,bf _ rfl,rfl⟩ Cw ?_);exact aj (hQ _ ((sb1.extBut.push _).push _))
def ItS(w:World)(a I:Addr)(xs:List (Int×Tok))(o:Obj)(es:Array (Int×Value))(ep:Nat)(t:SetTable)(i:Nat)(h:Heap):Prop :=
 Oi w h a xs o es ep t/\∃slot,h.get? I=some (itN a slot i es.size ep)/\(bt w=false->below t.place slot=i)
theorem Oi.at(X:Oi w h a xs o es ep t)(e:h'.get? a=some o):Oi w h' a xs o es ep t:=⟨e,X.exa,X.dat,X.tab,X.ent,X.nod,X.led,X.pla⟩
theorem Walks.bak(hh:A.handled=none)(hne:a≠I)(xs:List (Int×Tok))(o:Obj)(es:Array (Int×Value))(ep:Nat)(t:SetTable) :
 Walks prog w A I [I,a] [I] es.size (λi v=>((wkN w a es ep)[i]?).map (·.2)=some v) (ItS w a I xs o es ep t) where
 sub:=λb hb=>by simp at hb;simp[hb]
 frame:=λ_ _ _ st hk=>⟨st.1.at (hk a (by simp) o st.1.get),let ⟨sl,e,r⟩:=st.2;⟨sl,hk I (by simp) _ e,r⟩⟩
 item:=λi s Q E hi st hQ=>by
  obtain⟨X,slot,hI,hb⟩:=st;have he:(wkN w a es ep)[i]?=some ((wkN w a es ep)[i]'(by rw[Yj];exact hi)):=by simp[Yj,hi]
  refine aoo X hI hb he λh' sl g r sb=>hQ _ h' s.toks (by rw[he];rfl) ⟨X.at ((sb.2 a hne).trans X.get),sl,g,r⟩ λb o hb e=>(sb.2 b (λh=>hb (by simp[h]))).trans e
 done:=λs Q E st hQ=>by obtain⟨X,slot,hI,hb⟩:=st;exact at9 hh X hI hb (by simp[Yj]) λh' he'=>hQ h' s.toks λb o hb e=>he' b o (λh=>hb (by simp[h])) e
 self:=λ_ s _ _ st hQ=>by obtain⟨X,slot,hI,hb⟩:=st;have hT:s.TypeIs (.ref I) "set_iterator" := ⟨_,hI,rfl⟩;refine wpAny_pyIter_slot hT Ox (il Ox hT Vv ?_ (Wx _));show wpAny _ _ (ret (.ref I)) _ _ s;exact aj ⟨_,rfl, "set_iterator",_,hT,Bq.lookup,hQ⟩
theorem a5w(X:Oi w s.heap a xs o es ep t)(hQ:Q (.ref s.heap.objs.size) { s with heap:=s.heap.push (itN a 0 0 es.size ep) }):wpAny (model prog w) A (pyIter (.ref a)) Q E s:=by
 have hT:s.TypeIs (.ref a) "set" := ⟨o,X.get,X.exa.1⟩;refine wpAny_pyIter_slot hT F.slot_set_iter (il F.slot_set_iter hT Yi ?_ (F.args_set_iter_1 _));unfold Builtin.«frozenset.__iter__» Builtin.Frozenset.slot0 slotArgs;simp only[List.isEmpty_nil,nq,cg,↓reduceIte,bind_assoc,Dh,u9];unfold Builtin.Frozenset.addrOf Builtin.Frozenset.sizeOf;refine aa (aj ?_)
 try dsimp only
 refine aa (aj ?_);refine aa (aa (j8 X.get X.dat X.tab.fits (aj ?_)));refine aa ?_;unfold setDrawn;refine aa (ji X.get X.dat X.tab.fits ?_);dsimp only;refine aa (W9 (aj ?_));have hd:(!bt w&&(!t.plain&&decide (es.size > 1)))=false:=by rw[X.pla];simp
 show wpAny _ _ (if(!bt w&&(!t.plain&&decide (es.size > 1)))=true then _ else _) _ _ s;rw[hd];simp only[cg,jf];refine aa (aj (aa (Az X.get X.dat X.tab.fits ?_)));exact aa (jb (aj ⟨_,rfl, "set_iterator",_,⟨_,bf _ rfl,rfl⟩,Bq.lookup,hQ⟩))
end
section
variable{prog:Program}{w:World}{A:Around}{E:Value->Shared->Prop}{s:Shared}{a I:Addr}{xs:List (Int×Tok)}{o:Obj}{es:Array (Int×Value)}{ep:Nat}{t:SetTable}
theorem a5x(hT:s.TypeIs (.ref a) "set")(h:Q false s):wpAny (model prog w) A (Builtin.List.listLengthHint (.ref a)) Q E s:=by
 unfold Builtin.List.listLengthHint;refine aa (v9 hT F.slot_set_len.lookup ?_)
 (generalize hid:("set.__len__" : String)=id0;(fail_if_success (clear hid id0));wp_delta;rw[show splitId id0=some ("set", "__len__") from by subst hid;decide+kernel];subst hid)
 refine aa (km (b:=true) hT sub_set_self ?_);refine aa (o7 hT ?_);exact aj h
theorem aop(hh:A.handled=none)(X:Oi w s.heap a xs o es ep t)(hz:es.size<=sizeLine)(h:∀h' tk acc,(∀b o,s.heap.get? b=some o->h'.get? b=some o)->s.heap.objs.size<=h'.objs.size->ItemsOf (λi v=>((wkN w a es ep)[i]?).map (·.2)=some v) acc es.size->Q acc.toList { s with heap:=h',toks:=tk }) :
 wpAny (model prog w) A (collect (.ref a)) Q E s:=by
 have hlt:a<s.heap.objs.size:=au X.get
 have hSa:s.heap.objs.size≠a:=vf hlt;unfold collect;refine aa (zu (lq F.entry_proto_collect ?_));rw[jx F.plain_proto_collect _];show wpAny _ A.in1 (newList [] >>= λl=>again (.builtin "list.__iadd__" ⟨[l,.ref a],[]⟩)) _ _ s;refine aa (jb ?_);refine aj ⟨vm yg _,lq F.entry_list_iadd ?_⟩;rw[jx yg _];have X1:Oi w (s.heap.push { cls:=.type "list",data:=.seq ([]:List Value).toArray }) a xs o es ep t:=X.at (ao _ X.get);have hT1:Shared.TypeIs { s with heap:=s.heap.push { cls:=.type "list",data:=.seq ([]:List Value).toArray } } (.ref a) "set" := ⟨o,X1.get,X1.exa.1⟩;have h1:Builtin.List.listSameRef (.ref s.heap.objs.size) (.ref a)=false:=by simp[Builtin.List.listSameRef,hSa]
 show wpAny _ A.in1 (Builtin.List.listExtendWith (.ref s.heap.objs.size) (.ref a) (.ref s.heap.objs.size)) _ _ _;unfold Builtin.List.listExtendWith;refine aa (o7 hT1 ?_);rw[bz (by rw[h1];decide)];refine aa (a5w (s:={ s with heap:=s.heap.push { cls:=.type "list",data:=.seq ([]:List Value).toArray } }) X1 ?_);have sz1:(s.heap.push { cls:=.type "list",data:=.seq ([]:List Value).toArray }).objs.size=s.heap.objs.size+1:=iz ..;show wpAny _ A.in1 (holding [.ref (s.heap.push { cls:=.type "list",data:=.seq ([]:List Value).toArray }).objs.size] (Builtin.List.listLengthHint (.ref a)) >>= _) _ _ { s with heap:=(s.heap.push { cls:=.type "list",data:=.seq ([]:List Value).toArray }).push (itN a 0 0 es.size ep) };have gI:((s.heap.push { cls:=.type "list",data:=.seq ([]:List Value).toArray }).push (itN a 0 0 es.size ep)).get? (s.heap.push { cls:=.type "list",data:=.seq ([]:List Value).toArray }).objs.size=some (itN a 0 0 es.size ep):=bf _ rfl;have gS:((s.heap.push { cls:=.type "list",data:=.seq ([]:List Value).toArray }).push (itN a 0 0 es.size ep)).get? s.heap.objs.size=some { cls:=.type "list",data:=.seq ([]:List Value).toArray }:=ao _ (bf _ rfl);have azh:∀b o,s.heap.get? b=some o->((s.heap.push { cls:=.type "list",data:=.seq ([]:List Value).toArray }).push (itN a 0 0 es.size ep)).get? b=some o:=λb o e=>ao _ (ao _ e)
 have gsz:s.heap.objs.size<=((s.heap.push { cls:=.type "list",data:=.seq ([]:List Value).toArray }).push (itN a 0 0 es.size ep)).objs.size:=by rw[iz,sz1];exact a_ x_ x_
 generalize(s.heap.push { cls:=.type "list",data:=.seq ([]:List Value).toArray }).push (itN a 0 0 es.size ep)=hp at *;rw[sz1] at gI ⊢;have X2:Oi w hp a xs o es ep t:=X.at (azh a o X.get);refine aa (gm (a5x ⟨o,X2.get,X2.exa.1⟩ ?_));rw[cu (by decide+kernel)];refine aa (ur ?_);refine aa ?_;show wpAny _ A.in1 (updateSeq s.heap.objs.size (·.push .none) >>= λ_=>updateSeq s.heap.objs.size (·.pop)) _ _ _;refine aa (wpAny_updateSeq gS rfl ?_);have hS₂:=mj (Obj.mapSeq (·.push Value.none)) gS rfl;refine wpAny_updateSeq (hz:=by seq_fits) hS₂ rfl ?_;have hS₃:=mj (Obj.mapSeq (·.pop)) hS₂ rfl;have oth:∀b o,b≠s.heap.objs.size->hp.get? b=some o->((hp.update s.heap.objs.size (Obj.mapSeq (·.push Value.none))).update s.heap.objs.size (Obj.mapSeq (·.pop))).get? b=some o :=
  λb o hb e=>(qw _ _ (jz hb)).trans ((qw _ _ (jz hb)).trans e)
 have sz3:((hp.update s.heap.objs.size (Obj.mapSeq (·.push Value.none))).update s.heap.objs.size (Obj.mapSeq (·.pop))).objs.size=hp.objs.size:=by rw[Heap.size_update,Heap.size_update]
 generalize(hp.update s.heap.objs.size (Obj.mapSeq (·.push Value.none))).update s.heap.objs.size (Obj.mapSeq (·.pop))=h3 at *;have W:=(Walks.bak (prog:=prog) (w:=w) (A:=A.in1) (I:=s.heap.objs.size+1) (a:=a) hh (dj (Ey hlt)) xs o es ep t).toS;refine aj ⟨vm F.plain_extend_loop _,codeAny_extend_loopS W hz _ (by simp only[bw,my,yp,Ko];exact⟨dj (ph _),hSa⟩) _ es.size 0 _ _ _ rfl (jr _)
  ⟨X.at (oth a o (jz hSa) (azh a o X.get)),0,oth _ _ (vf (ph _)) gI,λ_=>agn X.tab.srt⟩ hS₃ (ItemsOf.nil _) λs' acc' c' hm hS' hacc=>?_⟩
 show wpAny _ A (load s.heap.objs.size >>= _) _ _ s';refine aa (Cm hS' ?_);obtain⟨h',g',d',tk',os'⟩:=s';have eg:g'=s.gens:=hm.gens;have ed:d'=s.drawn:=hm.drawn;have eo:os'=s.os:=hm.os;subst eg;subst ed;subst eo;refine aj (h h' tk' acc' (λb o e=>?_) ?_ hacc)
 . have hb:=au e
   exact hm.heap b o (by simp only[bw,my,yp,Ko];exact⟨dj hb,dj (Ey hb)⟩) (oth b o (dj hb) (azh b o e))
 . have:=au hS'
   exact Ae this
theorem agp(X:Oi w s.heap a xs o es ep t)(hacc:ItemsOf (λi v=>((wkN w a es ep)[i]?).map (·.2)=some v) acc es.size) :
 ∃ns:List Int,PyProof.Rows.IntsAre acc.toList ns/\ns.Perm (xs.map (·.1)):=by
 obtain⟨ys,ey,py⟩:=Hn (f:=enI) (ael (w:=w) (a:=a) (es:=es) (ep:=ep)) X.ent;have e1:acc.toList=ys.map λy=>Value.int y.1 y.2:=by
  apply Bs;intro i;have hz:acc.toList.length=es.size:=by simpa using hacc.1
  have hy:ys.length=es.size:=by rw[py.length_eq,<- X.size]
  by_cases li:i<es.size
  . have e2:acc.toList[i]?=some (acc.toList[i]'(b_ li (g_ hz))):=by simp[hz,li]
    have e3:=hacc.2 i _ (by rw[<- lg];exact e2);rw[e2,<- e3,<- lg,ey,jk,jk];cases ys[i]?<;>rfl
  . rw[qm (a_ (f_ hz) (s_ li)),qm (by simp;exact a_ (f_ hy) (s_ li))]
 refine⟨ys.map (·.1),?_,py.map _⟩;rw[e1];clear e1 py ey hacc
 induction ys with
 |nil=>exact .nil|cons y ys ih=>exact .cons _ _ ih
theorem aem(hh:A.handled=none)(hS:Ih w s.heap a S n)(hn:n<31)(h:∀(h':Heap) (tk:Nat) (p:Addr) (out:Array Value) (ns:List Int),(∀b o,s.heap.get? b=some o->h'.get? b=some o)->s.heap.objs.size<=p->PyProof.Rows.IntsAre out.toList ns->ns.Pairwise (·<=·)->ns.Nodup->(∀k,S k↔k∈ns) ->
 (∃c,h'.get? p=some (PyProof.Rows.seqObj "list" out c))->Q (.ref p) { s with heap:=h',toks:=tk }) :
 wpAny (model prog w) A (call (.builtin "sorted") [.ref a]) Q E s:=by
 obtain⟨xs,o,es,ep,t,X,hm,hl,nf⟩:=hS;have hsz:=X.size;refine Calls.call_function_entry PyProof.Rows.kind_sorted PyProof.Rows.plain_sorted PyProof.Rows.entry_sorted (PyProof.Rows.args_sorted1 _) ?_;unfold Builtin.«sorted»;refine aa (m:=checkCount "sorted" 1 1 _) (aj ?_);refine aa (aop (by simpa using hh) X (by rw[mz];exact e_ (c_ (f_ hsz) (c_ (f_ hl) (b_ hn (by decide))))) λh1 tk acc keep hz1 hacc=>?_);obtain⟨ns,hI,pn⟩:=agp X hacc;have hlen:acc.toList.length=n:=by have:=hacc.1;simp;exact u_ (a_ (f_ this) (a_ (f_ hsz) (f_ hl))) (a_ (g_ hl) (a_ (g_ hsz) (g_ this)))
 have eac:acc=acc.toList.toArray:=by simp
 refine aa (wpAny_newList ?_ (by rw[mz];exact e_ (c_ (f_ hlen) (b_ hn (by decide)))));have hoL:(h1.push (PyProof.Rows.seqObj "list" acc.toList.toArray 0)).get? h1.objs.size=some (PyProof.Rows.seqObj "list" acc.toList.toArray 0):=bf _ rfl;refine aa (gm (il PyProof.Rows.slot_list_sort ⟨_,hoL,rfl⟩ PyProof.Rows.entry_list_sort (PyProof.Rows.list_sort_tree (s:={ s with heap:=h1.push (PyProof.Rows.seqObj "list" acc.toList.toArray 0),toks:=tk }) hoL hI (c_ (f_ hlen) (b_ hn (by decide))) λout ns' a1 a2 a3=>⟨_,rfl,?_⟩) (PyProof.Rows.args_list_sort _)));have p2:=a2.trans pn;refine aj ⟨_,rfl,h _ tk h1.objs.size out ns' (λb o e=>?_) hz1 a1 a3 (p2.nodup_iff.mpr X.nod) (λk=>(hm k).trans p2.mem_iff.symm) (PyProof.Rows.sortedHeap_at hoL)⟩;have hb1:=keep b o e;have hlt:=au hb1;rw[PyProof.Rows.sortedHeap_old (dj hlt) (by rw[iz];exact Ey hlt),Heap.get?_push_ne _ _ _ (dj hlt)];exact hb1
end
end Za
namespace Sm
open PySem L2
open MW (Ex Dr Z3 Rp Fl m7 Lv Tg Res Store MO Dy Cp Op2 Blt Bm Kx Src)
theorem Yk(x:Int):∀l,(MW.insI x l).Perm (x::l)
 |[]=>ye _
 |y::l=>by
  unfold MW.insI;split
  . exact ye _
  . exact((Yk x l).cons y).trans (List.Perm.swap x y l)
theorem Ri:∀l,(MW.sortI l).Perm l
 |[]=>ye _|x::l=>(Yk x _).trans ((Ri l).cons x)
theorem aoq(x:Int):∀{l:List Int},l.Pairwise (·<=·)->(MW.insI x l).Pairwise (·<=·)
 |[],_=>List.pairwise_singleton _ _
 |y::l,h=>by
  obtain⟨h1,h2⟩:=yw.mp h;unfold MW.insI;split
  . refine yw.mpr ⟨λz hz=>?_,h⟩
    rcases bw.mp hz with rfl|hz
    . lia
    . have:=h1 z hz;lia
  . refine yw.mpr ⟨λz hz=>?_,aoq x h2⟩
    rcases bw.mp ((Yk x l).mem_iff.mp hz) with rfl|hz
    . lia
    . exact h1 z hz
theorem ah8:∀l,(MW.sortI l).Pairwise (·<=·)
 |[]=>List.Pairwise.nil|x::l=>aoq x (ah8 l)
set_option tactic.hygienic true in
theorem ab2(k:Int):∀l,k∈MW.Bb l↔k∈l
 |[]=>Iff.rfl
 |x::l=>by
  unfold MW.Bb;split
  . rename_i h
    rw[ab2 k l,bw];exact⟨.inr,λz=>z.elim (λe=>e▸h) id⟩
  . rw[bw,bw,ab2 k l]
set_option tactic.hygienic true in
theorem agq:∀l,(MW.Bb l).Nodup
 |[]=>Bt
 |x::l=>by
  unfold MW.Bb;split
  . exact agq l
  . rename_i h
    exact ue.mpr ⟨λz=>h ((ab2 x l).mp z),agq l⟩
theorem aor:∀l,(MW.Bb l).length<=l.length
 |[]=>bc _
 |x::l=>by
  have:=aor l;unfold MW.Bb;split<;>simp<;>omega
theorem awe:∀{a b:List Int},a.Pairwise (·<=·)->b.Pairwise (·<=·)->a.Nodup->b.Nodup->(∀k,k∈a↔k∈b)->a=b
 |[],[],_,_,_,_,_=>rfl|[],y::b,_,_,_,_,h=>nomatch(h y).mpr cj|x::a,[],_,_,_,_,h=>nomatch(h x).mp cj
 |x::a,y::b,ha,hb,na,nb,h=>by
  obtain⟨a1,a2⟩:=yw.mp ha;obtain⟨b1,b2⟩:=yw.mp hb;obtain⟨c1,c2⟩:=ue.mp na;obtain⟨d1,d2⟩:=ue.mp nb;have e:x=y:=by
   rcases bw.mp ((h x).mp cj) with e|m
   . exact e
   . rcases bw.mp ((h y).mpr cj) with e|m'
     . exact e.symm
     . have:=b1 x m;have:=a1 y m';lia
  subst e
  congr 1
  refine awe a2 b2 c2 d2 λk=>⟨λm=>?_,λm=>?_⟩
  . rcases bw.mp ((h k).mp (bh _ m)) with rfl|m'
    . exact absurd m c1
    . exact m'
  . rcases bw.mp ((h k).mpr (bh _ m)) with rfl|m'
    . exact absurd m d1
    . exact m'
theorem aua(h1:ns.Pairwise (·<=·))(h2:ns.Nodup)(h3:∀k,k∈l↔k∈ns):ns=MW.sortI (MW.Bb l) :=
 awe h1 (ah8 _) h2 ((Ri _).nodup_iff.mpr (agq l)) λk=>by rw[(Ri _).mem_iff,ab2,h3]
section
variable{nm:Nm}{W:Dy}{X:Cx}{a b c o e:Expr}{a' b' c' o':Ex}{pos pos' apos cpos p2:Pos}{ι:Io}{H:Hp}{σ:St}{ρ:En}{M M1 M2:Store}{x y:Dv}{es:List Expr}{es':Dr}
theorem aen{K:Fg}:∀{ds:List Dv}{vs:List V}{is:List Value}{ns:List Int},kj K ι H ds vs->Vals vs is->MW.Ww ds=some ns->PyProof.Rows.IntsAre is ns
 |_,_,_,_,.nil,.nil,h=>by cases h;exact .nil
 |_,_,_,_,.cons r t,.cons rv tv,h=>by
  cases r<;>simp only[MW.Ww] at h<;>try cases h
  obtain⟨ns',e1,e2⟩:=bx.mp h;subst e2;obtain⟨tk,rfl⟩:=rv;exact .cons _ _ (aen t tv e1)
theorem aeo:∀{is:List Value}{ns:List Int},PyProof.Rows.IntsAre is ns->Vals (ns.map V.int) is
 |_,_,.nil=>.nil|_,_,.cons n t h=>.cons ⟨t,rfl⟩ (aeo h)
theorem aar{K:Fg}:∀ns:List Int,kj K ι H (ns.map MW.D.int) (ns.map V.int)
 |[]=>.nil|n::ns=>.cons (.int n) (aar ns)
set_option tactic.hygienic true in
theorem aep(e:MW.o6 .Jj ds M=.ok d M'):∃x xs ns,ds=[x]/\MW.asList M x=some xs/\MW.Ww xs=some ns/\ns.length<31/\d=.vl ((MW.sortI (MW.Bb ns)).map MW.D.int)/\M'=M:=by
 match ds,e with
 |[x],e =>
  have e:Res.ofOpt (((MW.asList M x).bind MW.Ww).bind λis=>if is.length<31 then some (MW.D.vl ((MW.sortI (MW.Bb is)).map MW.D.int)) else none) M=.ok d M':=e;obtain⟨e1,e2⟩:=rz e;obtain⟨ns,e3,e4⟩:=dg.mp e1;obtain⟨xs,e5,e6⟩:=dg.mp e3;split at e4
  . rename_i hl
    exact⟨x,xs,ns,rfl,e5,e6,hl,(ie e4).symm,e2⟩
  . cases e4
 |[],e=>cases e|_::_::_,e=>cases e
theorem akc(hr:zj 8 X.A)(hg:Gl X n)(hm:X.mg n=none)(hv:bootBuiltins n=some (.builtin "sorted"))(hn:n≠"__name__")(hdb:(n==("__debug__" : Str))=false)(hg2:Gl X tn)(hm2:X.mg tn=none)(hv2:bootBuiltins tn=some (.type "set"))(hn2:tn≠"__name__")(agm:(tn==("__debug__" : Str))=false)(ha:PA X [a] (W4 nm W X.K (.cons a' .nil)))(he:starEach [.Call (.Name tn p') [a] [] q2] X.env=(false,eval (.Call (.Name tn p') [a] [] q2) X.env)::starEach [] X.env)(hpl:(backTo q1 (starEach [] X.env)).any (·.1)=false)(he2:starEach [a] X.env=(false,eval a X.env)::starEach [] X.env)(agl:(backTo q2 (starEach [] X.env)).any (·.1)=false) :
 PE X (.Call (.Name n p) [.Call (.Name tn p') [a] [] q2] [] q1) (tE nm W X.K (.blt .Jj (.cons a' .nil))):=by
 intro pins s σ H Q I hh;obtain⟨ι,ρ,M,d,M',S,R,e,q⟩:=hh;rw[MW.abk] at e;obtain⟨ds,M1,e1,e⟩:=dm e;obtain⟨x,xs,ns,rfl,e2,e3,hl,rfl,rfl⟩:=aep e;refine ik (G8 I hg hm hv ?_ hn hdb);refine xr (Q:=EP X pins σ Q) ?_ he hpl;rw[he];show wpAny _ _ (spliced ((false,eval (.Call (.Name tn p') [a] [] q2) X.env)::backTo q1 (starEach [] X.env))) _ _ s;refine qt ?_;refine ik (G8 I hg2 hm2 hv2 ?_ hn2 agm);refine iw (Bp (ha q2 pins s σ H (λvs H1=>∃ι1 v,vs=[v]/\Rep X.K ι1 H1 x v/\Le ι H ι1 H1/\kh nm X.K ι1 H1 M') I ⟨ι,ρ,M,[x],M',S,R,e1,fun ι1 H1 vs le S1 r=>?_⟩) λus s1 ⟨vs,H1,I1,r1,ι1,v,ev,rx,le1,S1⟩=>?_) he2 agl
 . obtain⟨v,ev,rv⟩:=Lx r rfl
   exact⟨ι1,v,ev,rv,le,S1⟩
 subst ev;obtain⟨u,rfl,ru⟩:=Vr r1;obtain⟨p,ws,rfl,hp,rl⟩:=uw S1 rx e2;cases ru;obtain⟨is,rvl,pl,_⟩:=I1.list (Jv.of hp);refine Za.akb hr.hd pl.isList (by simpa using aen rl rvl e3) hl λh' tk n' keep hS hn'=>?_
 show wpAny _ _ (spliced []) _ _ _;refine u5 ?_;refine Za.aem (s:={ s1 with heap:=h',toks:=tk }) hr.hd hS (c_ hn' hl) λh2 tk2 p2 out ms ah1 hp2 hI2 so nd mem ⟨c,g⟩=>?_
 obtain rfl:=aua so nd mem;obtain⟨o9,_,_,_,g9,_⟩:=hS.get;have hz1:s1.heap.objs.size<=p2:=ig (Ae (au g9)) hp2
 have hf:H1 p2=none:=I1.hok.fresh hz1;have hzl:((MW.sortI (MW.Bb ns)).map V.int).length<=sizeLine:=by rw[fc,(Ri _).length_eq,mz];have:=aor ns;exact e_ (c_ this (b_ hl (by decide)))
 have I3:Inv X pins σ (upd H1 p2 (.lst ((MW.sortI (MW.Bb ns)).map V.int))) { s1 with heap:=h2,toks:=tk2 } :=
  I1.laid (a:=p2) (t':=tk2) (λb o e=>ah1 b o (keep b o e)) hz1 (show zx X.prog X.w _ _ _ (.lst _) from⟨hzl,out.toList,c,aeo hI2,by simpa using g⟩)
 obtain⟨S2,le2,r2⟩:=abn (X:=X) S1 hf (aar _);exact⟨.ref p2,_,I3,rfl,q _ _ _ (le1.trans le2) S2 r2⟩
end
end Sm
namespace Ck
open PySem L2 Sm
open MW (Ex Dr Z3 Rp Fl m7 Lv Tg Res Store MO Dy Cp Op2 Blt Bm Kx Src)
structure Tab where
 fns:List (Option (Str×Nat))
 cls:List (Option (Str×Nat))
 mts:List (Str×Nat)
 Tj:List Str
 aub:List (Str×Int)
noncomputable def Qn:List Str:=["len", "tuple", "list", "dict", "max", "min", "isinstance", "range", "enumerate", "set", "zip", "all", "bool", "int", "sum", "sorted"]
structure TabOk(T:Tab)(nm:Nm)(W:Dy)(k:Nat)(P:Program)(w:World)(K:Fg)(mg:Str->Option Value)(base:Heap):Prop where
 fn:∀f x n,T.fns[f]?=some (some (x,n))->∃fa fd ps,Ij P w K mg base CX0 k fa fd ps (spF nm W K n f)/\mg x=some (.ref fa)/\PySem.W.keepIn K (.ref fa)=true/\Binds K fd ps []
 cl:∀c x n,T.cls[c]?=some (some (x,n))->∃C fa fd ps cl,Mk K C fa/\Ij P w K mg base CX0 k fa fd ps (spF nm W K (n+1) cl.init)/\mg x=some (.ref C)/\Binds K fd ps []/\W.cls[c]?=some cl/\nm.cls c=some C
 mt:∀m x n,T.mts[m]?=some (x,n)->∃C fa fd ps f,Cls K C/\Meth K C x fa/\Ij P w K mg base CX0 k fa fd ps (spF nm W K (n+1) f)/\Binds K fd ps [] /\
  (∀c' cl',W.cls[c']?=some cl'->∀g,cl'.meths.lookup m=some g->nm.cls c'=some C/\g=f)/\∀i,nm.fld i≠x
 fl:∀f x,T.Tj[f]?=some x->x=nm.fld f/\∀c C,nm.cls c=some C->Cls K C/\Jw K C x
 cs:∀x i,(x,i)∈T.aub->∃t,mg x=some (.int i t)
 bt:∀x∈Qn,mg x=none
structure Ctx where
 N:List Str
 sc:List (Str×NameKind)
 fn:Bool
structure Hy(T:Tab)(nm:Nm)(W:Dy)(k:Nat)(c:Ctx)(X:Cx):Prop where
 N:X.N=c.N
 nd:c.N.Nodup
 sc:X.env.scope.names=c.sc
 kd:X.env.scope.kind=.function
 calm:X.calm=true
 room:zj (k+16) X.A
 fnl:c.fn=true->(∀n,X.fn n=true)/\PassesOwn (model X.prog X.w) X.A X.env X.xe
 tab:TabOk T nm W k X.prog X.w X.K X.mg X.base
theorem aia(K:Fg)(Ty U:String):PySem.W.kitOne K (.type Ty) (.type U)=(if(Value.type Ty==Value.type U)=true then some true else if PySem.W.kitMeta U=true then(fastBuiltinMro Ty).map (·.contains (.type U)) else none):=rfl
theorem kit_tuple(K:Fg):∀Ty∈["NoneType", "bool", "int", "str", "list", "dict"],PySem.W.kitOne K (.type Ty) (.type "tuple")=some false:=λTy m=>by simp only[bw,my,yp] at m;rcases m with rfl|rfl|rfl|rfl|rfl|rfl<;>rw[aia]<;>decide+kernel
theorem aos(K:Fg):∀Ty∈["NoneType", "int", "str", "list", "tuple"],PySem.W.kitOne K (.type Ty) (.type "bool")=some false:=λTy m=>by simp only[bw,my,yp] at m;rcases m with rfl|rfl|rfl|rfl|rfl<;>rw[aia]<;>decide+kernel
noncomputable def Yl(n:Str):Bool:=!(n==("__debug__" : Str))&&(!(n==("__classdict__" : Str))&&!(n==("__name__" : Str)))
noncomputable def akd(c:Ctx)(n:Str):Bool:=match c.sc.lookup n with|some .local=>true|some .cell=>true|some .free=>true|_=>false
noncomputable def azi(c:Ctx)(n:Str):Bool:=match c.sc.lookup n with|some .local=>true|some .cell=>c.fn|_=>false
noncomputable def Xb(c:Ctx)(n:Str):Bool:=Yl n&&(match c.sc.lookup n with|some .globalImplicit=>true|_=>false)
noncomputable def aib(c:Ctx)(i:Nat)(n:Str):Bool:=match c.N[i]? with|some m=>m==n|none=>false
noncomputable def yz:List Expr->Bool
 |[]=>true|e::r=>noStar e&&yz r
noncomputable def Tn:Expr->Bool
 |.Name ..=>true|.Attribute ..=>true|.Subscript ..=>true|.Call (.Attribute ..) ..=>true|_=>false
theorem qu(h:Yl n=true):(n==("__debug__" : Str))=false/\(n==("__classdict__" : Str))=false/\n≠"__name__" := by simp only[Yl,aq,Br] at h;exact⟨h.1,h.2.1,λz=>by have:=h.2.2;rw[z] at this;simp at this⟩
section
variable{T:Tab}{nm:Nm}{W:Dy}{k:Nat}{c:Ctx}{X:Cx}
set_option tactic.hygienic true in
theorem azj(h:Hy T nm W k c X)(hv:akd c n=true):Vis X.env.scope n:=by unfold Vis;rw[h.sc];unfold akd at hv;split at hv<;>rename_i e<;>first|exact .inl e|exact .inr (.inl e)|exact .inr (.inr e)|cases hv
set_option tactic.hygienic true in
theorem azk(h:Hy T nm W k c X)(hv:azi c n=true):L2.Loc X.env.scope n/\(X.fn n=true\/X.env.scope.names.lookup n=some .local):=by
 unfold L2.Loc;rw[h.sc];unfold azi at hv;split at hv
 . rename_i e;exact⟨.inl e,.inr e⟩
 . rename_i e;exact⟨.inr e,.inl ((h.fnl hv).1 n)⟩
 . cases hv
set_option tactic.hygienic true in
theorem Kf(h:Hy T nm W k c X)(hv:Xb c n=true):Gl X n/\Yl n=true:=by
 unfold Xb at hv;rw[aq] at hv;refine⟨?_,hv.1⟩;have hv:=hv.2;unfold Gl Env.kindOf;rw[h.sc];split at hv
 . rename_i e;exact e
 . cases hv
set_option tactic.hygienic true in
theorem slot_of(h:Hy T nm W k c X)(hv:aib c i n=true):X.N[i]?=some n:=by
 rw[h.N];unfold aib at hv;split at hv
 . rename_i m e;rw[e,eq_of_beq hv]
 . cases hv
theorem Ym{env:Env}:∀{es:List Expr},yz es=true->starEach es env=es.map λe=>(false,eval e env)
 |[],_=>rfl
 |e::r,h=>by
  simp only[yz,aq] at h;rw[ju h.1,Ym h.2];rfl
theorem uf(h:yz es=true):(backTo pos (starEach es env)).any (·.1)=false:=by rw[Ym h];simp[backTo]
theorem Yn(h:yz es=true):(backTo pos (starEach es env)).all (λx=>!x.1)=true:=by rw[Ym h];simp[backTo]
set_option tactic.hygienic true in
theorem Jh(h:Tn o=true):attributeBase o n env (eval o env)=eval o env:=by
 cases o<;>first|rfl|(simp[Tn] at h)
 rename_i f as kws p;cases f<;>first|rfl|(simp[Tn] at h)
theorem aic(h:Tn o=true)(hs:yz es=true)(hl:es.length<29)(hp:(apos.endLine==pos.line)=true) :
 eval (.Call (.Attribute o m apos) es [] pos) env=(do
  let ov <- eval o env
  standAt apos.atName
  let (f,first) <- holding [ov] (getMethod ov m (do return (<- importBound o env).getD true))
  callWith pos f first (backTo pos (starEach es env)) (backToKw pos (keywordEach [] env))):=by
 have hf:methodCallForm (es.length+0) (backTo pos (starEach es env)) (backToKw pos (keywordEach [] env))=true:=by unfold methodCallForm;rw[Yn hs];simp[keywordEach,backToKw];exact b_ hl (by decide)
 show(do
  let ov <- attributeBase o m env (eval o env)
  standAt apos.atName
  methodCall o m apos pos env ov (es.length+0) (backTo pos (starEach es env)) (backToKw pos (keywordEach [] env)))=_
 rw[Jh h];unfold methodCall;rw[hf];have hq:methodCallPos true o env apos pos=pure pos:=by unfold methodCallPos;rw[hp];rfl
 rw[hq];simp only[calleeOf,jq,pure_bind]
end
noncomputable def Fo{α:Type}(o:Option α)(f:α->Bool):Bool:=match o with|some x=>f x|none=>false
theorem jm{o:Option α}{f:α->Bool}(h:Fo o f=true):∃x,o=some x/\f x=true:=by
 cases o with
 |none=>cases h|some x=>exact⟨x,rfl,h⟩
noncomputable def Tp{α:Type}(l:List α):Option α:=match l with|[x]=>some x|_=>none
theorem By{l:List α}{x:α}(h:Tp l=some x):l=[x]:=by
 cases l with
 |nil=>cases h
 |cons y r=>cases r with
  |nil=>cases h;rfl|cons _ _=>cases h
theorem Zb{α:Type}{P:α->Prop}{o:Option {x // P x}}{q:α}(h:o.map Subtype.val=some q):P q:=by
 cases o with
 |none=>cases h|some x=>cases h;exact x.2
noncomputable def dName(a:Expr):Option Str:=Option.map Subtype.val (α:={q:Str // ∃p,a=.Name q p}) (match a with|.Name n p=>some ⟨n,p,rfl⟩|_=>none)
noncomputable def aot(a:Expr):Option Const:=Option.map Subtype.val (α:={q:Const // ∃k p,a=.Constant q k p}) (match a with|.Constant n k p=>some ⟨n,k,p,rfl⟩|_=>none)
noncomputable def a5y(a:Expr):Option (Expr×Operator×Expr):=Option.map Subtype.val (α:={q:Expr×Operator×Expr // ∃p,a=.BinOp q.1 q.2.1 q.2.2 p}) (match a with|.BinOp l o r p=>some ⟨(l,o,r),p,rfl⟩|_=>none)
noncomputable def dUn(a:Expr):Option (UnaryOp×Expr):=Option.map Subtype.val (α:={q:UnaryOp×Expr // ∃p,a=.UnaryOp q.1 q.2 p}) (match a with|.UnaryOp o l p=>some ⟨(o,l),p,rfl⟩|_=>none)
noncomputable def auc(a:Expr):Option (Expr×List CmpOp×List Expr):=Option.map Subtype.val (α:={q:Expr×List CmpOp×List Expr // ∃p,a=.Compare q.1 q.2.1 q.2.2 p}) (match a with|.Compare l o r p=>some ⟨(l,o,r),p,rfl⟩|_=>none)
noncomputable def awf(a:Expr):Option (BoolOp×List Expr×Pos):=Option.map Subtype.val (α:={q:BoolOp×List Expr×Pos // a=.BoolOp q.1 q.2.1 q.2.2}) (match a with|.BoolOp o l p=>some ⟨(o,l,p),rfl⟩|_=>none)
noncomputable def azl(a:Expr):Option (Expr×Expr×Expr):=Option.map Subtype.val (α:={q:Expr×Expr×Expr // ∃p,a=.IfExp q.1 q.2.1 q.2.2 p}) (match a with|.IfExp t l r p=>some ⟨(t,l,r),p,rfl⟩|_=>none)
noncomputable def dTup(a:Expr):Option (List Expr):=Option.map Subtype.val (α:={q:List Expr // ∃k p,a=.Tuple q k p}) (match a with|.Tuple l k p=>some ⟨l,k,p,rfl⟩|_=>none)
noncomputable def azm(a:Expr):Option (List Expr):=Option.map Subtype.val (α:={q:List Expr // ∃p,a=.List q p}) (match a with|.List l p=>some ⟨l,p,rfl⟩|_=>none)
noncomputable def azn(a:Expr):Option (List (Option Expr)×List Expr):=Option.map Subtype.val (α:={q:List (Option Expr)×List Expr // ∃p,a=.Dict q.1 q.2 p}) (match a with|.Dict k v p=>some ⟨(k,v),p,rfl⟩|_=>none)
noncomputable def aou(a:Expr):Option (Expr×Expr):=Option.map Subtype.val (α:={q:Expr×Expr // ∃p,a=.Subscript q.1 q.2 p}) (match a with|.Subscript l r p=>some ⟨(l,r),p,rfl⟩|_=>none)
noncomputable def dSl(a:Expr):Option (Option Expr×Option Expr×Option Expr):=Option.map Subtype.val (α:={q:Option Expr×Option Expr×Option Expr // ∃p,a=.Slice q.1 q.2.1 q.2.2 p}) (match a with|.Slice l r s p=>some ⟨(l,r,s),p,rfl⟩|_=>none)
noncomputable def dCall(a:Expr):Option (Expr×List Expr×List Keyword×Pos):=Option.map Subtype.val (α:={q:Expr×List Expr×List Keyword×Pos // a=.Call q.1 q.2.1 q.2.2.1 q.2.2.2}) (match a with|.Call f l k p=>some ⟨(f,l,k,p),rfl⟩|_=>none)
noncomputable def aov(a:Expr):Option (Expr×Str×Pos):=Option.map Subtype.val (α:={q:Expr×Str×Pos // a=.Attribute q.1 q.2.1 q.2.2}) (match a with|.Attribute l n p=>some ⟨(l,n,p),rfl⟩|_=>none)
noncomputable def aeq(a:Expr):Option (Expr×List Comprehension×Scope):=Option.map Subtype.val (α:={q:Expr×List Comprehension×Scope // ∃p,a=.ListComp q.1 q.2.1 q.2.2 p}) (match a with|.ListComp e g s p=>some ⟨(e,g,s),p,rfl⟩|_=>none)
theorem Nb(h:dName a=some n):∃p,a=.Name n p:=(Zb h :)
theorem Xc(h:aot a=some n):∃k p,a=.Constant n k p:=(Zb h :)
theorem aud(h:a5y a=some (l,o,r)):∃p,a=.BinOp l o r p:=(Zb h :)
theorem aow(h:dUn a=some (o,l)):∃p,a=.UnaryOp o l p:=(Zb h :)
theorem ab3(h:auc a=some (l,o,r)):∃p,a=.Compare l o r p:=(Zb h :)
theorem aox(h:awf a=some (o,r,p)):a=.BoolOp o r p:=(Zb h :)
theorem aue(h:azl a=some (t,l,r)):∃p,a=.IfExp t l r p:=(Zb h :)
theorem Ut(h:dTup a=some l):∃k p,a=.Tuple l k p:=(Zb h :)
theorem aid(h:azm a=some l):∃p,a=.List l p:=(Zb h :)
theorem aie(h:azn a=some (k,l)):∃p,a=.Dict k l p:=(Zb h :)
theorem ab4(h:aou a=some (l,r)):∃p,a=.Subscript l r p:=(Zb h :)
theorem azo(h:dSl a=some (l,r,s)):∃p,a=.Slice l r s p:=(Zb h :)
theorem aer(h:dCall a=some (f,l,k,p)):a=.Call f l k p:=(Zb h :)
theorem ab5(h:aov a=some (l,n,p)):a=.Attribute l n p:=(Zb h :)
theorem Yo(h:aeq a=some (e,g,s)):∃p,a=.ListComp e g s p:=(Zb h :)
noncomputable def dCN(a:Expr):Option (Str×List Expr):=(dCall a).bind λq=>if q.2.2.1.isEmpty then(dName q.1).map λn=>(n,q.2.1) else none
set_option tactic.hygienic true in
theorem Ky(h:dCN a=some (n,l)):∃p p',a=.Call (.Name n p) l [] p':=by
 obtain⟨⟨f,l',k,p⟩,h1,h2⟩:=dg.mp h;split at h2
 . rename_i hk
   obtain⟨n',h3,h4⟩:=bx.mp h2;obtain⟨p',e⟩:=Nb h3;have e:f=_:=e;have hk:k=[]:=o8.mp hk;cases h4;exact⟨p',p,by rw[aer h1,e,hk]⟩
 . cases h2
noncomputable def dCA(a:Expr):Option (Expr×Str×Pos×List Expr×Pos):=(dCall a).bind λq=>if q.2.2.1.isEmpty then(aov q.1).map λn=>(n.1,n.2.1,n.2.2,q.2.1,q.2.2.2) else none
set_option tactic.hygienic true in
theorem aoy(h:dCA a=some (o,n,ap,l,p)):a=.Call (.Attribute o n ap) l [] p:=by
 obtain⟨⟨f,l',k,p'⟩,h1,h2⟩:=dg.mp h;split at h2
 . rename_i hk
   obtain⟨⟨o',n',ap'⟩,h3,h4⟩:=bx.mp h2;have e:f=_:=ab5 h3;have hk:k=[]:=o8.mp hk;cases h4;rw[aer h1,e,hk]
 . cases h2
noncomputable def a5z(l:List Expr):List Str:=l.filterMap dName
noncomputable def Ho(e:Expr):List Str:=match dTup e with|some l=>a5z l|none=>a5z [e]
noncomputable def hid(i:Nat):Str:=⟨#[0,i]⟩
noncomputable def ake(ts:List Str)(p:Str×Nat):Str:=if ts.contains p.1=true then hid p.2 else p.1
noncomputable def Wy(N ts:List Str):List Str:=N.zipIdx.map (ake ts)++ts
noncomputable def auf(c:Ctx)(names:List (Str×NameKind)):List (Str×NameKind):=names.map λy=>if(y.2==NameKind.free&&c.sc.lookup y.1==some .cell) then(y.1,NameKind.cell) else(y.1,y.2)
noncomputable def aes(c:Ctx)(sc:Scope)(ts:List Str):Ctx:=⟨Wy c.N ts,auf c sc.names,false⟩
noncomputable def azp(c:Ctx)(sc:Scope)(ts:List Str):Bool :=
 decide (sc.kind=.function)&&(sc.names.all (λy=>!(y.2==NameKind.cell))&&(sc.names.all (λy=>sc.names.lookup y.1==some y.2) &&
 (sc.names.all (λy=>!(y.2==NameKind.free)||(c.sc.lookup y.1==some .cell||c.sc.lookup y.1==some .free))&&(decide ((Wy c.N ts).Nodup) &&
 c.N.zipIdx.all (λp=>!(akd (aes c sc ts) (ake ts p))||(ake ts p==p.1&&sc.names.lookup (ake ts p)==some .free))))))
noncomputable def a6a:Op2->Operator
 |.add=>.Add|.amf=>.Add|.sub=>.Sub|.mul=>.Mult|.fdiv=>.FloorDiv|.mod=>.Mod|.pow=>.Pow
noncomputable def auh:Cp->Option CmpOp
 |.eq=>some .Eq|.ne=>some .NotEq|.lt=>some .Lt|.le=>some .LtE|.gt=>some .Gt|.ge=>some .GtE|.inn=>some .In|.V9=>some .NotIn
 |.is=>none|.amg=>none
noncomputable def azq:Blt->Option Str
 |.len=>some "len"|.tuple=>some "tuple"|.list=>some "list"|.dict=>some "dict"|.max=>some "max"|.min=>some "min"
 |.sum=>some "sum"|_=>none
noncomputable def bmN:Bm->Option Str
 |.append=>some "append"|.index=>some "index"|.pop=>some "pop"|.get=>some "get"|.N8=>some "index"
noncomputable def azr(T:Tab)(c:Ctx)(d:MW.D)(a:Expr):Bool :=
 match d with
 |.int i=>Fo (aot a) (λk=>decide (k=.int i))||Fo (dName a) λn=>Xb c n&&T.aub.contains (n,i)
 |.bl i=>Fo (aot a) λk=>decide (k=.bool i)
 |.non=>Fo (aot a) λk=>decide (k=.none)
 |.str s=>Fo (aot a) λk=>decide (k=.str s)
 |_=>false
noncomputable def tg1(c:Ctx)(lo i:Nat)(e:Expr):Bool:=Fo (dName e) λn=>aib c i n&&(azi c n&&decide (lo<=i))
noncomputable def akf(c:Ctx)(lo:Nat):List Nat->List Expr->Bool
 |[],[]=>true|i::is,e::ts=>tg1 c lo i e&&akf c lo is ts|_,_=>false
noncomputable def tgB(c:Ctx)(lo:Nat)(t:Tg)(e:Expr):Bool :=
 match t with
 |.name i=>tg1 c lo i e|.names is=>Fo (dTup e) λts=>akf c lo is ts
noncomputable def Uu(e:Expr):Bool:=(azl e).isNone
noncomputable def fnB(l:List (Option (Str×Nat)))(f:Nat)(n:Str)(k:Nat):Bool:=decide (l[f]?=some (some (n,k)))
noncomputable def mtB(l:List (Str×Nat))(f:Nat)(n:Str)(k:Nat):Bool:=decide (l[f]?=some (n,k))
noncomputable def flB(l:List Str)(f:Nat)(n:Str):Bool:=decide (l[f]?=some n)
noncomputable def aih(c:Ctx)(k:Nat)(t:Tg)(g:Comprehension)(sc:Scope):Bool :=
 azp c sc (Ho g.target)&&((k==(Ho g.target).length)&&(tgB (aes c sc (Ho g.target)) c.N.length t g.target&&(Ig g.iter&&decide (g.is_async=0))))
noncomputable def aoz(o:BoolOp)(a:Expr)(x y:Expr->Bool):Bool :=
 Fo (awf a) λq=>decide (q.1=o)&&(match q.2.1 with
  |l::r::rest=>(Uu l&&x l)&&(match rest with|[]=>Uu r&&y r|_::_=>y (.BoolOp o (r::rest) q.2.2))
  | _=>false)
noncomputable def ao0(c:Ctx)(ty:Str)(a:Expr)(f:Expr->Bool):Bool:=Fo (dCN a) λq=>match q.2 with
 |[l,t]=>Fo (dName t) λtn=>(decide (q.1 = "isinstance")&&decide (tn=ty))&&((Xb c q.1&&Xb c tn)&&(noStar l&&f l))
 |_=>false
theorem aui(h:ao0 c ty a f=true):∃l p p1 p2,a=.Call (.Name "isinstance" p) [l,.Name ty p1] [] p2/\Xb c "isinstance" = true/\Xb c ty=true/\noStar l=true/\f l=true:=by
 obtain⟨⟨n,ls⟩,h1,h0⟩:=jm h;clear h;obtain⟨p,p',rfl⟩:=Ky h1
 match ls,h1,h0 with
 |[l,t],h1,h =>
  replace h:=jm (f:=λtn=>(decide (n = "isinstance")&&decide (tn=ty))&&((Xb c n&&Xb c tn)&&(noStar l&&f l))) h;obtain⟨tn,h2,h⟩:=h;obtain⟨p2,rfl⟩:=Nb h2;simp only[aq,di] at h;obtain⟨⟨rfl,rfl⟩,⟨h3,h4⟩,h5,h6⟩:=h;exact⟨l,p,p2,p',rfl,h3,h4,h5,h6⟩
 |[],_,h=>cases h|[_],_,h=>cases h|_::_::_::_,_,h=>cases h
noncomputable def ao1(c:Ctx)(ty tn:Str)(a:Expr)(f:Expr->Bool):Bool:=Fo (dCN a) λq=>Fo (Tp q.2) λr=>Fo (dCN r) λu=>Fo (Tp u.2) λl=>((decide (q.1=ty)&&decide (u.1=tn))&&(Xb c q.1&&Xb c u.1))&&(noStar l&&f l)
theorem ab6(h:ao1 c ty tn a f=true):∃l p p1 p2 p3,a=.Call (.Name ty p) [.Call (.Name tn p1) [l] [] p2] [] p3/\Xb c ty=true/\Xb c tn=true/\noStar l=true/\f l=true:=by replace h:=jm h;obtain⟨⟨n,ls⟩,h1,h⟩:=h;obtain⟨p,p',rfl⟩:=Ky h1;replace h:=jm h;obtain⟨r,h2,h⟩:=h;cases By h2;replace h:=jm h;obtain⟨⟨m,ms⟩,h3,h⟩:=h;obtain⟨p2,q2,rfl⟩:=Ky h3;replace h:=jm h;obtain⟨l,h4,h⟩:=h;cases By h4;simp only[aq,di] at h;obtain⟨⟨⟨rfl,rfl⟩,h5,h6⟩,h7,h8⟩:=h;exact⟨l,p,p2,q2,p',rfl,h5,h6,h7,h8⟩
mutual
noncomputable def yc(T:Tab):Ex->Ctx->Expr->Bool
 |.var i,c,a=>Fo (dName a) λn=>aib c i n&&(akd c n&&Yl n)
 |.cst d,c,a=>azr T c d a|.bin op x y,c,a=>Fo (a5y a) λq=>decide (q.2.1=a6a op)&&(yc T x c q.1&&yc T y c q.2.2)
 |.neg x,c,a=>Fo (dUn a) λq=>decide (q.1=.USub)&&yc T x c q.2
 |.cmp op x y,c,a=>Fo (auc a) λq=>Fo (Tp q.2.1) λo=>Fo (Tp q.2.2) λr=>decide (auh op=some o)&&(Ig r&&(yc T x c q.1&&yc T y c r))
 |.chain o1 o2 x y z,c,a=>Fo (auc a) λq=>match q.2.1,q.2.2 with
  |[p1,p2],[r,s]=>(decide (auh o1=some p1)&&decide (auh o2=some p2))&&(Ig s&&(yc T x c q.1&&(yc T y c r&&yc T z c s)))|_,_=>false
 |.and x y,c,a=>aoz .And a (yc T x c) (yc T y c)|.or x y,c,a=>aoz .Or a (yc T x c) (yc T y c)|.not x,c,a=>Fo (dUn a) λq=>decide (q.1=.Not)&&(Uu q.2&&yc T x c q.2)
 |.ite t x y,c,a=>Fo (azl a) λq=>Uu q.1&&(yc T t c q.1&&(yc T x c q.2.1&&yc T y c q.2.2))
 |.tup es,c,a=>Fo (dTup a) λl=>decide (Dr.len es<=1000)&&Lz T es c l
 |.lst es,c,a=>Fo (azm a) λl=>decide (Dr.len es<=1000)&&Lz T es c l
 |.Mv es,c,a=>Fo (azm a) λl=>decide (Dr.len es<=1000)&&Lz T es c l
 |.ajo,_,a=>Fo (azn a) λq=>q.1.isEmpty&&q.2.isEmpty
 |.af4,_,a=>Fo (azn a) λq=>q.1.isEmpty&&q.2.isEmpty
 |.ix x y,c,a=>Fo (aou a) λq=>W7 q.2&&(yc T x c q.1&&yc T y c q.2)
 |.cut x lo hi,c,a=>Fo (aou a) λq=>Fo (dSl q.2) λs=>s.2.2.isNone&&(yc T x c q.1&&(azs T lo c s.1&&azs T hi c s.2.1))
 |.call f es,c,a=>Fo (dCN a) λq=>(fnB T.fns f q.1 (Dr.len es)&&(Xb c q.1&&!q.2.isEmpty))&&Lz T es c q.2
 |.make f es,c,a=>Fo (dCN a) λq=>(fnB T.cls f q.1 (Dr.len es)&&(Xb c q.1&&!q.2.isEmpty))&&Lz T es c q.2
 |.meth o m es,c,a=>Fo (dCA a) λq=>((mtB T.mts m q.2.1 (Dr.len es)&&Tn q.1)&&(decide (q.2.2.2.1.length<29)&&(q.2.2.1.endLine==q.2.2.2.2.line)))&&(yc T o c q.1&&Lz T es c q.2.2.2.1)
 |.fld o f,c,a=>Fo (aov a) λq=>(flB T.Tj f q.2.1&&Tn q.1)&&yc T o c q.1
 |.blt .isTuple (.cons x .nil),c,a=>ao0 c "tuple" a (yc T x c)|.blt .isBool (.cons x .nil),c,a=>ao0 c "bool" a (yc T x c)|.blt .isInt (.cons x .nil),c,a=>ao0 c "int" a (yc T x c)|.blt .Jj (.cons x .nil),c,a=>ao1 c "sorted" "set" a (yc T x c)|.blt b es,c,a=>Fo (dCN a) λq=>(decide (azq b=some q.1)&&(Xb c q.1&&!q.2.isEmpty))&&Lz T es c q.2
 |.bm m o es,c,a=>Fo (dCA a) λq=>((decide (bmN m=some q.2.1)&&Tn q.1)&&(decide (q.2.2.2.1.length<29)&&((q.2.2.1.endLine==q.2.2.2.2.line)&&!q.2.2.2.1.isEmpty)))&&(yc T o c q.1&&Lz T es c q.2.2.2.1)
 |.comp v k t it e,c,a=>Fo (aeq a) λq=>Fo (Tp q.2.1) λg=>(aih c k t g q.2.2&&g.ifs.isEmpty)&&(auj T it c g.target g.iter&&yc T e (aes c q.2.2 (Ho g.target)) q.1)
 |.Gm v k t it i e,c,a=>Fo (aeq a) λq=>Fo (Tp q.2.1) λg=>Fo (Tp g.ifs) λd=>(aih c k t g q.2.2&&Uu d)&&(auj T it c g.target g.iter&&(yc T i (aes c q.2.2 (Ho g.target)) d&&yc T e (aes c q.2.2 (Ho g.target)) q.1))
 |.Xk x y,c,a=>Fo (auc a) λq=>Fo (Tp q.2.1) λo=>Fo (Tp q.2.2) λr=>Fo (dCN q.1) λu=>Fo (dCN r) λv=>Fo (Tp u.2) λl=>Fo (Tp v.2) λm =>
  ((decide (o=.NotEq)&&decide (u.1 = "set"))&&(decide (v.1 = "set")&&Xb c u.1))&&((noStar l&&noStar m)&&(yc T x c l&&yc T y c m))
 |.af5 x,c,a=>ao1 c "tuple" "range" a (yc T x c)|.abg x,c,a=>ao1 c "list" "range" a (yc T x c)
noncomputable def Lz(T:Tab):Dr->Ctx->List Expr->Bool
 |.nil,_,a=>a.isEmpty|.cons e es,c,a=>match a with|l::ls=>noStar l&&(yc T e c l&&Lz T es c ls)|_=>false
noncomputable def azs(T:Tab):Z3->Ctx->Option Expr->Bool
 |.none,_,a=>a.isNone|.some e,c,a=>Fo a (yc T e c)
noncomputable def auj(T:Tab):Rp->Ctx->Expr->Expr->Bool
 |.val e,c,_,a=>yc T e c a|.Px e,c,_,a=>Fo (dCN a) λq=>Fo (Tp q.2) λl=>(decide (q.1 = "range")&&Xb c q.1)&&(noStar l&&yc T e c l)
 |.enm e,c,tg,a=>Fo (dCN a) λq=>Fo (Tp q.2) λl=>((dTup tg).isSome&&(decide (q.1 = "enumerate")&&Xb c q.1))&&(noStar l&&yc T e c l)
 |.zip x y,c,tg,a=>Fo (dCN a) λq=>match q.2 with
  |[l,r]=>((dTup tg).isSome&&(decide (q.1 = "zip")&&Xb c q.1))&&((noStar l&&noStar r)&&(yc T x c l&&yc T y c r))|_=>false
end
section
variable{T:Tab}{nm:Nm}{W:Dy}{k:Nat}{c:Ctx}{X:Cx}
theorem Ry(h:Hy T nm W k c X)(sc:Scope):(relabel sc X.env).names=auf c sc.names:=by
 unfold relabel auf;refine qi λy _=>?_
 obtain⟨n,kd⟩:=y;show(if(kd==NameKind.free&&X.env.scope.kind==.function&&X.env.kindOf n==some .cell)=true then _ else _)=_;have e:(kd==NameKind.free&&X.env.scope.kind==.function&&X.env.kindOf n==some .cell)=(kd==NameKind.free&&c.sc.lookup n==some .cell):=by unfold Env.kindOf;rw[h.kd,h.sc];simp
 rw[e]
theorem azt(h:Hy T nm W k c X)(hb:azp c sc ts=true):Kd X (Wy c.N ts) sc/\∀C fp s H,Hy T nm W k (aes c sc ts) (blk X (Wy c.N ts) sc C fp s H):=by
 simp only[azp,aq,di,jg] at hb;obtain⟨h1,h2,h3,h4,h5,h6⟩:=hb;have uniq:∀x kd,(x,kd)∈sc.names->sc.names.lookup x=some kd:=λx kd m=>by have:=h3 (x,kd) m;simpa using this
 refine⟨⟨h1,λy m=>by have:=h2 y m;simpa using this,λy m e=>by rw[uniq y.1 y.2 m,e],λy m e=>?_,uniq,?_,λi x hi hx hv=>?_⟩,λC fp s H=>⟨rfl,h5,Ry h sc,h1,h.calm,h.room,(λz=>by cases z),h.tab⟩⟩
 . have:=h4 y m
   rw[e] at this;unfold Env.kindOf;rw[h.sc];simpa using this
 . rw[h.N];simp[Wy]
 . rw[h.N] at hi
   have hl:i<(c.N.zipIdx.map (ake ts)).length:=by simpa using hi
   unfold Wy at hx;rw[dq hl,jk,zq] at hx;obtain⟨n,hn⟩:∃n,c.N[i]?=some n:=⟨c.N[i],by simp[hi]⟩;rw[hn] at hx;have hx:ake ts (n,i)=x:=by simpa using hx
   have m:(n,i)∈c.N.zipIdx:=by rw[uq];exact⟨i,by rw[zq,hn];simp⟩
   have q:=h6 (n,i) m;rw[hx] at q;have v:akd (aes c sc ts) x=true:=by unfold Vis at hv;rw[Ry h] at hv;unfold akd;show(match(auf c sc.names).lookup x with|some .local=>true|some .cell=>true|some .free=>true|_=>false)=true;rcases hv with e|e|e<;>rw[e]
   rw[v] at q;simp only[nq,Bool.false_or,aq] at q;rw[h.N,hn];have e1:x=n:=eq_of_beq q.1;exact⟨by rw[e1],by have:=q.2;simpa using this⟩
theorem a6b(h:o=a6a op):Ge X (binaryOp o) (rOp nm X.K (MW.Kg op)):=by
 subst h;cases op with
 |add=>exact a3o|amf=>exact aze|sub=>exact a3k|mul=>exact a3l|fdiv=>exact ayk|mod=>exact a3m|pow=>exact a3n
theorem ao2(hr:zj 8 X.A)(h:auh op=some o):Ge X (compareOp o) (Y9 nm X.K op):=by
 have h6:zj 6 X.A:=hr.mono (by decide);cases op with
 |eq=>cases h;exact bab h6|ne=>cases h;exact bac h6|lt=>cases h;exact a9o|le=>cases h;exact a9p|gt=>cases h;exact a9q|ge=>cases h;exact a9r|inn=>cases h;exact bae hr|V9=>cases h;exact as3 hr|is=>cases h|amg=>cases h
theorem agr(h:Hy T nm W k c X)(hb:tg1 c lo i e=true):∃n p,e=.Name n p/\X.N[i]?=some n/\L2.Loc X.env.scope n/\(X.fn n=true\/X.env.scope.names.lookup n=some .local)/\lo<=i:=by obtain⟨n,h1,h2⟩:=jm hb;obtain⟨p,rfl⟩:=Nb h1;simp only[aq,di] at h2;obtain⟨l1,l2⟩:=azk h h2.2.1;exact⟨n,p,rfl,slot_of h h2.1,l1,l2,h2.2.2⟩
theorem ao3(h:Hy T nm W k c X){lo:Nat}:∀{is:List Nat}{ts:List Expr},akf c lo is ts=true->Oe X ts is/\∀i∈is,lo<=i
 |[],[],_=>⟨.nil,by simp⟩|[],_::_,e=>by cases e|_::_,[],e=>by cases e
 |i::is,a::ts,e=>by
  unfold akf at e;rw[aq] at e;obtain⟨n,p,rfl,e1,e2,e3,e4⟩:=agr h e.1;obtain⟨g1,g2⟩:=ao3 h e.2;refine⟨.cons e1 e2 e3 g1,λj hj=>?_⟩;rcases bw.mp hj with z|z
  . rw[z];exact e4
  . exact g2 j z
theorem aii(h:Hy T nm W k c X)(hb:tgB c lo t e=true):PG X e (tGt nm X.K t)/\∀i∈Cq t,lo<=i:=by
 have nd:X.N.Nodup:=by rw[h.N];exact h.nd
 cases t with
 |name i =>
  obtain⟨n,p,rfl,e1,e2,e3,e4⟩:=agr h hb;exact⟨ayo nd e1 e2 e3,λi hi=>by rw[v7.mp hi];exact e4⟩
 |names is =>
  obtain⟨ts,h1,h2⟩:=jm hb;obtain⟨k0,p,rfl⟩:=Ut h1;obtain⟨g1,g2⟩:=ao3 h h2;exact⟨asf h.calm nd g1,g2⟩
structure Got(nm:Nm)(W:Dy)(X:Cx)(a:Expr)(e:Ex):Prop where
 v:PE X a (tE nm W X.K e)
 q:Uu a=true->PT X a (tQ nm W X.K e)
 w:∀op ls p,a=.BoolOp op ls p->PW X a (tQ nm W X.K e)
noncomputable def a6c:Expr->Bool
 |.BoolOp ..=>false|.UnaryOp .Not _ _=>false|.IfExp ..=>false|.Compare ..=>false|_=>true
set_option tactic.hygienic true in
theorem u0(h:PE X a (tE nm W X.K e))(hv:a6c a=true):Got nm W X a e:=by
 refine⟨h,λhq=>a3p h λwhole=>?_,λop ls p z=>by subst z;cases hv⟩;cases a<;>first|rfl|(cases hv)|skip
 rename_i op x p;cases op<;>first|rfl|cases hv
theorem azu(h:Hy T nm W k c X)(hb:azr T c d a=true):PE X a (tE nm W X.K (.cst d))/\a6c a=true:=by
 cases d with
 |int i =>
  simp only[azr,Bool.or_eq_true] at hb;rcases hb with hb|hb
  . obtain⟨k,h1,h2⟩:=jm hb
    obtain⟨j,p,rfl⟩:=Xc h1;rw[jy h2];exact⟨a3g,rfl⟩
  . obtain⟨n,h1,h2⟩:=jm hb
    obtain⟨p,rfl⟩:=Nb h1;rw[aq] at h2;obtain⟨g1,g2⟩:=Kf h h2.1;obtain⟨t,ht⟩:=h.tab.cs _ _ (Gu.mp h2.2);exact⟨ayj g1 ht (qu g2).1,rfl⟩
 |bl i =>
  obtain⟨k,h1,h2⟩:=jm hb;obtain⟨j,p,rfl⟩:=Xc h1;rw[jy h2];exact⟨a9l,rfl⟩
 |non =>
  obtain⟨k,h1,h2⟩:=jm hb;obtain⟨j,p,rfl⟩:=Xc h1;rw[jy h2];exact⟨a3h,rfl⟩
 |str s =>
  obtain⟨k,h1,h2⟩:=jm hb;obtain⟨j,p,rfl⟩:=Xc h1;rw[jy h2];exact⟨a3i,rfl⟩
 |_=>cases hb
end
section
variable{T:Tab}{nm:Nm}{W:Dy}{k:Nat}
theorem Hy.r8(h:Hy T nm W k c X):zj 8 X.A:=h.room.mono (by lia)
theorem Hy.mg(h:Hy T nm W k c X)(m:n∈Qn):X.mg n=none:=h.tab.bt n m
theorem akg(h:Lz T es c []=true):es=.nil:=by
 cases es with
 |nil=>rfl|cons e es=>simp[Lz] at h
theorem Wh{c:Ctx}{lo:Nat}:∀{is:List Nat}{ts:List Expr},akf c lo is ts=true->∀i∈is,lo<=i
 |[],_,_=>by simp|_::_,[],e=>by cases e
 |i::is,a::ts,e=>by
  unfold akf at e;rw[aq] at e;intro j hj;rcases bw.mp hj with z|z
  . obtain⟨n,h1,h2⟩:=jm e.1
    simp only[aq,di] at h2;rw[z];exact h2.2.2
  . exact Wh e.2 j z
theorem ags(h:tgB c lo t e=true):∀i∈Cq t,lo<=i:=by
 cases t with
 |name j =>
  obtain⟨n,h1,h2⟩:=jm h;simp only[aq,di] at h2;intro i hi;rw[v7.mp hi];exact h2.2.2
 |names is =>
  obtain⟨ts,h1,h2⟩:=jm h;exact Wh h2
theorem ao4:(Wy N ts).length-N.length=ts.length:=by simp[Wy]
theorem Uv(hc:Hy T nm W k c X)(h:aih c j t g sc=true) :
 Ig g.iter=true/\g.is_async=0/\Kd X (Wy c.N (Ho g.target)) sc/\(∀C fp s H,Hy T nm W k (aes c sc (Ho g.target)) (blk X (Wy c.N (Ho g.target)) sc C fp s H)) /\
 (∀C fp s H,PG (blk X (Wy c.N (Ho g.target)) sc C fp s H) g.target (tGt nm X.K t))/\(Wy c.N (Ho g.target)).length-X.N.length=j/\∀i∈Cq t,X.N.length<=i:=by
 simp only[aih,aq,di] at h;obtain⟨h2,h3,h4,h5,h6⟩:=h;obtain⟨B,hB⟩:=azt hc h2;exact⟨h5,h6,B,hB,λC fp s H=>(aii (hB C fp s H) h4).1,by rw[hc.N,ao4];exact(eq_of_beq h3).symm,λi hi=>by rw[hc.N];exact ags h4 i hi⟩
theorem aij(h:aoz o a x y=true):(∃l r p,a=.BoolOp o [l,r] p/\Uu l=true/\x l=true/\Uu r=true/\y r=true) \/
 ∃l r s rest p,a=.BoolOp o (l::r::s::rest) p/\Uu l=true/\x l=true/\y (.BoolOp o (r::s::rest) p)=true:=by
 obtain⟨⟨o',ls,p⟩,h1,h2⟩:=jm h;cases aox h1;rw[aq] at h2;obtain⟨h3,h2⟩:=h2;cases jy h3;cases ls with
 |nil=>cases h2
 |cons l ls=>cases ls with
  |nil=>cases h2
  |cons r rest =>
   cases rest with
   |nil =>
    have h2:((Uu l&&x l)&&(Uu r&&y r))=true:=h2;simp only[aq] at h2;exact .inl ⟨l,r,p,rfl,h2.1.1,h2.1.2,h2.2.1,h2.2.2⟩
   |cons s rest =>
    have h2:((Uu l&&x l)&&y (.BoolOp o' (r::s::rest) p))=true:=h2;simp only[aq] at h2;exact .inr ⟨l,r,s,rest,p,rfl,h2.1.1,h2.1.2,h2.2⟩
theorem azv(hc:Hy T nm W k c X)(hb:azq b=some n)(hg:Xb c n=true)(e1:PA X (l::ls) (W4 nm W X.K es))(e2:yz (l::ls)=true):PE X (.Call (.Name n p) (l::ls) [] p') (tE nm W X.K (.blt b es)):=by
 obtain⟨g1,g2⟩:=Kf hc hg;obtain⟨d1,d2,d3⟩:=qu g2;simp only[yz,aq] at e2;have st:=ju e2.1 ls X.env;have an:=uf (env:=X.env) (pos:=p') e2.2;have mg:n∈Qn->X.mg n=none:=hc.mg;cases b with
 |len=>cases hb;exact ahv (id := "len") a4k g1 (mg (by decide+kernel)) (by decide+kernel) e1 d3 d1 st an|max=>cases hb;exact ahv (id := "max") (a5g hc.calm) g1 (mg (by decide+kernel)) (by decide+kernel) e1 d3 d1 st an|sum=>cases hb;exact ahv (id := "sum") (a5t hc.calm) g1 (mg (by decide+kernel)) (by decide+kernel) e1 d3 d1 st an|min=>cases hb;exact ahv (id := "min") (a5i hc.calm) g1 (mg (by decide+kernel)) (by decide+kernel) e1 d3 d1 st an|tuple=>cases hb;exact agd (T := "tuple") asj g1 (mg (by decide+kernel)) (by decide+kernel) e1 d3 d1 st an|list=>cases hb;exact agd (T := "list") ay2 g1 (mg (by decide+kernel)) (by decide+kernel) e1 d3 d1 st an|dict=>cases hb;exact agd (T := "dict") azc g1 (mg (by decide+kernel)) (by decide+kernel) e1 d3 d1 st an|_=>cases hb
theorem ab7{α:Type}{l:List α}(h:(!l.isEmpty)=true):∃x r,l=x::r:=by
 cases l with
 |nil=>cases h|cons x r=>exact⟨x,r,rfl⟩
set_option maxHeartbeats 2000000 in
set_option tactic.hygienic true in
mutual
theorem jc:∀(e:Ex){c:Ctx}{X:Cx}{a:Expr},Hy T nm W k c X->yc T e c a=true->Got nm W X a e
 |.var i,c,X,a,hc,h=>by
  replace h:=jm h;obtain⟨n,h1,h⟩:=h;obtain⟨p,rfl⟩:=Nb h1;simp only[aq] at h;exact u0 (a3f (slot_of hc h.1) (azj hc h.2.1) (qu h.2.2).1 (qu h.2.2).2.1) rfl
 |.cst d,c,X,a,hc,h=>by
  obtain⟨h1,h2⟩:=azu hc h;exact u0 h1 h2
 |.bin op x y,c,X,a,hc,h=>by
  replace h:=jm h;obtain⟨⟨l,o,r⟩,h1,h⟩:=h;obtain⟨p,rfl⟩:=aud h1;simp only[aq,di] at h;exact u0 (a3j (a6b h.1) (jc x hc h.2.1).v (jc y hc h.2.2).v) rfl
 |.neg x,c,X,a,hc,h=>by
  replace h:=jm h;obtain⟨⟨o,l⟩,h1,h⟩:=h;obtain⟨p,rfl⟩:=aow h1;simp only[aq,di] at h;obtain⟨rfl,h⟩:=h;exact u0 (a3z (jc x hc h).v) rfl
 |.cmp op x y,c,X,a,hc,h=>by
  replace h:=jm h;obtain⟨⟨l,o,r⟩,h1,h⟩:=h;obtain⟨p,rfl⟩:=ab3 h1;replace h:=jm h;obtain⟨o1,h2,h⟩:=h;replace h:=jm h;obtain⟨r1,h3,h⟩:=h;cases By h2;cases By h3;simp only[aq,di] at h;have g:=ao2 (nm:=nm) hc.r8 h.1;have m:=Wd h.2.1 o1;exact⟨a3q g (jc x hc h.2.2.1).v (jc y hc h.2.2.2).v m,λ_=>a3r g (jc x hc h.2.2.1).v (jc y hc h.2.2.2).v m,λ_ _ _ z=>by cases z⟩
 |.chain o1 o2 x y z,c,X,a,hc,h=>by
  replace h:=jm h;obtain⟨⟨l,o,r⟩,h1,h⟩:=h;obtain⟨p,rfl⟩:=ab3 h1;dsimp only at h;split at h
  . rename_i p1 p2 r s
    simp only[aq,di] at h;have g1:=ao2 (nm:=nm) hc.r8 h.1.1;have g2:=ao2 (nm:=nm) hc.r8 h.1.2;have m:lastMarks [p1,p2] [r,s]=false:=Wd h.2.1 p2;exact⟨asb g1 g2 (jc x hc h.2.2.1).v (jc y hc h.2.2.2.1).v (jc z hc h.2.2.2.2).v m,λ_=>asd g1 g2 (jc x hc h.2.2.1).v (jc y hc h.2.2.2.1).v (jc z hc h.2.2.2.2).v m,λ_ _ _ z=>by cases z⟩
  . cases h
 |.and x y,c,X,a,hc,h=>by
  rcases aij h with⟨l,r,p,rfl,h1,h2,h3,h4⟩|⟨l,r,s,rest,p,rfl,h1,h2,h3⟩
  . have g1:=jc x hc h2
    have g2:=jc y hc h4;have w:=av5 (pos:=p) (rest:=[]) (g1.q h1) (aqu (g2.q h3));exact⟨av4 g1.v (awb g2.v),λ_=>w.pt,λ_ _ _ _=>w⟩
  . have g1:=jc x hc h2
    have g2:=jc y hc h3;have w:=av5 (g1.q h1) (g2.w _ _ _ rfl);exact⟨av4 g1.v g2.v,λ_=>w.pt,λ_ _ _ _=>w⟩
 |.or x y,c,X,a,hc,h=>by
  rcases aij h with⟨l,r,p,rfl,h1,h2,h3,h4⟩|⟨l,r,s,rest,p,rfl,h1,h2,h3⟩
  . have g1:=jc x hc h2
    have g2:=jc y hc h4;have w:=a3u (pos:=p) (rest:=[]) (g1.q h1) (aw4 (g2.q h3));exact⟨a3s g1.v (awb g2.v),λ_=>w.pt,λ_ _ _ _=>w⟩
  . have g1:=jc x hc h2
    have g2:=jc y hc h3;have w:=a3u (g1.q h1) (g2.w _ _ _ rfl);exact⟨a3s g1.v g2.v,λ_=>w.pt,λ_ _ _ _=>w⟩
 |.not x,c,X,a,hc,h=>by
  replace h:=jm h;obtain⟨⟨o,l⟩,h1,h⟩:=h;obtain⟨p,rfl⟩:=aow h1;simp only[aq,di] at h;obtain⟨rfl,h⟩:=h;have g:=jc x hc h.2;exact⟨a3t g.v,λ_=>a3v (g.q h.1),λ_ _ _ z=>by cases z⟩
 |.ite t x y,c,X,a,hc,h=>by
  replace h:=jm h;obtain⟨⟨t',l,r⟩,h1,h⟩:=h;obtain⟨p,rfl⟩:=aue h1;simp only[aq] at h;exact⟨a3w ((jc t hc h.2.1).q h.1) (jc x hc h.2.2.1).v (jc y hc h.2.2.2).v,(λz=>by cases z),λ_ _ _ z=>by cases z⟩
 |.tup es,c,X,a,hc,h=>by
  replace h:=jm h;obtain⟨l,h1,h⟩:=h;obtain⟨k0,p,rfl⟩:=Ut h1;simp only[aq,di] at h;exact u0 (a3x (Hq es hc h.2).1 h.1) rfl
 |.lst es,c,X,a,hc,h=>by
  replace h:=jm h;obtain⟨l,h1,h⟩:=h;obtain⟨p,rfl⟩:=aid h1;simp only[aq,di] at h;exact u0 (a3y (Hq es hc h.2).1 h.1) rfl
 |.Mv es,c,X,a,hc,h=>by
  replace h:=jm h;obtain⟨l,h1,h⟩:=h;obtain⟨p,rfl⟩:=aid h1;simp only[aq,di] at h;exact u0 (aym (Hq es hc h.2).1 h.1) rfl
 |.ajo,c,X,a,hc,h=>by
  replace h:=jm h;obtain⟨⟨q,l⟩,h1,h⟩:=h;obtain⟨p,rfl⟩:=aie h1;simp only[aq,o8] at h;obtain⟨rfl,rfl⟩:=h;exact u0 ay0 rfl
 |.af4,c,X,a,hc,h=>by
  replace h:=jm h;obtain⟨⟨q,l⟩,h1,h⟩:=h;obtain⟨p,rfl⟩:=aie h1;simp only[aq,o8] at h;obtain⟨rfl,rfl⟩:=h;exact u0 ay1 rfl
 |.ix x y,c,X,a,hc,h=>by
  replace h:=jm h;obtain⟨⟨l,r⟩,h1,h⟩:=h;obtain⟨p,rfl⟩:=ab4 h1;simp only[aq] at h;exact u0 (a9t (ado hc.room) (jc x hc h.2.1).v (jc y hc h.2.2).v (am1 h.1)) rfl
 |.cut x lo hi,c,X,a,hc,h=>by
  replace h:=jm h;obtain⟨⟨l,r⟩,h1,h⟩:=h;obtain⟨p,rfl⟩:=ab4 h1;replace h:=jm h;obtain⟨⟨u,v,st⟩,h2,h⟩:=h;obtain⟨p2,e⟩:=azo h2;have e:r=_:=e;subst e;simp only[aq,Dq] at h;obtain⟨rfl,h⟩:=h;exact u0 (a5h (jc x hc h.1).v (aik lo hc h.2.1) (aik hi hc h.2.2)) rfl
 |.call f es,c,X,a,hc,h=>by
  replace h:=jm h;obtain⟨⟨n,ls⟩,h1,h⟩:=h;obtain⟨p,p',rfl⟩:=Ky h1;simp only[aq] at h;obtain⟨⟨h2,h3,h4⟩,h5⟩:=h;obtain⟨l,ls,rfl⟩:=ab7 h4;obtain⟨fa,fd,ps,F,m,kp,b⟩:=hc.tab.fn _ _ _ (jy h2);obtain⟨g1,g2⟩:=Kf hc h3;obtain⟨e1,e2⟩:=Hq es hc h5;simp only[yz,aq] at e2;exact u0 (s_call F (hc.room.mono x_) g1 m kp b rfl e1 (qu g2).1 (ju e2.1 _ _) (uf e2.2)) rfl
 |.make f es,c,X,a,hc,h=>by
  replace h:=jm h;obtain⟨⟨n,ls⟩,h1,h⟩:=h;obtain⟨p,p',rfl⟩:=Ky h1;simp only[aq] at h;obtain⟨⟨h2,h3,h4⟩,h5⟩:=h;obtain⟨l,ls,rfl⟩:=ab7 h4;obtain⟨C,fa,fd,ps,cl,M0,F,m,b,d1,d2⟩:=hc.tab.cl _ _ _ (jy h2);obtain⟨g1,g2⟩:=Kf hc h3;obtain⟨e1,e2⟩:=Hq es hc h5;simp only[yz,aq] at e2;exact u0 (ayx M0 F (hc.room.mono (w_ (by decide))) g1 m b d1 rfl d2 rfl e1 (qu g2).1 (ju e2.1 _ _) (uf e2.2)) rfl
 |.meth o m es,c,X,a,hc,h=>by
  replace h:=jm h;obtain⟨⟨lo,n,ap,ls,p⟩,h0,h⟩:=h;cases aoy h0;simp only[aq,di] at h;obtain⟨⟨⟨h1,h2⟩,h3,h4⟩,h5,h6⟩:=h;obtain⟨C,fa,fd,ps,f,C0,Me,F,b,u,nf⟩:=hc.tab.mt _ _ _ (jy h1);obtain⟨e1,e2⟩:=Hq es hc h6;have g:=jc o hc h5;cases ls with
  |nil =>
   have z:=akg h6;subst z;exact u0 (atl (ci:=0) (cl:=⟨0,[]⟩) g.v C0 Me F (hc.room.mono x_) b u nf (aic h2 rfl h3 h4)) rfl
  |cons l ls =>
   have e3:=e2;simp only[yz,aq] at e3;exact u0 (ayy (ci:=0) (cl:=⟨0,[]⟩) g.v C0 Me F (hc.room.mono x_) b u nf rfl e1 (ju e3.1 _ _) (uf e3.2) (aic h2 e2 h3 h4)) rfl
 |.fld o f,c,X,a,hc,h=>by
  replace h:=jm h;obtain⟨⟨l,n,p⟩,h1,h⟩:=h;cases ab5 h1;simp only[aq] at h;obtain⟨t1,t2⟩:=hc.tab.fl _ _ (jy h.1.1);exact u0 (a4a t1 t2 (jc o hc h.2).v (Jh h.1.2)) rfl
 |.blt b es,c,X,a,hc,h=>by
  have gen:(Fo (dCN a) λq=>(decide (azq b=some q.1)&&(Xb c q.1&&!q.2.isEmpty))&&Lz T es c q.2)=true->Got nm W X a (.blt b es):=λhh=>by clear h;replace hh:=jm hh;obtain⟨⟨n,ls⟩,h1,h⟩:=hh;obtain⟨p,p',rfl⟩:=Ky h1;simp only[aq] at h;obtain⟨⟨h2,h3,h4⟩,h5⟩:=h;obtain⟨l,ls,rfl⟩:=ab7 h4;obtain⟨e1,e2⟩:=Hq es hc h5;exact u0 (azv hc (jy h2) h3 e1 e2) rfl
  have isi:∀{x:Ex}{bb:Blt}{Ts:String}{ty:Str},(∀ι H M M' x v d,kh nm X.K ι H M->Rep X.K ι H x v->MW.o6 bb [x] M=.ok d M'->M'=M/\∃b ty,d=.bl b/\Qc X.K H v ty/\PySem.W.kitOne X.K ty (.type Ts)=some b)->X.mg ty=none->bootBuiltins ty=some (.type Ts) ->
   (∀l,yc T x c l=true->PE X l (tE nm W X.K x))->ao0 c ty a (yc T x c)=true->Got nm W X a (.blt bb (.cons x .nil)):=λhk hm hv rec hi=>by
   obtain⟨l,p,p1,p2,rfl,h3,h4,h5,h6⟩:=aui hi;obtain⟨g1,g2⟩:=Kf hc h3;obtain⟨g3,g4⟩:=Kf hc h4;exact u0 (aoc hk g1 (hc.mg (by decide+kernel)) (by decide+kernel) (qu g2).2.2 (qu g2).1 g3 hm hv (qu g4).2.2 (qu g4).1 (rec l h6) (ju h5 _ _) (ju rfl _ _) (uf rfl)) rfl
  match b,es,h,gen with
  |.isList,_,h,gen=>exact gen h|.isTuple,.cons x .nil,h,_=>exact isi (aj8 (kit_tuple X.K)) (hc.mg (by decide+kernel)) (by decide+kernel) (λl q=>(jc x hc q).v) h
  |.isBool,.cons x .nil,h,_=>exact isi (aoh (aos X.K)) (hc.mg (by decide+kernel)) (by decide+kernel) (λl q=>(jc x hc q).v) h
  |.isInt,.cons x .nil,h,_=>exact isi atx (hc.mg (by decide+kernel)) (by decide+kernel) (λl q=>(jc x hc q).v) h
  |.isSeq,_,h,gen=>exact gen h|.isTuple,.nil,h,gen=>exact gen h|.isBool,.nil,h,gen=>exact gen h|.isTuple,.cons _ (.cons _ _),h,gen=>exact gen h|.isBool,.cons _ (.cons _ _),h,gen=>exact gen h|.len,_,h,gen=>exact gen h|.tuple,_,h,gen=>exact gen h|.list,_,h,gen=>exact gen h|.max,_,h,gen=>exact gen h|.min,_,h,gen=>exact gen h|.sum,_,h,gen=>exact gen h|.sorted,_,h,gen=>exact gen h|.dict,_,h,gen=>exact gen h|.all,_,h,gen=>exact gen h|.isInt,.nil,h,gen=>exact gen h|.isInt,.cons _ (.cons _ _),h,gen=>exact gen h|.Jj,.nil,h,gen=>exact gen h|.Jj,.cons _ (.cons _ _),h,gen=>exact gen h
  |.Jj,.cons x .nil,h,_ =>
   obtain⟨l,p,p1,p2,p3,rfl,h5,h6,h7,h8⟩:=ab6 (show ao1 c "sorted" "set" a (yc T x c)=true from h);obtain⟨g1,g2⟩:=Kf hc h5;obtain⟨g3,g4⟩:=Kf hc h6;exact u0 (akc hc.r8 g1 (hc.mg (by decide+kernel)) (by decide+kernel) (qu g2).2.2 (qu g2).1 g3 (hc.mg (by decide+kernel)) (by decide+kernel) (qu g4).2.2 (qu g4).1
    (Mm (jc x hc h8).v Uj (ju h7 _ _)) (ju rfl _ _) (uf rfl) (ju h7 _ _) (uf rfl)) rfl
 |.bm m o es,c,X,a,hc,h=>by
  replace h:=jm h;obtain⟨⟨lo,n,ap,ls,p⟩,h0,h⟩:=h;cases aoy h0;simp only[aq,di] at h;obtain⟨⟨⟨h1,h2⟩,h3,h4,h4'⟩,h5,h6⟩:=h;obtain⟨l,ls,rfl⟩:=ab7 h4';obtain⟨e1,e2⟩:=Hq es hc h6;have e3:=e2;simp only[yz,aq] at e3;have few:((backTo p (starEach (l::ls) X.env)).all (λx=>!x.1)&&(backToKw p (keywordEach [] X.env)).all (λx=>x.1.isSome)&&decide ((l::ls).length+([]:List Keyword).length+(if([]:List Keyword).isEmpty then 0 else 1)<30))=true:=by rw[Yn e2];simp[keywordEach,backToKw];simp at h3;exact b_ h3 (by decide)
  have g:=jc o hc h5;cases m with
  |append=>cases h1;exact u0 (as5 (T := "list") (id := "list.append") (fun ι H M x v S r t=>ty_list (.inl rfl) S r t) Ax Eo PySem.F.type_list_append aob g.v e1 (Jh h2) few h4 (ju e3.1 _ _) (uf e3.2)) rfl
  |index=>cases h1;exact u0 (as5 (T := "list") (id := "list.index") (fun ι H M x v S r t=>ty_list (.inr (.inr rfl)) S r t) Ax PySem.F.slot_list_index PySem.F.type_list_index (as8 hc.r8) g.v e1 (Jh h2) few h4 (ju e3.1 _ _) (uf e3.2)) rfl
  |pop=>cases h1;exact u0 (as5 (T := "list") (id := "list.pop") (fun ι H M x v S r t=>ty_list (.inr (.inl rfl)) S r t) Ax PySem.F.slot_list_pop PySem.F.type_list_pop a5r g.v e1 (Jh h2) few h4 (ju e3.1 _ _) (uf e3.2)) rfl
  |get=>cases h1;exact u0 (as5 (T := "dict") (id := "dict.get") (fun ι H M x v S r t=>ty_dict S r t) PySem.F.plainAttrs_dict Cg PySem.F.type_dict_get (a5s (ado hc.room)) g.v e1 (Jh h2) few h4 (ju e3.1 _ _) (uf e3.2)) rfl
  |N8=>cases h1;exact u0 (a5u (id := "tuple.index") (λx M t=>by cases x with|tup ds=>exact⟨ds,rfl⟩|_=>cases t) (λz=>by cases z) PySem.F.plainAttrs_tuple Ep PySem.F.type_tuple_index (aok hc.r8) g.v e1 (Jh h2) few h4 (ju e3.1 _ _) (uf e3.2)) rfl
 |.comp v j t it e,c,X,a,hc,h=>by
  replace h:=jm h;obtain⟨⟨elt,gs,sc⟩,h1,h⟩:=h;obtain⟨p,rfl⟩:=Yo h1;replace h:=jm h;obtain⟨⟨tg,iter,ifs,as⟩,h2,h⟩:=h;cases By h2;simp only[aq,o8] at h;obtain⟨⟨h3,rfl⟩,h4,h5⟩:=h;obtain⟨q1,q2,B,hB,hg,q3,q4⟩:=Uv hc h3;cases q2;exact u0 (ayw B hc.calm (Uw it hc h4) hg (λC fp s H=>(jc e (hB C fp s H) h5).v) q1 q3 q4) rfl
 |.Gm v j t it i e,c,X,a,hc,h=>by
  replace h:=jm h;obtain⟨⟨elt,gs,sc⟩,h1,h⟩:=h;obtain⟨p,rfl⟩:=Yo h1;replace h:=jm h;obtain⟨⟨tg,iter,ifs,as⟩,h2,h⟩:=h;cases By h2;replace h:=jm h;obtain⟨d,h6,h⟩:=h;cases By h6;simp only[aq] at h;obtain⟨⟨h3,h7⟩,h4,h8,h5⟩:=h;obtain⟨q1,q2,B,hB,hg,q3,q4⟩:=Uv hc h3;cases q2;exact u0 (am6 B hc.calm (Uw it hc h4) hg (λC fp s H=>(jc i (hB C fp s H) h8).q h7) (λC fp s H=>(jc e (hB C fp s H) h5).v) q1 q3 q4) rfl
 |.Xk x y,c,X,a,hc,h=>by
  replace h:=jm h;obtain⟨⟨l0,o,r0⟩,h1,h⟩:=h;obtain⟨p,rfl⟩:=ab3 h1;replace h:=jm h;obtain⟨o1,h2,h⟩:=h;replace h:=jm h;obtain⟨r1,h3,h⟩:=h;cases By h2;cases By h3;replace h:=jm h;obtain⟨⟨n,ls⟩,h4,h⟩:=h;replace h:=jm h;obtain⟨⟨m,ms⟩,h5,h⟩:=h;replace h:=jm h;obtain⟨l,h6,h⟩:=h;replace h:=jm h;obtain⟨r,h7,h⟩:=h;cases By h6;cases By h7;obtain⟨p1,q1,e1⟩:=Ky h4;obtain⟨p2,q2,e2⟩:=Ky h5;have e1:l0=_:=e1;subst e1 e2;simp only[aq,di] at h;obtain⟨⟨⟨rfl,rfl⟩,rfl,h8⟩,⟨h9,h10⟩,h11,h12⟩:=h;obtain⟨g1,g2⟩:=Kf hc h8;have z:=as4 (nm:=nm) (W:=W) (p1:=p1) (p2:=p2) (q1:=q1) (q2:=q2) hc.r8 g1 (hc.mg (by decide+kernel)) (by decide+kernel) (qu g2).2.2 (qu g2).1 (Mm (jc x hc h11).v Uj (ju h9 _ _)) (Mm (jc y hc h12).v Uj (ju h10 _ _)) (ju h9 _ _) (ju h10 _ _) (uf rfl) (uf rfl);exact⟨aw1 z,λ_=>asa (aw2 z) λ_ _ _ q=>q,λ_ _ _ z=>by cases z⟩
 |.af5 x,c,X,a,hc,h=>by
  obtain⟨l,p,p1,p2,p3,rfl,h5,h6,h7,h8⟩:=ab6 h;obtain⟨g1,g2⟩:=Kf hc h5;obtain⟨g3,g4⟩:=Kf hc h6;exact u0 (azd hc.r8 g1 (hc.mg (by decide+kernel)) (by decide+kernel) (qu g2).2.2 (qu g2).1 g3 (hc.mg (by decide+kernel)) (by decide+kernel) (qu g4).2.2 (qu g4).1
   (Mm (jc x hc h8).v Uj (ju h7 _ _)) (ju rfl _ _) (uf rfl) (ju h7 _ _) (uf rfl)) rfl
 |.abg x,c,X,a,hc,h=>by
  obtain⟨l,p,p1,p2,p3,rfl,h5,h6,h7,h8⟩:=ab6 h;obtain⟨g1,g2⟩:=Kf hc h5;obtain⟨g3,g4⟩:=Kf hc h6;exact u0 (azg hc.r8 g1 (hc.mg (by decide+kernel)) (by decide+kernel) (qu g2).2.2 (qu g2).1 g3 (hc.mg (by decide+kernel)) (by decide+kernel) (qu g4).2.2 (qu g4).1
   (Mm (jc x hc h8).v Uj (ju h7 _ _)) (ju rfl _ _) (uf rfl) (ju h7 _ _) (uf rfl)) rfl
theorem Hq:∀(es:Dr){c:Ctx}{X:Cx}{a:List Expr},Hy T nm W k c X->Lz T es c a=true->PA X a (W4 nm W X.K es)/\yz a=true
 |.nil,c,X,a,hc,h=>by
  cases o8.mp h;exact⟨Uj,rfl⟩
 |.cons e es,c,X,a,hc,h=>by
  cases a with
  |nil=>cases h
  |cons l ls =>
   replace h:(noStar l&&(yc T e c l&&Lz T es c ls))=true:=h;simp only[aq] at h;obtain⟨g1,g2⟩:=Hq es hc h.2.2;exact⟨Mm (jc e hc h.2.1).v g1 (ju h.1 _ _),by simp only[yz,aq];exact⟨h.1,g2⟩⟩
theorem aik:∀(e:Z3){c:Ctx}{X:Cx}{a:Option Expr},Hy T nm W k c X->azs T e c a=true->PO X a (tO nm W X.K e)
 |.none,c,X,a,hc,h=>by
  cases Dq.mp h;exact atd
 |.some e,c,X,a,hc,h=>by
  replace h:=jm h;obtain⟨l,rfl,h⟩:=h;exact ate (jc e hc h).v
theorem Uw:∀(it:Rp){c:Ctx}{X:Cx}{tg a:Expr},Hy T nm W k c X->auj T it c tg a=true->PI X tg a (tI nm W X.K it)
 |.val e,c,X,tg,a,hc,h=>by
  exact a4h (jc e hc h).v
 |.Px e,c,X,tg,a,hc,h=>by
  replace h:=jm h;obtain⟨⟨n,ls⟩,h1,h⟩:=h;obtain⟨p,p',rfl⟩:=Ky h1;replace h:=jm h;obtain⟨l,h2,h⟩:=h;cases By h2;simp only[aq,di] at h;obtain⟨⟨rfl,h3⟩,h4,h5⟩:=h;exact a4i (Kf hc h3).1 (hc.mg (by decide+kernel)) (jc e hc h5).v h4
 |.enm e,c,X,tg,a,hc,h=>by
  replace h:=jm h;obtain⟨⟨n,ls⟩,h1,h⟩:=h;obtain⟨p,p',rfl⟩:=Ky h1;replace h:=jm h;obtain⟨l,h2,h⟩:=h;cases By h2;simp only[aq,di] at h;obtain⟨⟨h6,rfl,h3⟩,h4,h5⟩:=h;obtain⟨ts,h7⟩:=m9.mp h6;obtain⟨k0,pt,rfl⟩:=Ut h7;exact a5l (Kf hc h3).1 (hc.mg (by decide+kernel)) (jc e hc h5).v h4
 |.zip x y,c,X,tg,a,hc,h=>by
  obtain⟨⟨n,ls⟩,h1,h0⟩:=jm (show(Fo (dCN a) λq=>match q.2 with
   | [l,r]=>((dTup tg).isSome&&(decide (q.1 = "zip")&&Xb c q.1))&&((noStar l&&noStar r)&&(yc T x c l&&yc T y c r))|_=>false)=true from h)
  obtain⟨p,p',rfl⟩:=Ky h1
  match ls,h1,h0 with
  |[l,r],h1,h =>
   replace h:(((dTup tg).isSome&&(decide (n = "zip")&&Xb c n))&&((noStar l&&noStar r)&&(yc T x c l&&yc T y c r)))=true:=h;simp only[aq,di] at h;obtain⟨⟨h6,rfl,h3⟩,⟨h4,h5⟩,h7,h8⟩:=h;obtain⟨ts,h9⟩:=m9.mp h6;obtain⟨k0,pt,rfl⟩:=Ut h9;exact a5q (Kf hc h3).1 (hc.mg (by decide+kernel)) (jc x hc h7).v h4 (jc y hc h8).v h5 (uf (by simp[yz,h5]))
  |[],_,h=>cases h|[_],_,h=>cases h|_::_::_::_,_,h=>cases h
end
end
noncomputable def a6d(e:Ex):Option {b:Bool // (∃v j t it x,e=.comp v j t it x)\/∃v j t it i x,e=.Gm v j t it i x}:=match e with|.comp ..=>some ⟨true,.inl ⟨_,_,_,_,_,rfl⟩⟩|.Gm ..=>some ⟨true,.inr ⟨_,_,_,_,_,_,rfl⟩⟩|_=>none
noncomputable def azw(T:Tab)(c:Ctx)(l:Lv)(e:Ex)(tg v:Expr):Bool :=
 match l with
 |.tg t=>(tgB c 0 t tg&&((Te v&&((dName tg).isSome||av6 v))||(match t with|.name _=>(aeq v).isSome&&(a6d e).isSome|_=>false)))&&yc T e c v
 |.sub o i=>Fo (aou tg) λq=>W7 q.2&&(yc T e c v&&(yc T o c q.1&&yc T i c q.2))
 |.fld o f=>Fo (aov tg) λq=>(Te v&&flB T.Tj f q.2.1)&&(yc T e c v&&yc T o c q.1)
noncomputable def a6e(a:Stmt):Option (List Expr×Expr):=Option.map Subtype.val (α:={q:List Expr×Expr // ∃p,a=.Assign q.1 q.2 p}) (match a with|.Assign t v p=>some ⟨(t,v),p,rfl⟩|_=>none)
noncomputable def a6f(a:Stmt):Option Expr:=Option.map Subtype.val (α:={q:Expr // ∃p,a=.Expr q p}) (match a with|.Expr v p=>some ⟨v,p,rfl⟩|_=>none)
noncomputable def a6g(a:Stmt):Option (Expr×List Stmt×List Stmt):=Option.map Subtype.val (α:={q:Expr×List Stmt×List Stmt // ∃p,a=.If q.1 q.2.1 q.2.2 p}) (match a with|.If t l r p=>some ⟨(t,l,r),p,rfl⟩|_=>none)
noncomputable def a6h(a:Stmt):Option (Expr×List Stmt×List Stmt):=Option.map Subtype.val (α:={q:Expr×List Stmt×List Stmt // ∃p,a=.While q.1 q.2.1 q.2.2 p}) (match a with|.While t l r p=>some ⟨(t,l,r),p,rfl⟩|_=>none)
noncomputable def a6i(a:Stmt):Option (Expr×Expr×List Stmt×List Stmt):=Option.map Subtype.val (α:={q:Expr×Expr×List Stmt×List Stmt // ∃p,a=.For q.1 q.2.1 q.2.2.1 q.2.2.2 p}) (match a with|.For t i l r p=>some ⟨(t,i,l,r),p,rfl⟩|_=>none)
noncomputable def a6j(a:Stmt):Option (Option Expr):=Option.map Subtype.val (α:={q:Option Expr // ∃p,a=.Return q p}) (match a with|.Return v p=>some ⟨v,p,rfl⟩|_=>none)
noncomputable def auk(a:Stmt):Option Nat:=Option.map Subtype.val (α:={n:Nat // (n=0/\∃p,a=.Break p)\/(n=1/\∃p,a=.Continue p)\/(n=2/\∃p,a=.Pass p)}) (match a with|.Break p=>some ⟨0,.inl ⟨rfl,p,rfl⟩⟩|.Continue p=>some ⟨1,.inr (.inl ⟨rfl,p,rfl⟩)⟩|.Pass p=>some ⟨2,.inr (.inr ⟨rfl,p,rfl⟩)⟩|_=>none)
theorem aul(h:a6e a=some (t,v)):∃p,a=.Assign t v p:=(Zb h :)
theorem aum(h:a6f a=some v):∃p,a=.Expr v p:=(Zb h :)
theorem aun(h:a6g a=some (t,l,r)):∃p,a=.If t l r p:=(Zb h :)
theorem auo(h:a6h a=some (t,l,r)):∃p,a=.While t l r p:=(Zb h :)
theorem aup(h:a6i a=some (t,i,l,r)):∃p,a=.For t i l r p:=(Zb h :)
theorem auq(h:a6j a=some v):∃p,a=.Return v p:=(Zb h :)
theorem ab8(h:auk a=some n):(n=0/\∃p,a=.Break p)\/(n=1/\∃p,a=.Continue p)\/(n=2/\∃p,a=.Pass p):=(Zb h :)
mutual
noncomputable def azx(T:Tab):Fl->Ctx->Stmt->Bool
 |.asg l e,c,a=>Fo (a6e a) λq=>Fo (Tp q.1) λt=>azw T c l e t q.2
 |.expr e,c,a=>Fo (a6f a) λv=>Te v&&yc T e c v
 |.iff t x y,c,a=>Fo (a6g a) λq=>Uu q.1&&(yc T t c q.1&&(Wi T x c q.2.1&&Wi T y c q.2.2))
 |.whl t x,c,a=>Fo (a6h a) λq=>(Uu q.1&&q.2.2.isEmpty)&&(yc T t c q.1&&Wi T x c q.2.1)
 |.for_ t it x,c,a=>Fo (a6i a) λq=>(tgB c 0 t q.1&&(Ig q.2.1&&q.2.2.2.isEmpty))&&(auj T it c q.1 q.2.1&&Wi T x c q.2.2.1)
 |.ret e,c,a=>Fo (a6j a) λv=>Fo v (yc T e c)
 |.ark,_,_=>false|.brk,_,a=>decide (auk a=some 0)|.cont,_,a=>decide (auk a=some 1)|.pass,_,a=>decide (auk a=some 2)|.raise _ _,_,_=>true
noncomputable def Wi(T:Tab):m7->Ctx->List Stmt->Bool
 |.nil,_,a=>a.isEmpty|.cons s r,c,a=>match a with|st::rest=>azx T s c st&&Wi T r c rest|_=>false
end
section
variable{T:Tab}{nm:Nm}{W:Dy}{k:Nat}{c:Ctx}{X:Cx}
noncomputable def swB(c:Ctx)(t:Str)(pt vp:Pos)(sc:Scope):Bool:=(c.sc.lookup t==some NameKind.local&&pt.line==vp.line)&&!(sc.names.any λy=>y.1==t&&(y.2==.local||y.2==.cell))
theorem agt(hc:Hy T nm W k c X):swapsWith (.ListComp elt gs sc vp) (some (.Name t pt)) l X.env=pure (swB c t pt vp sc):=by
 have b:X.env.blockKind=.function:=by unfold Env.blockKind;rw[hc.kd];rfl
 show(pure (X.env.blockKind==.function&&X.env.kindOf t==some .local&&pt.line==vp.line&&!(sc.names.any λ(n,k)=>n==t&&(k==.local||k==.cell))):Sem Bool)=_;rw[b];unfold Env.kindOf;rw[hc.sc];simp[swB]
theorem ao5(hc:Hy T nm W k c X)(ht:tgB c 0 (.name i) tg=true)(hv:(aeq v).isSome=true)(hw:(a6d e).isSome=true)(h:yc T e c v=true):PS X (.Assign [tg] v p) (tS nm W X.K (.asg (.tg (.name i)) e)):=by
 have nd:X.N.Nodup:=by rw[hc.N];exact hc.nd
 obtain⟨⟨elt,gs,sc⟩,hq⟩:=m9.mp hv;obtain⟨y,py,rfl,hy,_⟩:=agr (nm:=nm) (W:=W) (k:=k) (T:=T) hc ht;obtain⟨⟨_,co⟩,_⟩:=m9.mp hw;obtain⟨vp,rfl⟩:=Yo hq;have sw:=λl=>agt (T:=T) (nm:=nm) (W:=W) (k:=k) hc (elt:=elt) (gs:=gs) (sc:=sc) (vp:=vp) (pt:=py) (t:=y) (l:=l)
 cases hs:swB c y py vp sc with
 |false =>
  rw[hs] at sw;exact am2 (jc e hc h).v (aii hc ht).1 (sw p.line) rfl rfl
 |true =>
  rw[hs] at sw;simp only[swB,aq] at hs;have hl:X.env.scope.names.lookup y=some .local:=by rw[hc.sc];have:=hs.1.1;simpa using this
  rcases co with⟨v,j,t,it,x,rfl⟩|⟨v,j,t,it,i',x,rfl⟩
  . replace h:=jm h
    obtain⟨⟨bas,gs',sc'⟩,h1,h⟩:=h;cases h1;replace h:=jm h;obtain⟨⟨tg,iter,ifs,as⟩,h2,h⟩:=h;cases By h2;simp only[aq,o8] at h;obtain⟨⟨h3,rfl⟩,h4,h5⟩:=h;obtain⟨q1,q2,B,hB,hg,q3,q4⟩:=Uv hc h3;cases q2;exact ajz B hc.calm (Uw it hc h4) hg (λC fp s H=>(jc x (hB C fp s H) h5).v) q1 q3 q4 nd hy hl (sw p.line)
  . replace h:=jm h
    obtain⟨⟨bas,gs',sc'⟩,h1,h⟩:=h;cases h1;replace h:=jm h;obtain⟨⟨tg,iter,ifs,as⟩,h2,h⟩:=h;cases By h2;replace h:=jm h;obtain⟨d,h6,h⟩:=h;cases By h6;simp only[aq] at h;obtain⟨⟨h3,h7⟩,h4,h8,h5⟩:=h;obtain⟨q1,q2,B,hB,hg,q3,q4⟩:=Uv hc h3;cases q2;exact ad5 B hc.calm (Uw it hc h4) hg (λC fp s H=>(jc i' (hB C fp s H) h8).q h7) (λC fp s H=>(jc x (hB C fp s H) h5).v) q1 q3 q4 nd hy hl (sw p.line)
end
section
variable{T:Tab}{nm:Nm}{W:Dy}{k:Nat}
theorem aur(hc:Hy T nm W k c X)(h:azw T c l e tg v=true):PS X (.Assign [tg] v p) (tS nm W X.K (.asg l e)):=by
 cases l with
 |tg t =>
  simp only[azw,aq,Bool.or_eq_true] at h;obtain⟨⟨h1,h2⟩,h3⟩:=h;rcases h2 with⟨h4,h5⟩|h4
  . have g:=aii (nm:=nm) hc h1
    have sh:(∃n q,tg=.Name n q)\/∃ts k0 q,tg=.Tuple ts k0 q:=by
     cases t with
     |name i =>
      obtain⟨n,z1,_⟩:=jm h1;exact .inl ⟨n,Nb z1⟩
     |names is =>
      obtain⟨ts,z1,_⟩:=jm h1;exact .inr ⟨ts,Ut z1⟩
    rcases sh with⟨n,q,rfl⟩|⟨ts,k0,q,rfl⟩
    . exact am2 (jc e hc h3).v g.1 (Xz h4 _ _ _) rfl rfl
    . have w:av6 v=true:=by
       rcases h5 with h5|h5
       . cases h5
       . exact h5
      have w2:swappedStores [.Tuple ts k0 q] v X.env=pure none:=by cases v<;>first|rfl|(cases w;done)
      exact am2 (jc e hc h3).v g.1 (Xz h4 _ _ _) w2 rfl
  . cases t with
    |name i=>rw[aq] at h4;exact ao5 hc h1 h4.1 h4.2 h3|names _=>cases h4
 |sub o i =>
  replace h:=jm (show Fo (aou tg) _=true from h);obtain⟨⟨lo,li⟩,h0,h⟩:=h;obtain⟨p',rfl⟩:=ab4 h0;simp only[aq] at h;obtain⟨h2,h3,h4,h5⟩:=h;refine am8 (ado hc.room) (jc e hc h3).v (jc o hc h4).v (jc i hc h5).v λv=>?_
  cases li<;>first|rfl|(cases h2;done)
 |fld o f =>
  replace h:=jm (show Fo (aov tg) _=true from h);obtain⟨⟨lo,n,p'⟩,h0,h⟩:=h;cases ab5 h0;simp only[aq] at h;obtain⟨⟨h1,h2⟩,h3,h4⟩:=h;obtain⟨t1,t2⟩:=hc.tab.fl _ _ (jy h2);exact am9 t1 t2 (jc e hc h3).v (jc o hc h4).v h1
mutual
theorem aus:∀(s:Fl){c:Ctx}{X:Cx}{a:Stmt},Hy T nm W k c X->c.fn=true->azx T s c a=true->PS X a (tS nm W X.K s)
 |.asg l e,c,X,a,hc,hf,h=>by
  replace h:=jm h;obtain⟨⟨ts,v⟩,h1,h⟩:=h;obtain⟨p,rfl⟩:=aul h1;replace h:=jm h;obtain⟨t,h2,h⟩:=h;cases By h2;exact aur hc h
 |.expr e,c,X,a,hc,hf,h=>by
  replace h:=jm h;obtain⟨v,h1,h⟩:=h;obtain⟨p,rfl⟩:=aum h1;simp only[aq] at h;exact ayp (jc e hc h.2).v (Qj h.1 _ _ _)
 |.iff t x y,c,X,a,hc,hf,h=>by
  replace h:=jm h;obtain⟨⟨q,l,r⟩,h1,h⟩:=h;obtain⟨p,rfl⟩:=aun h1;simp only[aq] at h;exact a4d ((jc t hc h.2.1).q h.1) (Nf x hc hf h.2.2.1) (Nf y hc hf h.2.2.2)
 |.whl t x,c,X,a,hc,hf,h=>by
  replace h:=jm h;obtain⟨⟨q,l,r⟩,h1,h⟩:=h;obtain⟨p,rfl⟩:=auo h1;simp only[aq,o8] at h;obtain⟨⟨h2,rfl⟩,h3,h4⟩:=h;exact a4e (hc.fnl hf).2 ((jc t hc h3).q h2) (Nf x hc hf h4)
 |.for_ t it x,c,X,a,hc,hf,h=>by
  replace h:=jm h;obtain⟨⟨tg,iter,l,r⟩,h1,h⟩:=h;obtain⟨p,rfl⟩:=aup h1;simp only[aq,o8] at h;obtain⟨⟨h2,h3,rfl⟩,h4,h5⟩:=h;exact a4g (hc.fnl hf).2 hc.calm (Uw it hc h4) (aii hc h2).1 (Nf x hc hf h5) h3
 |.ret e,c,X,a,hc,hf,h=>by
  replace h:=jm h;obtain⟨v,h1,h⟩:=h;obtain⟨p,rfl⟩:=auq h1;replace h:=jm h;obtain⟨w,rfl,h⟩:=h;exact a4b (jc e hc h).v
 |.ark,c,X,a,hc,hf,h=>by cases h
 |.brk,c,X,a,hc,hf,h=>by
  rcases ab8 (jy h) with⟨_,p,rfl⟩|⟨z,_⟩|⟨z,_⟩
  . exact a4c
  . cases z
  . cases z
 |.cont,c,X,a,hc,hf,h=>by
  rcases ab8 (jy h) with⟨z,_⟩|⟨_,p,rfl⟩|⟨z,_⟩
  . cases z
  . exact ayr
  . cases z
 |.pass,c,X,a,hc,hf,h=>by
  rcases ab8 (jy h) with⟨z,_⟩|⟨z,_⟩|⟨_,p,rfl⟩
  . cases z
  . cases z
  . exact ayq
 |.raise _ _,c,X,a,hc,hf,h=>atm
theorem Nf:∀(s:m7){c:Ctx}{X:Cx}{a:List Stmt},Hy T nm W k c X->c.fn=true->Wi T s c a=true->T5 X a (tSs nm W X.K s)
 |.nil,c,X,a,hc,hf,h=>by
  cases o8.mp h;exact ays
 |.cons s r,c,X,a,hc,hf,h=>by
  cases a with
  |nil=>cases h
  |cons st rest =>
   replace h:(azx T s c st&&Wi T r c rest)=true:=h;simp only[aq] at h;exact ash (aus s hc hf h.1) (Nf r hc hf h.2)
end
end
structure Def where
 x:Str
 qual:Str
 N:List Str
 ps:List Str
noncomputable def scB(N ps:List Str)(sc:Scope):Bool :=
 (decide (sc.kind=.function)&&(!sc.isCoroutine&&!sc.isGenerator))&&((decide N.Nodup&&decide (N.take ps.length=ps)) &&
 (ps.all (λx=>sc.names.lookup x==some .local||sc.names.lookup x==some .cell)&&sc.names.all (λy=>!(y.2==NameKind.free))))
theorem azy(h:scB N ps sc=true):W2 N ps sc:=by simp only[scB,aq,di,Br,jg] at h;obtain⟨⟨h1,h2,h3⟩,⟨h4,h5⟩,h6,h7⟩:=h;exact⟨h1,h2,h3,h4,h5,λx m=>by have:=h6 x m;simpa using this,λy m=>by have:=h7 y m;simpa using this⟩
noncomputable def akh(T:Tab)(d:Def)(F:MW.Fn)(st:Stmt):Bool :=
 (scB d.N d.ps (Ba st)&&(decide (F.np=d.ps.length)&&decide (F.ns=d.N.length)))&&Wi T F.body ⟨d.N,(Ba st).names,true⟩ (Ji st)
set_option tactic.hygienic true in
theorem aut{F:MW.Fn}(h:F.run W ds M=.ok d M'):ds.length=F.np/\∃fl ρ',F.body.den W (ds.map some++List.replicate (F.ns-F.np) none) M=.ok (fl,ρ') M'/\(fl=.ret d\/(fl=.next/\d=.non)):=by
 unfold MW.Fn.run at h;split at h
 . rename_i hl
   obtain⟨⟨fl,ρ'⟩,M1,e1,e⟩:=dm h;refine⟨hl,fl,ρ',?_⟩;cases fl with
   |ret z=>cases e;exact⟨e1,.inl rfl⟩|next=>cases e;exact⟨e1,.inr ⟨rfl,rfl⟩⟩|brk=>cases e|cont=>cases e
 . cases h
theorem azz{IR:MW.Prog}(U:Fun K d.x d.qual st f fd)(hF:IR.fns[i]?=some F)(h:akh T d F st=true)(hT:TabOk T nm ⟨IR.call n,IR.cls⟩ k P w K mg base):Ij P w K mg base CX0 (k+17) f fd d.ps (spF nm ⟨IR.call (n+1),IR.cls⟩ K F.np i):=by
 simp only[akh,aq,di] at h;obtain⟨⟨h1,h2,h3⟩,h4⟩:=h;have S:=azy h1;have go:∀ds M d' M',MW.Dy.call ⟨IR.call (n+1),IR.cls⟩ i ds M=.ok d' M'->F.run ⟨IR.call n,IR.cls⟩ ds M=.ok d' M':=λds M d' M' e=>by have e:IR.call (n+1) i ds M=.ok d' M':=e;unfold MW.Prog.call at e;rw[hF] at e;exact e
 refine U.ok (k:=k+16) S (λvs H Q E ⟨ι,M,ds,d',M',_,r,l,e,_⟩=>by rw[<- r.length,l,h2]) (λcdv A outer s H vs Q E hr ⟨ι,M,ds,d',M',SM,r,l,e,q⟩=>?_);have hc:Hy T nm ⟨IR.call n,IR.cls⟩ k ⟨d.N,(Ba st).names,true⟩ (afz CX0 P w K mg base d.N d.qual (Ba st) f cdv A outer s H E).nox :=
  ⟨rfl,S.nd,rfl,S.kind,rfl,hr,λ_=>⟨λ_=>rfl,PassesOwn.never⟩,hT⟩
 refine⟨_,Nf F.body hc rfl h4,?_⟩;obtain⟨hl,fl,ρ',e1,e2⟩:=aut (go _ _ _ _ e);refine⟨ι,_,M,fl,ρ',M',SM,?_,e1,fun ι' H' σ' le S' R'=>?_⟩
 . unfold L2.start
   exact(tu.amw r).append (tu.nones _ (by rw[Ce,h3,<- r.length,l]))
 . rcases e2 with rfl|⟨rfl,rfl⟩
   . exact λv rv=>q ι' H' v le S' rv
   . exact q ι' H' _ le S' .non
theorem ail{nm:Nm}{P:Program}{w:World}{K:Fg}{mg:Str->Option Value}{base:Heap}{IR:MW.Prog}{T:Tab}{D:Nat->Def}{st:Nat->Stmt}{fa:Nat->Addr}{fd:Nat->FuncData}
 (U:∀i,i<IR.fns.length->Fun K (D i).x (D i).qual (st i) (fa i) (fd i)) (h:∀i F,IR.fns[i]?=some F->akh T (D i) F (st i)=true)
 (mk:∀n,(∀i F,IR.fns[i]?=some F->Ij P w K mg base CX0 (17*n) (fa i) (fd i) (D i).ps (spF nm ⟨IR.call n,IR.cls⟩ K F.np i))->TabOk T nm ⟨IR.call n,IR.cls⟩ (17*n) P w K mg base) :
 ∀n i F,IR.fns[i]?=some F->Ij P w K mg base CX0 (17*n) (fa i) (fd i) (D i).ps (spF nm ⟨IR.call n,IR.cls⟩ K F.np i)
 |0,i,F,hF=>⟨(λvs H Q E ⟨ι,M,ds,d',M',_,r,l,e,_⟩=>by cases e),λA outer s H args us vs Q E hr he hb hv ⟨ι,M,ds,d',M',_,r,l,e,_⟩=>by cases e⟩
 |n+1,i,F,hF=>azz (U i (ak.mp hF).1) hF (h i F hF) (mk n (ail U h mk n))
noncomputable def az0(s:Str):Bool:=s.cps[0]?==some 0
noncomputable def ao6(Tj:List Str):Bool:=decide Tj.Nodup&&Tj.all λs=>!az0 s
noncomputable def aet(Tj:List Str)(i:Nat):Str:=match Tj[i]? with|some s=>s|none=>⟨#[0,0,i]⟩
theorem ao7(h:ao6 Tj=true)(i j:Nat)(e:aet Tj i=aet Tj j):i=j:=by
 simp only[ao6,aq,di,jg] at h;have own:∀k,az0 ⟨#[0,0,k]⟩=true:=λk=>rfl
 unfold aet at e;cases hi:Tj[i]? with
 |some a =>
  rw[hi] at e;cases hj:Tj[j]? with
  |some b =>
   rw[hj] at e;have e:a=b:=e;subst e;obtain⟨l1,e1⟩:=ak.mp hi;obtain⟨l2,e2⟩:=ak.mp hj;exact(qz h.1).mp (e1.trans e2.symm)
  |none =>
   rw[hj] at e;have e:a=⟨#[0,0,j]⟩:=e;have:=h.2 a (az hi);rw[e,own] at this;cases this
 |none =>
  rw[hi] at e;cases hj:Tj[j]? with
  |some b =>
   rw[hj] at e;have e:(⟨#[0,0,i]⟩:Str)=b:=e;have:=h.2 b (az hj);rw[<- e,own] at this;cases this
  |none =>
   rw[hj] at e;have e:(⟨#[0,0,i]⟩:Str)=⟨#[0,0,j]⟩:=e;simpa using e
noncomputable def az1(cas:List (Option Addr))(Tj:List Str)(h:ao6 Tj=true):Nm:=⟨λc=>(cas[c]?).join,aet Tj,ao7 h⟩
noncomputable def ao8(Tj:List Str)(x:Str):Bool:=!(Tj.contains x)&&!az0 x
theorem ao9(h:ao8 Tj x=true)(i:Nat):aet Tj i≠x:=λe=>by
 simp only[ao8,aq,Br] at h;unfold aet at e;cases hi:Tj[i]? with
 |some a =>
  rw[hi] at e;have e:a=x:=e;rw[<- e] at h;have:=Gu.mpr (az hi);rw[this] at h;cases h.1
 |none =>
  rw[hi] at e;have e:(⟨#[0,0,i]⟩:Str)=x:=e;rw[<- e] at h;cases h.2
section
variable(K:Fg)(mg:Str->Option Value)
noncomputable def ab9:List Def->List Stmt->List Addr->List FuncData->Prop
 |d::ds,s::ss,a::as,f::fs=>(Fun K d.x d.qual s a f/\Binds K f d.ps [])/\ab9 ds ss as fs|[],[],[],[]=>True|_,_,_,_=>False
noncomputable def Vw:List (Option (Str×Nat))->List Addr->Prop
 |some p::r,a::as=>mg p.1=some (.ref a)/\Vw r as|none::r,_::as=>Vw r as|_,_=>True
noncomputable def aeu(C:Addr)(mts:List (Str×Nat))(Pu:List Addr):List (Nat×Nat)->Prop
 |q::r=>(∃p a,mts[q.1]?=some p/\Pu[q.2]?=some a/\Meth K C p.1 a)/\aeu C mts Pu r|[]=>True
noncomputable def aca(C:Addr):List Str->Prop
 |x::r=>Jw K C x/\aca C r|[]=>True
structure ClF(T:Tab)(Pu:List Addr)(x:Str)(C:Addr)(cl:MW.Cl):Prop where
 mg:mg x=some (.ref C)
 cs:Cls K C
 ini:∃f,Pu[cl.init]?=some f/\Mk K C f
 me:aeu K C T.mts Pu cl.meths
 na:aca K C T.Tj
noncomputable def Qo(T:Tab)(Pu:List Addr):List (Option (Str×Nat))->List (Option Addr)->List MW.Cl->Prop
 |some p::r,some C::cs,cl::cls=>ClF K mg T Pu p.1 C cl/\Qo T Pu r cs cls|none::r,none::cs,_::cls=>Qo T Pu r cs cls|[],[],[]=>True|_,_,_=>False
noncomputable def acb:List (Str×Int)->Prop
 |p::r=>(∃t,mg p.1=some (.int p.2 t))/\acb r|[]=>True
noncomputable def AllB:List Str->Prop
 |x::r=>mg x=none/\AllB r|[]=>True
end
section
variable{K:Fg}{mg:Str->Option Value}
theorem ab9.get:∀{ds:List Def}{ss:List Stmt}{as:List Addr}{fs:List FuncData}{i:Nat}{d:Def},ab9 K ds ss as fs->ds[i]?=some d->∃s a f,ss[i]?=some s/\as[i]?=some a/\fs[i]?=some f/\Fun K d.x d.qual s a f/\Binds K f d.ps []
 |d::ds,s::ss,a::as,f::fs,0,d',h,e=>by cases e;exact⟨s,a,f,rfl,rfl,rfl,h.1⟩
 |d::ds,s::ss,a::as,f::fs,i+1,d',h,e=>by
  obtain⟨s',a',f',h1,h2,h3,h4⟩:=ab9.get (i:=i) h.2 (by simpa using e);exact⟨s',a',f',by simpa using h1,by simpa using h2,by simpa using h3,h4⟩
theorem Vw.get:∀{l:List (Option (Str×Nat))}{as:List Addr}{i:Nat}{p:Str×Nat}{a:Addr},Vw mg l as->l[i]?=some (some p)->as[i]?=some a->mg p.1=some (.ref a)
 |some q::l,b::as,0,p,a,h,e,e2=>by cases e;cases e2;exact h.1|none::l,b::as,0,p,a,h,e,e2=>by cases e|some q::l,b::as,i+1,p,a,h,e,e2=>Vw.get (i:=i) h.2 (by simpa using e) (by simpa using e2)|none::l,b::as,i+1,p,a,h,e,e2=>Vw.get (i:=i) (l:=l) (as:=as) h (by simpa using e) (by simpa using e2)
theorem aeu.get{C:Addr}{mts:List (Str×Nat)}{Pu:List Addr}:∀{l:List (Nat×Nat)}{q:Nat×Nat},aeu K C mts Pu l->q∈l->∃p a,mts[q.1]?=some p/\Pu[q.2]?=some a/\Meth K C p.1 a
 |q'::l,q,h,m=>by
  rcases bw.mp m with z|z
  . rw[z];exact h.1
  . exact aeu.get h.2 z
theorem aca.get{C:Addr}:∀{l:List Str}{x:Str},aca K C l->x∈l->Jw K C x
 |y::l,x,h,m=>by
  rcases bw.mp m with z|z
  . rw[z];exact h.1
  . exact aca.get h.2 z
theorem Qo.get{T:Tab}{Pu:List Addr}:∀{l:List (Option (Str×Nat))}{cs:List (Option Addr)}{cls:List MW.Cl}{c:Nat}{p:Str×Nat},Qo K mg T Pu l cs cls->l[c]?=some (some p)->∃C cl,cs[c]?=some (some C)/\cls[c]?=some cl/\ClF K mg T Pu p.1 C cl
 |some q::l,some C::cs,cl::cls,0,p,h,e=>by cases e;exact⟨C,cl,rfl,rfl,h.1⟩
 |some q::l,some C::cs,cl::cls,c+1,p,h,e=>by
  obtain⟨C',cl',h1,h2,h3⟩:=Qo.get (c:=c) h.2 (by simpa using e);exact⟨C',cl',by simpa using h1,by simpa using h2,h3⟩
 |none::l,none::cs,cl::cls,0,p,h,e=>by cases e
 |none::l,none::cs,cl::cls,c+1,p,h,e=>by
  obtain⟨C',cl',h1,h2,h3⟩:=Qo.get (l:=l) (cs:=cs) (cls:=cls) (c:=c) h (by simpa using e);exact⟨C',cl',by simpa using h1,by simpa using h2,h3⟩
theorem Qo.at{T:Tab}{Pu:List Addr}:∀{l:List (Option (Str×Nat))}{cs:List (Option Addr)}{cls:List MW.Cl}{c:Nat}{C:Addr},Qo K mg T Pu l cs cls->cs[c]?=some (some C)->Cls K C/\aca K C T.Tj
 |some q::l,some C::cs,cl::cls,0,p,h,e=>by cases e;exact⟨h.1.cs,h.1.na⟩|some q::l,some C::cs,cl::cls,c+1,p,h,e=>Qo.at (c:=c) h.2 (by simpa using e)|none::l,none::cs,cl::cls,0,p,h,e=>by cases e|[],[],_,_,_,_,e=>by simp at e|[],_::_,[],_,_,h,_=>h.elim|[],_::_,_::_,_,_,h,_=>h.elim|none::l,none::cs,cl::cls,c+1,p,h,e=>Qo.at (l:=l) (cs:=cs) (cls:=cls) (c:=c) h (by simpa using e)
theorem acb.get:∀{l:List (Str×Int)}{x:Str}{i:Int},acb mg l->(x,i)∈l->∃t,mg x=some (.int i t)
 |q::l,x,i,h,m=>by
  rcases bw.mp m with z|z
  . rw[<- z] at h;exact h.1
  . exact acb.get h.2 z
theorem AllB.get:∀{l:List Str}{x:Str},AllB mg l->x∈l->mg x=none
 |q::l,x,h,m=>by
  rcases bw.mp m with z|z
  . rw[z];exact h.1
  . exact AllB.get h.2 z
end
noncomputable def aev(T:Tab):List MW.Fn->List Def->List Stmt->Bool
 |F::Fs,d::ds,s::ss=>akh T d F s&&aev T Fs ds ss|[],[],[]=>true|_,_,_=>false
noncomputable def npB(fns:List MW.Fn)(f n:Nat):Bool:=match fns[f]? with|some F=>F.np==n|none=>false
noncomputable def tfB(fns:List MW.Fn)(l:List (Option (Str×Nat))):Bool:=l.zipIdx.all λq=>match q.1 with|some p=>npB fns q.2 p.2|none=>true
noncomputable def tcB(IR:MW.Prog)(l:List (Option (Str×Nat))):Bool:=l.zipIdx.all λq=>match q.1 with|some p=>(match IR.cls[q.2]? with|some cl=>npB IR.fns cl.init (p.2+1)|none=>false)|none=>true
noncomputable def baw(cls:List MW.Cl)(m c f:Nat):Bool:=cls.zipIdx.all λq=>match q.1.meths.lookup m with|none=>true|some g=>q.2==c&&g==f
noncomputable def tmB(IR:MW.Prog)(T:Tab)(mcs:List (Nat×Nat)):Bool:=T.mts.zipIdx.all λq=>match mcs[q.2]? with
 |some cf=>(baw IR.cls q.2 cf.1 cf.2&&(npB IR.fns cf.2 (q.1.2+1)&&ao8 T.Tj q.1.1))&&((match T.cls[cf.1]? with|some (some _)=>true|_=>false)&&(match IR.cls[cf.1]? with|some cl=>cl.meths.lookup q.2==some cf.2|none=>false))
 |none=>false
theorem Oj{α:Type}{l:List α}{g:α×Nat->Bool}(h:l.zipIdx.all g=true){x:α}(e:l[i]?=some x):g (x,i)=true:=by rw[jg] at h;exact h (x,i) (by rw[uq];exact⟨i,by rw[zq,e];simp⟩)
set_option tactic.hygienic true in
theorem agu(h:npB fns f n=true):∃F,fns[f]?=some F/\F.np=n:=by
 unfold npB at h;split at h
 . rename_i F e;exact⟨F,e,eq_of_beq h⟩
 . cases h
theorem Yp{T:Tab}:∀{Fs:List MW.Fn}{ds:List Def}{ss:List Stmt}{i:Nat}{F:MW.Fn},aev T Fs ds ss=true->Fs[i]?=some F->∃d s,ds[i]?=some d/\ss[i]?=some s/\akh T d F s=true
 |F::Fs,d::ds,s::ss,0,F',h,e=>by
  simp only[aev,aq] at h;cases e;exact⟨d,s,rfl,rfl,h.1⟩
 |F::Fs,d::ds,s::ss,i+1,F',h,e=>by
  simp only[aev,aq] at h;obtain⟨d',s',h1,h2,h3⟩:=Yp (i:=i) h.2 (by simpa using e);exact⟨d',s',by simpa using h1,by simpa using h2,h3⟩
 |[],_,_,_,_,_,e=>by simp at e|_::_,[],_,_,_,h,_=>by simp[aev] at h|_::_,_::_,[],_,_,h,_=>by simp[aev] at h
set_option tactic.hygienic true in
theorem az2(hfl:ao6 T.Tj=true)(hP:aev T IR.fns Ds ss=true)(h1:tfB IR.fns T.fns=true)(h2:tcB IR T.cls=true)(h3:tmB IR T mcs=true)(aF:ab9 K Ds ss Pu fds)(aG:Vw mg T.fns Pu)(aC:Qo K mg T Pu T.cls cas IR.cls)(aV:acb mg T.aub)(aB:AllB mg Qn)(hF:IR.fns[i]?=some F) :
 ∃d a f,Ds[i]?=some d/\Pu[i]?=some a/\fds[i]?=some f/\Binds K f d.ps []/\Ij P w K mg base CX0 (17*n) a f d.ps (spF (az1 cas T.Tj hfl) ⟨IR.call n,IR.cls⟩ K F.np i):=by
 let dd:Def:=⟨Str.empty,Str.empty,[],[]⟩
 let sd:Stmt:=.Pass ⟨0,0,0,0⟩
 obtain⟨d,s,g1,g2,g3⟩:=Yp hP hF;have all:∀(i:Nat)(F:MW.Fn),IR.fns[i]?=some F->∃d s a f,Ds[i]?=some d/\ss[i]?=some s/\Pu[i]?=some a/\fds[i]?=some f/\Fun K d.x d.qual s a f/\Binds K f d.ps []/\akh T d F s=true:=λi F e=>by obtain⟨d,s,g1,g2,g3⟩:=Yp hP e;obtain⟨s',a,f,k1,k2,k3,k4,k5⟩:=aF.get g1;rw[g2] at k1;cases k1;exact⟨d,s,a,f,g1,g2,k2,k3,k4,k5,g3⟩
 have df:∀{j:Nat}{a:Addr}{f:FuncData}{d:Def},Pu[j]?=some a->fds[j]?=some f->Ds[j]?=some d->(Pu[j]?).getD 0=a/\Ds[j]?.getD dd=d:=λe1 e2 e3=>⟨by rw[e1];rfl,by rw[e3];rfl⟩
 obtain⟨fd0,be4⟩:∃fd0:FuncData,True:=by obtain⟨s',a,f,_⟩:=aF.get g1;exact⟨f,trivial⟩
 have main:=ail (nm:=az1 cas T.Tj hfl) (P:=P) (w:=w) (K:=K) (mg:=mg) (base:=base) (IR:=IR) (T:=T) (D:=λi=>Ds[i]?.getD dd) (st:=λi=>ss[i]?.getD sd) (fa:=λi=>(Pu[i]?).getD 0) (fd:=λi=>(fds[i]?).getD fd0)
  (λi hi=>by
   obtain⟨d,s,a,f,k1,k2,k3,k4,k5,k6,k7⟩:=all i IR.fns[i] (by simp[hi]);rw[k1,k2,k3,k4];exact k5)
  (λi F e=>by
   obtain⟨d,s,a,f,k1,k2,k3,k4,k5,k6,k7⟩:=all i F e;rw[k1,k2];exact k7)
  (λn G=>?_) n i F hF
 . obtain⟨d',s',a,f,k1,k2,k3,k4,k5,k6,k7⟩:=all i F hF
   refine⟨d',a,f,k1,k3,k4,k6,?_⟩;have:=main;rw[k1,k3,k4] at this;exact this
 ·
  have at_:∀{j:Nat}{F:MW.Fn}{a:Addr},IR.fns[j]?=some F->Pu[j]?=some a->∃(f:FuncData)(d:Def),Binds K f d.ps []/\Ij P w K mg base CX0 (17*n) a f d.ps (spF (az1 cas T.Tj hfl) ⟨IR.call n,IR.cls⟩ K F.np j)/\PySem.W.keepIn K (.ref a)=true:=fun{j F a} e1 e2=>by obtain⟨d,s,a',f,k1,k2,k3,k4,k5,k6,k7⟩:=all j F e1;rw[e2] at k3;cases k3;have g:=G j F e1;rw[k1,e2,k4] at g;exact⟨f,d,k6,g,k5.kp⟩
  have addr:∀{j:Nat}{F:MW.Fn},IR.fns[j]?=some F->∃a,Pu[j]?=some a:=fun{j F} e=>by obtain⟨d,s,a',f,k1,k2,k3,_⟩:=all j F e;exact⟨a',k3⟩
  refine⟨λf x m e=>?_,λc x m e=>?_,λm x j e=>?_,λf x e=>?_,λx i m=>aV.get m,λx m=>aB.get m⟩
  . obtain⟨F,e1,e2⟩:=agu (Oj h1 e)
    obtain⟨a,e3⟩:=addr e1;obtain⟨fd,d,b,g,kp⟩:=at_ e1 e3;rw[e2] at g;exact⟨a,fd,d.ps,g,aG.get e e3,kp,b⟩
  . obtain⟨C,cl,q1,q2,q3⟩:=aC.get e
    have z:=Oj h2 e;simp only[q2] at z;obtain⟨F,e1,e2⟩:=agu z;obtain⟨f,f1,f2⟩:=q3.ini;obtain⟨fd,d,b,g,kp⟩:=at_ e1 f1;rw[e2] at g;exact⟨C,f,fd,d.ps,cl,f2,g,q3.mg,b,q2,by show(cas[c]?).join=some C;rw[q1];rfl⟩
  . have z:=Oj h3 e
    simp only at z;split at z
    . rename_i cf hcf
      simp only[aq] at z;obtain⟨⟨z1,z2,z3⟩,z4,z5⟩:=z;obtain⟨F,e1,e2⟩:=agu z2;split at z4
      . rename_i p hp
        obtain⟨C,cl,q1,q2,q3⟩:=aC.get hp;rw[q2] at z5;simp only at z5;have mem:(m,cf.2)∈cl.meths:=mem_of_lookup (eq_of_beq z5);obtain⟨p',a,r1,r2,r3⟩:=q3.me.get mem;rw[e] at r1;cases r1;obtain⟨fd,d,b,g,kp⟩:=at_ e1 r2;rw[e2] at g;refine⟨C,a,fd,d.ps,cf.2,q3.cs,r3,g,b,λc' cl' hc' g' hg'=>?_,ao9 z3⟩;have y:=Oj z1 hc';simp only[hg',aq] at y;have y1:c'=cf.1:=eq_of_beq y.1;exact⟨by show(cas[c']?).join=some C;rw[y1,q1];rfl,eq_of_beq y.2⟩
      . cases z4
    . cases z
  . refine⟨by show x=aet T.Tj f;unfold aet;rw[e],λc C hC=>?_⟩
    have hC:(cas[c]?).join=some C:=hC;have hC2:cas[c]?=some (some C):=by
     cases q:cas[c]? with
     |none=>rw[q] at hC;cases hC
     |some o=>rw[q] at hC;cases o with
      |none=>cases hC|some C'=>cases hC;rfl
    obtain⟨y1,y2⟩:=aC.at hC2;exact⟨y1,y2.get (az e)⟩
section
variable{K:Fg}{mg:Str->Option Value}
theorem fN:ab9 K [] [] [] []:=trivial
theorem gN:Vw mg [] as:=trivial
theorem gS(h:mg p.1=some (.ref a))(t:Vw mg r as):Vw mg (some p::r) (a::as):=⟨h,t⟩
theorem gO(t:Vw mg r as):Vw mg (none::r) (a::as):=t
theorem mN:aeu K C mts Pu []:=trivial
theorem mC(h1:mts[q.1]?=some p)(h2:Pu[q.2]?=some a)(m:Meth K C p.1 a)(t:aeu K C mts Pu r):aeu K C mts Pu (q::r):=⟨⟨p,a,h1,h2,m⟩,t⟩
theorem nN:aca K C []:=trivial
theorem nC(h:Jw K C x)(t:aca K C r):aca K C (x::r):=⟨h,t⟩
theorem cN:Qo K mg T Pu [] [] []:=trivial
theorem cO(t:Qo K mg T Pu r cs cls):Qo K mg T Pu (none::r) (none::cs) (cl::cls):=t
theorem cS(h:ClF K mg T Pu p.1 C cl)(t:Qo K mg T Pu r cs cls):Qo K mg T Pu (some p::r) (some C::cs) (cl::cls):=⟨h,t⟩
theorem vN:acb mg []:=trivial
theorem vC(h:mg p.1=some (.int p.2 t))(q:acb mg r):acb mg (p::r):=⟨⟨t,h⟩,q⟩
theorem bN:AllB mg []:=trivial
theorem bC(h:mg x=none)(q:AllB mg r):AllB mg (x::r):=⟨h,q⟩
end
noncomputable abbrev Lk(K:Fg)(f:Addr)(x q:Str)(st:Stmt)(oc:Value)(od:Option Addr)(kV dc pm:Value)(an:Option Addr)(cd ct:Value)(sl:Array (Option Value)):Prop :=
 K.lookup f=some ⟨oc,od,.func (PySem.W.fnOf x q (Lr st) (Ji st) (Ba st) .none kV dc pm an cd ct),sl⟩/\PySem.W.codeIn K cd q=true/\PySem.W.keepIn K (.ref f)=true
theorem bax{α:Type}{us:List α}(h:us.length=1):∃a,us=[a]:=match us,h with|[a],_=>⟨a,rfl⟩
theorem bay{α:Type}{us:List α}(h:us.length=2):∃a b,us=[a,b]:=match us,h with|[a,b],_=>⟨a,b,rfl⟩
theorem baz{α:Type}{us:List α}(h:us.length=3):∃a b c,us=[a,b,c]:=match us,h with|[a,b,c],_=>⟨a,b,c,rfl⟩
theorem ba0{α:Type}{us:List α}(h:us.length=4):∃a b c d,us=[a,b,c,d]:=match us,h with|[a,b,c,d],_=>⟨a,b,c,d,rfl⟩
theorem ba1{α:Type}{us:List α}(h:us.length=5):∃a b c d e,us=[a,b,c,d,e]:=match us,h with|[a,b,c,d,e],_=>⟨a,b,c,d,e,rfl⟩
theorem ba2{α:Type}{us:List α}(h:us.length=6):∃a b c d e f,us=[a,b,c,d,e,f]:=match us,h with|[a,b,c,d,e,f],_=>⟨a,b,c,d,e,f,rfl⟩
theorem fE{kV:Value}(l:Lk K a d.x d.qual s oc od kV dc pm an cd ct sl)(r:ab9 K ds ss as fs)
 (b:∀(kV doc pm:Value)(an:Option Addr)(cdv ct:Value)(us:List Value),us.length=d.ps.length->bindArgs (PySem.W.fnOf d.x d.qual (Lr s) (Ji s) (Ba s) .none kV doc pm an cdv ct) ⟨us,[]⟩=pure (d.ps.zip us):=by intro _ _ _ _ _ _ us hl;first|(obtain⟨_,rfl⟩:=Ck.bax hl;rfl)|(obtain⟨_,_,rfl⟩:=Ck.bay hl;rfl)|(obtain⟨_,_,_,rfl⟩:=Ck.baz hl;rfl)|(obtain⟨_,_,_,_,rfl⟩:=Ck.ba0 hl;rfl)|(obtain⟨_,_,_,_,_,rfl⟩:=Ck.ba1 hl;rfl)|(obtain⟨_,_,_,_,_,_,rfl⟩:=Ck.ba2 hl;rfl)) :
 ab9 K (d::ds) (s::ss) (a::as) (PySem.W.fnOf d.x d.qual (Lr s) (Ji s) (Ba s) .none kV dc pm an cd ct::fs):=⟨⟨ame l.1 l.2.1 l.2.2,(ame l.1 l.2.1 l.2.2).binds b⟩,r⟩
noncomputable def aim(K:Fg):Sp:=λvs H Q _=>∃(a:Addr)(ns:List Int),vs=[.ref a]/\Only H/\Jv K H a (ns.map V.int)/\ns.length<=63/\∀H',Q (.bl true) H'
theorem auu(o:Only H)(h:Jv K H a vs):aga K H a vs:=by
 rcases h with(h|h)|h
 . rcases o a with z|⟨ob,xs,z⟩<;>rw[z] at h<;>cases h
 . exact .inl h
 . exact .inr h
theorem auv(run:∀(ns:List Int),ns.length<=63->∃M',W.call i [.fz (ns.map MW.D.int)] []=.ok (.bl true) M')(h:aim K vs H Q E):spF nm W K 1 i vs H Q E:=by obtain⟨a,ns,rfl,o,hS,hl,k⟩:=h;obtain⟨M',e⟩:=run ns hl;refine⟨⟨[],[]⟩,[],_,_,M',⟨rfl,Bt,by simp,λn o a h=>by simp at h⟩,.cons (.fz (auu o hS) (kj.ints ns)) .nil,rfl,e,fun ι' H' v le S' r=>?_⟩;cases r;exact k H'
theorem walk{l:PySem.W.OpenLaw}{K:Params->Fg}(hn:l.most=some 63)(hdf:d.params.defaults=[])(hY:∀(w:World) (h:Heap),YP w h->(K w.params).In h)(F:∀(w:World) (mg:Str->Option Value) (fa:Addr) (h:Heap),(K w.params).In h->h.Ns mainGlobals mg->mg d.name=some (.ref fa) ->
 ∃fd:FuncData,(∀(s:Shared) (u:Value),BindsTo s fd ⟨[u],[]⟩ [("script",u)])/\∀base:Heap,(K w.params).In base->base.Ns mainGlobals mg->Ij l.prog w (K w.params) mg base CX0 170 fa fd ["script"] (aim (K w.params))) :
 PySem.W.WalkO q loose XP YP l.row.toRowW d [] (λf vs=>PySem.call f vs) :=
 L2.arj (n:=63) (k:=170) (x := "script") (CX:=λ_=>CX0) (sp:=λw=>aim (K w.params)) hn (by decide) hdf ⟨rfl,by decide,by decide⟩ hY F (λ_ _ a ns hl ho hS=>⟨a,ns,rfl,ho,hS,hl,λ_=>rfl⟩) λ_ _ _ _ _ z=>z
end Ck
namespace K04
open MW
noncomputable def Ng:m7:=.cons (.expr (.call 9 (.cons (.var 1) (.cons (.var 2) (.nil))))) (.cons (.expr (.call 10 (.cons (.var 2) (.cons (.var 3) (.nil))))) (.cons (.expr (.call 11 (.cons (.var 2) (.cons (.var 3) (.nil))))) (.cons (.asg (.fld (.var 0) 2) (.var 1)) (.cons (.asg (.fld (.var 0) 1) (.var 2)) (.cons (.asg (.fld (.var 0) 0) (.blt .dict (.cons (.var 3) (.nil)))) (.nil))))))
noncomputable def Nh:Fn:=⟨4,4,Ng⟩
noncomputable def Wz:m7:=.cons (.ret (.fld (.var 0) 2)) (.nil)
noncomputable def W0:Fn:=⟨1,1,Wz⟩
noncomputable def Ni:m7:=.cons (.ret (.fld (.var 0) 1)) (.nil)
noncomputable def Nj:Fn:=⟨1,1,Ni⟩
noncomputable def Vx:m7:=.cons (.expr (.call 21 (.cons (.cst (.int 0)) (.nil)))) (.nil)
noncomputable def Vy:Fn:=⟨3,3,Vx⟩
noncomputable def Vz:Ex:=.Gm true 2 (.names [2,3]) (.enm (.fld (.var 0) 1)) (.cmp .eq (.ix (.var 3) (.cst (.int 0))) (.var 1)) (.var 2)
noncomputable def Yq:m7:=.cons (.ret (.bin .amf (.Mv (.cons (.cst (.int (-1))) (.nil))) (Vz))) (.nil)
noncomputable def Yr:Fn:=⟨2,2,Yq⟩
noncomputable def Zk:m7:=.cons (.iff (.cmp .eq (.var 2) (.cst (.int (-1)))) (.cons (.ret (.var 1)) (.nil)) (.nil)) (.cons (.ret (.ix (.ix (.fld (.var 0) 1) (.var 2)) (.cst (.int 1)))) (.nil))
noncomputable def Zm:Fn:=⟨3,3,Zk⟩
noncomputable def Ma:m7:=.cons (.iff (.cmp .eq (.var 1) (.cst (.int (-1)))) (.cons (.ret (.var 2)) (.nil)) (.nil)) (.cons (.iff (.cmp .eq (.var 2) (.cst (.int (-1)))) (.cons (.ret (.var 1)) (.nil)) (.nil)) (.cons (.ret (.ix (.var 0) (.tup (.cons (.var 1) (.cons (.var 2) (.nil)))))) (.nil)))
noncomputable def Mf:Fn:=⟨3,3,Ma⟩
noncomputable def Ca:m7:=.cons (.iff (.cmp .eq (.ix (.var 3) (.cst (.int 1))) (.ix (.var 5) (.cst (.int 0)))) (.cons (.expr (.bm .append (.var 1) (.cons (.tup (.cons (.var 2) (.cons (.var 4) (.nil)))) (.nil)))) (.nil)) (.nil)) (.nil)
noncomputable def Mg:Fl:=.for_ (.names [4,5]) (.enm (.var 0)) Ca
noncomputable def Hr:m7:=.cons (Mg) (.nil)
noncomputable def Mh:Fl:=.for_ (.names [2,3]) (.enm (.var 0)) Hr
noncomputable def O1:m7:=.cons (.asg (.tg (.name 1)) (.lst (.nil))) (.cons (Mh) (.cons (.ret (.var 1)) (.nil)))
noncomputable def O6:Fn:=⟨1,6,O1⟩
noncomputable def Iu:m7:=.cons (.iff (.cmp .eq (.var 1) (.cst (.int (-1)))) (.cons (.ret (.cmp .eq (.var 2) (.var 3))) (.nil)) (.nil)) (.cons (.ret (.and (.chain .le .lt (.cst (.int 0)) (.var 1) (.blt .len (.cons (.var 0) (.nil)))) (.cmp .eq (.ix (.var 0) (.var 1)) (.tup (.cons (.var 2) (.cons (.var 3) (.nil))))))) (.nil))
noncomputable def Iv:Fn:=⟨4,4,Iu⟩
noncomputable def Iw:m7:=.cons (.iff (.not (.and (.chain .le .lt (.cst (.int 0)) (.ix (.var 2) (.cst (.int 0))) (.var 0)) (.chain .le .lt (.cst (.int 0)) (.ix (.var 2) (.cst (.int 1))) (.var 0)))) (.cons (.raise 1 (.cons (.cst (.str (PySem.Str.ofString "a doing is from a kind to a kind"))) (.nil))) (.nil)) (.nil)) (.nil)
noncomputable def Nk:Fl:=.for_ (.name 2) (.val (.var 1)) Iw
noncomputable def Qp:m7:=.cons (.iff (.not (.chain .le .le (.cst (.int 1)) (.var 0) (.cst (.int 3)))) (.cons (.raise 1 (.cons (.cst (.str (PySem.Str.ofString "a pattern has one to three kinds"))) (.nil))) (.nil)) (.nil)) (.cons (.iff (.cmp .gt (.blt .len (.cons (.var 1) (.nil))) (.cst (.int 5))) (.cons (.raise 1 (.cons (.cst (.str (PySem.Str.ofString "a pattern has at most five doings"))) (.nil))) (.nil)) (.nil)) (.cons (Nk) (.nil)))
noncomputable def Qq:Fn:=⟨2,3,Qp⟩
noncomputable def Jy:m7:=.cons (.iff (.not (.call 8 (.cons (.var 0) (.cons (.ix (.var 1) (.tup (.cons (.var 3) (.cons (.var 4) (.nil))))) (.cons (.ix (.ix (.var 0) (.var 3)) (.cst (.int 0))) (.cons (.ix (.ix (.var 0) (.var 4)) (.cst (.int 1))) (.nil))))))) (.cons (.raise 1 (.cons (.cst (.str (PySem.Str.ofString "two doings come to a way of their own ends"))) (.nil))) (.nil)) (.nil)) (.nil)
noncomputable def O7:Fl:=.for_ (.names [3,4]) (.val (.var 2)) Jy
noncomputable def Rz:m7:=.cons (.asg (.tg (.name 2)) (.call 7 (.cons (.var 0) (.nil)))) (.cons (.iff (.Xk (.var 1) (.var 2)) (.cons (.raise 1 (.cons (.cst (.str (PySem.Str.ofString "a table tells of just the pairs of doings that meet"))) (.nil))) (.nil)) (.nil)) (.cons (O7) (.nil)))
noncomputable def R8:Fn:=⟨2,5,Rz⟩
noncomputable def Ft:m7:=.cons (.iff (.cmp .V9 (.tup (.cons (.var 4) (.cons (.var 5) (.nil)))) (.var 1)) (.cons (.cont) (.nil)) (.nil)) (.cons (.asg (.tg (.name 6)) (.call 6 (.cons (.var 1) (.cons (.ix (.var 1) (.tup (.cons (.var 3) (.cons (.var 4) (.nil))))) (.cons (.var 5) (.nil)))))) (.cons (.asg (.tg (.name 7)) (.call 6 (.cons (.var 1) (.cons (.var 3) (.cons (.ix (.var 1) (.tup (.cons (.var 4) (.cons (.var 5) (.nil))))) (.nil)))))) (.cons (.iff (.cmp .ne (.var 6) (.var 7)) (.cons (.raise 1 (.cons (.cst (.str (PySem.Str.ofString "three doings come to one way, however they are taken together"))) (.nil))) (.nil)) (.nil)) (.nil))))
noncomputable def Np:Fl:=.for_ (.name 5) (.Px (.blt .len (.cons (.var 0) (.nil)))) Ft
noncomputable def Iz:m7:=.cons (Np) (.nil)
noncomputable def Nq:Fl:=.for_ (.names [3,4]) (.val (.var 2)) Iz
noncomputable def Qs:m7:=.cons (.asg (.tg (.name 2)) (.call 7 (.cons (.var 0) (.nil)))) (.cons (Nq) (.nil))
noncomputable def Qt:Fn:=⟨2,8,Qs⟩
noncomputable def Kz:m7:=.cons (.iff (.cmp .lt (.var 1) (.blt .len (.cons (.var 0) (.nil)))) (.cons (.ret (.ix (.var 0) (.var 1))) (.nil)) (.nil)) (.cons (.ret (.cst (.int 0))) (.nil))
noncomputable def K1:Fn:=⟨2,2,Kz⟩
noncomputable def Ol:m7:=.cons (.asg (.tg (.name 2)) (.call 12 (.cons (.var 0) (.cons (.var 1) (.nil))))) (.cons (.iff (.cmp .ge (.var 2) (.bin .pow (.cst (.int 10)) (.cst (.int 18)))) (.cons (.ret (.lst (.cons (.bin .sub (.var 2) (.bin .pow (.cst (.int 10)) (.cst (.int 18)))) (.cons (.cst (.bl true)) (.nil))))) (.nil)) (.nil)) (.cons (.ret (.lst (.cons (.bin .mod (.var 2) (.cst (.int 2147483647))) (.cons (.cst (.bl false)) (.nil))))) (.nil)))
noncomputable def Om:Fn:=⟨2,3,Ol⟩
noncomputable def Qu:m7:=.cons (.iff (.ix (.var 0) (.cst (.int 1))) (.cons (.asg (.tg (.name 2)) (.bin .mod (.ix (.var 0) (.cst (.int 0))) (.var 1))) (.cons (.asg (.sub (.var 0) (.cst (.int 0))) (.bin .fdiv (.ix (.var 0) (.cst (.int 0))) (.var 1))) (.cons (.ret (.var 2)) (.nil)))) (.nil)) (.cons (.asg (.sub (.var 0) (.cst (.int 0))) (.bin .mod (.bin .add (.bin .mul (.ix (.var 0) (.cst (.int 0))) (.cst (.int 48271))) (.cst (.int 29))) (.cst (.int 2147483647)))) (.cons (.asg (.tg (.name 3)) (.bin .mod (.bin .add (.bin .add (.bin .mul (.ix (.var 0) (.cst (.int 0))) (.ix (.var 0) (.cst (.int 0)))) (.bin .mul (.cst (.int 39373)) (.ix (.var 0) (.cst (.int 0))))) (.cst (.int 7))) (.cst (.int 2147483629)))) (.cons (.asg (.tg (.name 3)) (.bin .mod (.bin .add (.bin .mul (.var 3) (.var 3)) (.bin .mul (.cst (.int 16807)) (.var 3))) (.cst (.int 2147483587)))) (.cons (.ret (.bin .mod (.bin .fdiv (.var 3) (.cst (.int 8))) (.var 1))) (.nil)))))
noncomputable def Qv:Fn:=⟨2,4,Qu⟩
noncomputable def K3:Ex:=.comp true 1 (.name 12) (.Px (.ix (.var 7) (.var 10))) (.call 14 (.cons (.var 0) (.cons (.ix (.var 7) (.var 11)) (.nil))))
noncomputable def Hs:m7:=.cons (.asg (.tg (.name 10)) (.call 14 (.cons (.var 0) (.cons (.var 6) (.nil))))) (.cons (.asg (.tg (.name 11)) (.call 14 (.cons (.var 0) (.cons (.var 6) (.nil))))) (.cons (.expr (.bm .append (.var 8) (.cons (.tup (.cons (.var 10) (.cons (.var 11) (.cons (.blt .tuple (.cons (K3) (.nil))) (.nil))))) (.nil)))) (.nil)))
noncomputable def K4:Fl:=.for_ (.name 9) (.Px (.call 14 (.cons (.var 0) (.cons (.cst (.int 4)) (.nil))))) Hs
noncomputable def K5:Ex:=.comp true 1 (.name 12) (.Px (.var 6)) (.bin .add (.cst (.int 1)) (.call 14 (.cons (.var 0) (.cons (.cst (.int 3)) (.nil)))))
noncomputable def Oo:m7:=.cons (.asg (.tg (.name 1)) (.call 14 (.cons (.var 0) (.cons (.cst (.int 12)) (.nil))))) (.cons (.iff (.cmp .lt (.var 1) (.cst (.int 7))) (.cons (.asg (.tg (.name 2)) (.Mv (.cons (.tup (.cons (.cst (.int 0)) (.cons (.cst (.int 1)) (.cons (.tup (.cons (.cst (.int 0)) (.cons (.cst (.int 1)) (.nil)))) (.nil))))) (.cons (.tup (.cons (.cst (.int 0)) (.cons (.cst (.int 1)) (.cons (.tup (.cons (.cst (.int 1)) (.cons (.cst (.int 0)) (.nil)))) (.nil))))) (.nil))))) (.cons (.asg (.tg (.name 3)) (.Mv (.cons (.tup (.cons (.cst (.int 0)) (.cons (.cst (.int 1)) (.cons (.tup (.cons (.cst (.int 0)) (.cons (.cst (.int 0)) (.cons (.cst (.int 1)) (.cons (.cst (.int 1)) (.nil)))))) (.nil))))) (.cons (.tup (.cons (.cst (.int 0)) (.cons (.cst (.int 1)) (.cons (.tup (.cons (.cst (.int 0)) (.cons (.cst (.int 1)) (.cons (.cst (.int 0)) (.cons (.cst (.int 1)) (.nil)))))) (.nil))))) (.cons (.tup (.cons (.cst (.int 1)) (.cons (.cst (.int 0)) (.cons (.tup (.cons (.cst (.int 0)) (.cons (.cst (.int 3)) (.nil)))) (.nil))))) (.nil)))))) (.cons (.asg (.tg (.name 4)) (.Mv (.cons (.tup (.cons (.cst (.int 0)) (.cons (.cst (.int 0)) (.cons (.tup (.cons (.cst (.int 1)) (.cons (.cst (.int 0)) (.nil)))) (.nil))))) (.nil)))) (.cons (.asg (.tg (.name 5)) (.Mv (.cons (.var 2) (.cons (.var 3) (.cons (.var 4) (.cons (.Mv (.cons (.tup (.cons (.cst (.int 0)) (.cons (.cst (.int 0)) (.cons (.tup (.cons (.cst (.int 1)) (.cons (.cst (.int 2)) (.cons (.cst (.int 0)) (.nil))))) (.nil))))) (.nil))) (.cons (.Mv (.cons (.tup (.cons (.cst (.int 0)) (.cons (.cst (.int 0)) (.cons (.tup (.cons (.cst (.int 0)) (.cons (.cst (.int 0)) (.nil)))) (.nil))))) (.nil))) (.cons (.Mv (.nil)) (.cons (.Mv (.cons (.tup (.cons (.cst (.int 0)) (.cons (.cst (.int 1)) (.cons (.tup (.cons (.cst (.int 0)) (.cons (.cst (.int 1)) (.nil)))) (.nil))))) (.cons (.tup (.cons (.cst (.int 1)) (.cons (.cst (.int 2)) (.cons (.tup (.cons (.cst (.int 0)) (.cons (.cst (.int 0)) (.cons (.cst (.int 1)) (.nil))))) (.nil))))) (.nil)))) (.nil)))))))))) (.cons (.ret (.ix (.var 5) (.var 1))) (.nil)))))) (.nil)) (.cons (.asg (.tg (.name 6)) (.bin .add (.cst (.int 1)) (.call 14 (.cons (.var 0) (.cons (.cst (.int 3)) (.nil)))))) (.cons (.asg (.tg (.name 7)) (K5)) (.cons (.asg (.tg (.name 8)) (.lst (.nil))) (.cons (K4) (.cons (.ret (.var 8)) (.nil)))))))
noncomputable def Fv:Fn:=⟨1,12,Oo⟩
noncomputable def Jz:Ex:=.comp true 1 (.name 10) (.val (.ix (.var 7) (.cst (.int 2)))) (.ix (.ix (.var 8) (.cst (.int 2))) (.var 10))
noncomputable def Du:m7:=.cons (.asg (.tg (.name 4)) (.tup (.nil))) (.cons (.iff (.cmp .eq (.ix (.var 7) (.cst (.int 1))) (.ix (.var 8) (.cst (.int 0)))) (.cons (.asg (.tg (.name 4)) (.blt .tuple (.cons (Jz) (.nil)))) (.nil)) (.nil)) (.cons (.asg (.tg (.name 9)) (.tup (.cons (.ix (.var 7) (.cst (.int 0))) (.cons (.ix (.var 8) (.cst (.int 1))) (.cons (.var 4) (.nil)))))) (.cons (.iff (.and (.cmp .ne (.var 4) (.tup (.nil))) (.and (.cmp .V9 (.var 9) (.var 1)) (.or (.cmp .ne (.ix (.var 9) (.cst (.int 0))) (.ix (.var 9) (.cst (.int 1)))) (.cmp .ne (.var 4) (.af5 (.blt .len (.cons (.var 4) (.nil)))))))) (.cons (.expr (.bm .append (.var 1) (.cons (.var 9) (.nil)))) (.nil)) (.nil)) (.nil))))
noncomputable def J0:Fl:=.for_ (.names [7,8]) (.val (.Mv (.cons (.tup (.cons (.ix (.var 1) (.var 5)) (.cons (.ix (.var 1) (.var 6)) (.nil)))) (.cons (.tup (.cons (.ix (.var 1) (.var 6)) (.cons (.ix (.var 1) (.var 5)) (.nil)))) (.nil))))) Du
noncomputable def J1:m7:=.cons (J0) (.nil)
noncomputable def J2:Fl:=.for_ (.name 6) (.Px (.blt .len (.cons (.var 1) (.nil)))) J1
noncomputable def O8:m7:=.cons (J2) (.cons (.asg (.tg (.name 5)) (.bin .add (.var 5) (.cst (.int 1)))) (.nil))
noncomputable def J5:Fl:=.whl (.and (.cmp .lt (.var 5) (.blt .len (.cons (.var 1) (.nil)))) (.cmp .lt (.blt .len (.cons (.var 1) (.nil))) (.cst (.int 6)))) O8
noncomputable def yr:m7:=.cons (.iff (.and (.or (.cmp .ne (.var 2) (.var 3)) (.cmp .ne (.var 4) (.af5 (.blt .len (.cons (.var 4) (.nil)))))) (.cmp .V9 (.tup (.cons (.var 2) (.cons (.var 3) (.cons (.var 4) (.nil))))) (.var 1))) (.cons (.expr (.bm .append (.var 1) (.cons (.tup (.cons (.var 2) (.cons (.var 3) (.cons (.var 4) (.nil))))) (.nil)))) (.nil)) (.nil)) (.nil)
noncomputable def J6:Fl:=.for_ (.names [2,3,4]) (.val (.var 0)) yr
noncomputable def R9:m7:=.cons (.asg (.tg (.name 1)) (.lst (.nil))) (.cons (J6) (.cons (.asg (.tg (.name 5)) (.cst (.int 0))) (.cons (J5) (.cons (.ret (.var 1)) (.nil)))))
noncomputable def Sd:Fn:=⟨1,10,R9⟩
noncomputable def Ja:Ex:=.comp true 3 (.names [8,9,10]) (.val (.var 2)) (.tup (.cons (.var 8) (.cons (.var 9) (.nil))))
noncomputable def Jb:Ex:=.comp true 1 (.name 8) (.val (.ix (.ix (.var 2) (.var 5)) (.cst (.int 2)))) (.ix (.ix (.ix (.var 2) (.var 6)) (.cst (.int 2))) (.var 8))
noncomputable def Aq:m7:=.cons (.iff (.cmp .eq (.ix (.ix (.var 2) (.var 5)) (.cst (.int 1))) (.ix (.ix (.var 2) (.var 6)) (.cst (.int 0)))) (.cons (.asg (.tg (.name 7)) (.tup (.cons (.ix (.ix (.var 2) (.var 5)) (.cst (.int 0))) (.cons (.ix (.ix (.var 2) (.var 6)) (.cst (.int 1))) (.cons (.blt .tuple (.cons (Jb) (.nil))) (.nil)))))) (.cons (.asg (.sub (.var 4) (.tup (.cons (.var 5) (.cons (.var 6) (.nil))))) (.ite (.cmp .inn (.var 7) (.var 2)) (.bm .index (.var 2) (.cons (.var 7) (.nil))) (.neg (.cst (.int 1))))) (.nil))) (.nil)) (.nil)
noncomputable def Nr:Fl:=.for_ (.name 6) (.Px (.blt .len (.cons (.var 2) (.nil)))) Aq
noncomputable def Jc:m7:=.cons (Nr) (.nil)
noncomputable def Jd:Fl:=.for_ (.name 5) (.Px (.blt .len (.cons (.var 2) (.nil)))) Jc
noncomputable def Je:Ex:=.comp true 3 (.names [8,9,10]) (.val (.var 2)) (.blt .max (.cons (.var 8) (.cons (.var 9) (.nil))))
noncomputable def Nt:m7:=.cons (.asg (.tg (.name 1)) (.cut (.var 1) (.none) (.some (.neg (.cst (.int 1)))))) (.cons (.asg (.tg (.name 2)) (.call 16 (.cons (.var 1) (.nil)))) (.nil))
noncomputable def Jf:Fl:=.whl (.cmp .gt (.blt .len (.cons (.var 2) (.nil))) (.cst (.int 5))) Nt
noncomputable def Qw:m7:=.cons (.asg (.tg (.name 1)) (.call 15 (.cons (.var 0) (.nil)))) (.cons (.asg (.tg (.name 2)) (.call 16 (.cons (.var 1) (.nil)))) (.cons (Jf) (.cons (.asg (.tg (.name 3)) (.bin .add (.cst (.int 1)) (.blt .max (.cons (.bin .add (Je) (.Mv (.cons (.cst (.int 0)) (.nil)))) (.nil))))) (.cons (.iff (.cmp .eq (.var 2) (.Mv (.nil))) (.cons (.asg (.tg (.name 3)) (.bin .add (.cst (.int 1)) (.call 14 (.cons (.var 0) (.cons (.cst (.int 3)) (.nil)))))) (.nil)) (.nil)) (.cons (.asg (.tg (.name 4)) (.ajo)) (.cons (Jd) (.cons (.ret (.tup (.cons (.var 3) (.cons (.blt .tuple (.cons (Ja) (.nil))) (.cons (.var 4) (.nil)))))) (.nil))))))))
noncomputable def Qx:Fn:=⟨1,8,Qw⟩
noncomputable def Mp:Ex:=.Gm true 1 (.name 2) (.Px (.blt .len (.cons (.ix (.var 0) (.cst (.int 1))) (.nil)))) (.cmp .eq (.ix (.ix (.ix (.var 0) (.cst (.int 1))) (.var 2)) (.cst (.int 0))) (.var 1)) (.var 2)
noncomputable def Wj:m7:=.cons (.ret (.bin .add (.Mv (.cons (.neg (.cst (.int 1))) (.nil))) (Mp))) (.nil)
noncomputable def Wk:Fn:=⟨2,2,Wj⟩
noncomputable def Tq:m7:=.cons (.ret (.ite (.cmp .lt (.var 2) (.cst (.int 0))) (.var 1) (.ix (.ix (.ix (.var 0) (.cst (.int 1))) (.var 2)) (.cst (.int 1))))) (.nil)
noncomputable def Tr:Fn:=⟨3,3,Tq⟩
noncomputable def Jl:m7:=.cons (.iff (.or (.cmp .lt (.var 1) (.cst (.int 0))) (.cmp .lt (.var 2) (.cst (.int 0)))) (.cons (.ret (.bin .add (.bin .add (.var 1) (.var 2)) (.cst (.int 1)))) (.nil)) (.nil)) (.cons (.ret (.ix (.ix (.var 0) (.cst (.int 2))) (.tup (.cons (.var 1) (.cons (.var 2) (.nil)))))) (.nil))
noncomputable def Jm:Fn:=⟨3,3,Jl⟩
noncomputable def aki:m7:=.cons (.pass) (.nil)
noncomputable def akj:Fl:=.whl (.cst (.bl true)) aki
noncomputable def auw:m7:=.cons (akj) (.nil)
noncomputable def auy:Fn:=⟨1,1,auw⟩
noncomputable def apa:m7:=.cons (.iff (.cmp .eq (.var 2) (.cst (.int (-1)))) (.cons (.ret (.var 1)) (.nil)) (.nil)) (.cons (.ret (.ix (.ix (.ix (.var 0) (.cst (.int 1))) (.var 2)) (.var 1))) (.nil))
noncomputable def apb:Fn:=⟨3,3,apa⟩
noncomputable def aew:m7:=.cons (.ret (.blt .sum (.cons (.ix (.var 0) (.cst (.int 0))) (.nil)))) (.nil)
noncomputable def aex:Fn:=⟨1,1,aew⟩
noncomputable def Ht:m7:=.cons (.expr (.bm .append (.var 3) (.cons (.call 25 (.cons (.var 4) (.cons (.ix (.var 2) (.ix (.var 5) (.cst (.int 0)))) (.cons (.ix (.var 2) (.ix (.var 5) (.cst (.int 1)))) (.nil))))) (.nil)))) (.nil)
noncomputable def Qy:Fl:=.for_ (.names [4,5]) (.zip (.ix (.var 1) (.cst (.int 1))) (.meth (.var 0) 1 (.nil))) Ht
noncomputable def Ux:m7:=.cons (.asg (.tg (.name 3)) (.lst (.nil))) (.cons (Qy) (.cons (.ret (.tup (.cons (.ix (.var 1) (.cst (.int 0))) (.cons (.blt .tuple (.cons (.var 3) (.nil))) (.nil))))) (.nil)))
noncomputable def Uy:Fn:=⟨3,6,Ux⟩
noncomputable def Dm:m7:=.cons (.asg (.sub (.var 3) (.ix (.var 1) (.var 4))) (.ix (.var 2) (.var 5))) (.nil)
noncomputable def K6:Fl:=.for_ (.names [4,5]) (.enm (.var 0)) Dm
noncomputable def Nu:m7:=.cons (.asg (.tg (.name 3)) (.blt .list (.cons (.var 0) (.nil)))) (.cons (K6) (.cons (.ret (.blt .tuple (.cons (.var 3) (.nil)))) (.nil)))
noncomputable def Nv:Fn:=⟨3,6,Nu⟩
noncomputable def O9:Ex:=.comp true 1 (.name 13) (.val (.ix (.var 1) (.var 6))) (.ite (.cmp .eq (.var 13) (.var 12)) (.var 11) (.var 13))
noncomputable def Dw:m7:=.cons (.asg (.tg (.name 9)) (.ix (.ix (.var 1) (.var 5)) (.var 8))) (.cons (.asg (.tg (.name 10)) (.ix (.ix (.var 1) (.var 6)) (.ix (.ix (.var 2) (.var 4)) (.var 8)))) (.cons (.iff (.cmp .ne (.bm .get (.var 7) (.cons (.var 9) (.cons (.var 10) (.nil)))) (.var 10)) (.cons (.asg (.tg (.name 11)) (.blt .min (.cons (.ix (.var 7) (.var 9)) (.cons (.var 10) (.nil))))) (.cons (.asg (.tg (.name 12)) (.blt .max (.cons (.ix (.var 7) (.var 9)) (.cons (.var 10) (.nil))))) (.cons (.asg (.sub (.var 1) (.var 6)) (O9)) (.cons (.asg (.tg (.name 3)) (.cst (.bl true))) (.cons (.asg (.tg (.name 7)) (.af4)) (.cons (.brk) (.nil))))))) (.nil)) (.cons (.asg (.sub (.var 7) (.var 9)) (.var 10)) (.nil))))
noncomputable def Pa:Fl:=.for_ (.name 8) (.Px (.blt .len (.cons (.ix (.var 1) (.var 5)) (.nil)))) Dw
noncomputable def G3:m7:=.cons (.asg (.tg (.names [5,6])) (.ix (.ix (.var 0) (.cst (.int 1))) (.var 4))) (.cons (.asg (.tg (.name 7)) (.af4)) (.cons (Pa) (.nil)))
noncomputable def Pb:Fl:=.for_ (.name 4) (.Px (.blt .len (.cons (.ix (.var 0) (.cst (.int 1))) (.nil)))) G3
noncomputable def J7:m7:=.cons (.asg (.tg (.name 3)) (.cst (.bl false))) (.cons (Pb) (.nil))
noncomputable def J8:Fl:=.whl (.var 3) J7
noncomputable def Sg:m7:=.cons (.asg (.tg (.name 3)) (.cst (.bl true))) (.cons (J8) (.cons (.ret (.var 1)) (.nil)))
noncomputable def Sh:Fn:=⟨3,13,Sg⟩
noncomputable def K7:Ex:=.comp true 1 (.name 19) (.val (.var 16)) (.blt .len (.cons (.var 19) (.nil)))
noncomputable def K8:Ex:=.comp true 1 (.name 19) (.val (.var 18)) (.bm .index (.ix (.var 16) (.var 12)) (.cons (.var 19) (.nil)))
noncomputable def K9:Ex:=.comp true 1 (.name 19) (.val (.ix (.var 16) (.var 11))) (.ix (.ix (.var 13) (.var 12)) (.ix (.ix (.var 9) (.var 10)) (.var 19)))
noncomputable def Hu:m7:=.cons (.asg (.tg (.names [11,12])) (.ix (.ix (.var 1) (.cst (.int 1))) (.var 10))) (.cons (.asg (.tg (.name 18)) (K9)) (.cons (.expr (.bm .append (.var 17) (.cons (.blt .tuple (.cons (K8) (.nil))) (.nil)))) (.nil)))
noncomputable def Qz:Fl:=.for_ (.name 10) (.Px (.blt .len (.cons (.ix (.var 1) (.cst (.int 1))) (.nil)))) Hu
noncomputable def La:Ex:=.comp true 1 (.name 19) (.val (.var 13)) (.blt .Jj (.cons (.var 19) (.nil)))
noncomputable def Q0:Ex:=.comp true 1 (.name 19) (.val (.ix (.var 13) (.var 5))) (.ite (.cmp .eq (.var 19) (.var 15)) (.var 14) (.var 19))
noncomputable def Fi:m7:=.cons (.asg (.tg (.name 5)) (.call 14 (.cons (.var 0) (.cons (.ix (.var 1) (.cst (.int 0))) (.nil))))) (.cons (.asg (.tg (.name 11)) (.call 14 (.cons (.var 0) (.cons (.cst (.int 7)) (.nil))))) (.cons (.asg (.tg (.name 12)) (.call 14 (.cons (.var 0) (.cons (.cst (.int 7)) (.nil))))) (.cons (.iff (.cmp .lt (.blt .max (.cons (.var 11) (.cons (.var 12) (.nil)))) (.blt .len (.cons (.ix (.var 13) (.var 5)) (.nil)))) (.cons (.asg (.tg (.name 14)) (.blt .min (.cons (.ix (.ix (.var 13) (.var 5)) (.var 11)) (.cons (.ix (.ix (.var 13) (.var 5)) (.var 12)) (.nil))))) (.cons (.asg (.tg (.name 15)) (.blt .max (.cons (.ix (.ix (.var 13) (.var 5)) (.var 11)) (.cons (.ix (.ix (.var 13) (.var 5)) (.var 12)) (.nil))))) (.cons (.asg (.sub (.var 13) (.var 5)) (Q0)) (.cons (.asg (.tg (.name 13)) (.call 26 (.cons (.var 1) (.cons (.var 13) (.cons (.var 9) (.nil)))))) (.nil))))) (.nil)) (.nil))))
noncomputable def Q3:Fl:=.for_ (.name 10) (.Px (.call 14 (.cons (.var 0) (.cons (.cst (.int 4)) (.nil))))) Fi
noncomputable def Lb:Ex:=.comp false 1 (.name 19) (.val (.var 3)) (.abg (.blt .len (.cons (.var 19) (.nil))))
noncomputable def Ld:Ex:=.comp true 3 (.names [19,20,21]) (.val (.ix (.var 3) (.var 11))) (.bm .index (.ix (.var 3) (.var 12)) (.cons (.tup (.cons (.var 19) (.cons (.var 20) (.cons (.call 20 (.cons (.var 1) (.cons (.var 21) (.cons (.var 10) (.nil))))) (.nil))))) (.nil)))
noncomputable def Lf:m7:=.cons (.asg (.tg (.names [11,12])) (.ix (.ix (.var 1) (.cst (.int 1))) (.var 10))) (.cons (.expr (.bm .append (.var 9) (.cons (Ld) (.nil)))) (.nil))
noncomputable def Q4:Fl:=.for_ (.name 10) (.Px (.blt .len (.cons (.ix (.var 1) (.cst (.int 1))) (.nil)))) Lf
noncomputable def Lg:Ex:=.comp true 1 (.name 19) (.val (.var 3)) (.blt .len (.cons (.var 19) (.nil)))
noncomputable def Hv:m7:=.cons (.expr (.bm .append (.ix (.var 3) (.var 7)) (.cons (.tup (.cons (.var 4) (.cons (.var 5) (.cons (.var 8) (.nil))))) (.nil)))) (.nil)
noncomputable def Q5:Fl:=.for_ (.names [7,8]) (.val (.var 6)) Hv
noncomputable def Lh:Ex:=.comp true 1 (.name 19) (.val (.call 18 (.cons (.var 1) (.cons (.var 5) (.nil))))) (.tup (.cons (.call 19 (.cons (.var 1) (.cons (.var 5) (.cons (.var 19) (.nil))))) (.cons (.var 19) (.nil))))
noncomputable def Fj:m7:=.cons (.asg (.tg (.name 5)) (.call 14 (.cons (.var 0) (.cons (.ix (.var 1) (.cst (.int 0))) (.nil))))) (.cons (.asg (.tg (.name 6)) (Lh)) (.cons (.iff (.cmp .lt (.bin .add (.blt .max (.cons (Lg) (.nil))) (.blt .len (.cons (.var 6) (.nil)))) (.cst (.int 8))) (.cons (Q5) (.nil)) (.nil)) (.nil)))
noncomputable def Q6:Fl:=.for_ (.name 4) (.Px (.call 14 (.cons (.var 0) (.cons (.bin .add (.var 2) (.cst (.int 1))) (.nil))))) Fj
noncomputable def Pg:Ex:=.comp true 1 (.name 19) (.Px (.ix (.var 1) (.cst (.int 0)))) (.lst (.nil))
noncomputable def Uz:m7:=.cons (.asg (.tg (.name 3)) (Pg)) (.cons (Q6) (.cons (.asg (.tg (.name 9)) (.lst (.nil))) (.cons (Q4) (.cons (.asg (.tg (.name 13)) (Lb)) (.cons (Q3) (.cons (.asg (.tg (.name 16)) (La)) (.cons (.asg (.tg (.name 17)) (.lst (.nil))) (.cons (Qz) (.cons (.ret (.tup (.cons (.blt .tuple (.cons (K7) (.nil))) (.cons (.blt .tuple (.cons (.var 17) (.nil))) (.nil))))) (.nil))))))))))
noncomputable def U0:Fn:=⟨3,19,Uz⟩
noncomputable def Tt:m7:=.cons (.ret (.ite (.cmp .lt (.var 2) (.cst (.int 0))) (.var 1) (.ix (.ix (.ix (.var 0) (.cst (.int 1))) (.var 2)) (.var 1)))) (.nil)
noncomputable def Tu:Fn:=⟨3,3,Tt⟩
noncomputable def J9:Ex:=.comp true 1 (.name 5) (.Px (.var 3)) (.bm .pop (.var 4) (.cons (.call 14 (.cons (.var 0) (.cons (.blt .len (.cons (.var 4) (.nil))) (.nil)))) (.nil)))
noncomputable def G4:m7:=.cons (.asg (.tg (.name 4)) (.abg (.var 3))) (.cons (.expr (.bm .append (.var 2) (.cons (.blt .tuple (.cons (J9) (.nil))) (.nil)))) (.nil))
noncomputable def Ph:Fl:=.for_ (.name 3) (.val (.ix (.var 1) (.cst (.int 0)))) G4
noncomputable def Sq:m7:=.cons (.asg (.tg (.name 2)) (.lst (.nil))) (.cons (Ph) (.cons (.ret (.blt .tuple (.cons (.var 2) (.nil)))) (.nil)))
noncomputable def Ss:Fn:=⟨2,5,Sq⟩
noncomputable def Ka:m7:=.cons (.asg (.tg (.name 9)) (.bm .N8 (.ix (.var 2) (.var 5)) (.cons (.var 8) (.nil)))) (.cons (.expr (.bm .append (.var 7) (.cons (.ix (.ix (.var 2) (.var 6)) (.ix (.ix (.ix (.var 1) (.cst (.int 1))) (.var 4)) (.var 9))) (.nil)))) (.nil))
noncomputable def Pj:Fl:=.for_ (.name 8) (.Px (.ix (.ix (.var 1) (.cst (.int 0))) (.var 5))) Ka
noncomputable def Kc:m7:=.cons (.asg (.tg (.names [5,6])) (.ix (.ix (.var 0) (.cst (.int 1))) (.var 4))) (.cons (.asg (.tg (.name 7)) (.lst (.nil))) (.cons (Pj) (.cons (.expr (.bm .append (.var 3) (.cons (.blt .tuple (.cons (.var 7) (.nil))) (.nil)))) (.nil))))
noncomputable def Pk:Fl:=.for_ (.name 4) (.Px (.blt .len (.cons (.ix (.var 0) (.cst (.int 1))) (.nil)))) Kc
noncomputable def Su:m7:=.cons (.asg (.tg (.name 3)) (.lst (.nil))) (.cons (Pk) (.cons (.ret (.tup (.cons (.ix (.var 1) (.cst (.int 0))) (.cons (.blt .tuple (.cons (.var 3) (.nil))) (.nil))))) (.nil)))
noncomputable def Sv:Fn:=⟨3,10,Su⟩
noncomputable def U3:m7:=.cons (.ret (.and (.blt .isInt (.cons (.var 0) .nil)) (.not (.blt .isBool (.cons (.var 0) .nil))))) (.nil)
noncomputable def U4:Fn:=⟨1,1,U3⟩
noncomputable def Mq:m7:=.cons (.iff (.cmp .ne (.call 22 (.cons (.var 2) (.cons (.var 6) (.cons (.var 5) (.nil))))) (.call 28 (.cons (.var 2) (.cons (.var 6) (.cons (.var 5) (.nil)))))) (.cons (.ret (.cst (.bl false))) (.nil)) (.nil)) (.nil)
noncomputable def Sw:Fl:=.for_ (.name 6) (.Px (.ix (.ix (.var 2) (.cst (.int 0))) (.var 4))) Mq
noncomputable def Mr:m7:=.cons (Sw) (.nil)
noncomputable def Sx:Fl:=.for_ (.name 5) (.val (.call 18 (.cons (.var 1) (.cons (.var 4) (.nil))))) Mr
noncomputable def Ms:m7:=.cons (Sx) (.nil)
noncomputable def Sy:Fl:=.for_ (.name 4) (.Px (.ix (.var 1) (.cst (.int 0)))) Ms
noncomputable def Wl:m7:=.cons (.asg (.tg (.name 3)) (.call 23 (.cons (.var 2) (.nil)))) (.cons (.iff (.or (.not (.call 31 (.cons (.var 3) (.nil)))) (.cmp .ne (.var 3) (.blt .sum (.cons (.ix (.var 2) (.cst (.int 0))) (.nil))))) (.cons (.ret (.cst (.bl false))) (.nil)) (.nil)) (.cons (Sy) (.cons (.ret (.cst (.bl true))) (.nil))))
noncomputable def Wm:Fn:=⟨3,7,Wl⟩
noncomputable def acd:Ex:=.Gm true 1 (.name 8) (.val (.ix (.var 7) (.cst (.int 1)))) (.not (.blt .isTuple (.cons (.var 8) .nil))) (.var 8)
noncomputable def ace:m7:=.cons (.asg (.tg (.name 5)) (.call 27 (.cons (.var 1) (.cons (.var 2) (.cons (.cst (.int 4)) (.nil)))))) (.cons (.asg (.tg (.name 6)) (.call 29 (.cons (.var 1) (.cons (.var 5) (.nil))))) (.cons (.iff (.not (.call 32 (.cons (.var 3) (.cons (.var 2) (.cons (.var 5) (.nil)))))) (.cons (.ret (.cst (.bl false))) (.nil)) (.nil)) (.cons (.asg (.tg (.name 7)) (.call 24 (.cons (.var 3) (.cons (.var 5) (.cons (.var 6) (.nil)))))) (.cons (.iff (.or (.cmp .ne (.var 7) (.call 30 (.cons (.var 2) (.cons (.var 5) (.cons (.var 6) (.nil)))))) (.not (.blt .isTuple (.cons (.ix (.var 7) (.cst (.int 0))) .nil)))) (.cons (.ret (.cst (.bl false))) (.nil)) (.nil)) (.cons (.iff (.or (.not (.blt .isTuple (.cons (.ix (.var 7) (.cst (.int 1))) .nil))) (.cmp .ne (acd) (.Mv (.nil)))) (.cons (.ret (.cst (.bl false))) (.nil)) (.nil)) (.nil))))))
noncomputable def aio:Fl:=.for_ (.name 4) (.Px (.cst (.int 2))) ace
noncomputable def awg:m7:=.cons (.asg (.tg (.name 1)) (.call 13 (.cons (.var 0) (.cons (.cst (.int 0)) (.nil))))) (.cons (.asg (.tg (.name 2)) (.call 17 (.cons (.var 1) (.nil)))) (.cons (.asg (.tg (.name 3)) (.make 2 (.cons (.ix (.var 2) (.cst (.int 0))) (.cons (.ix (.var 2) (.cst (.int 1))) (.cons (.ix (.var 2) (.cst (.int 2))) (.nil)))))) (.cons (aio) (.cons (.ret (.cst (.bl true))) (.nil)))))
noncomputable def apc:Fn:=⟨1,8,awg⟩
noncomputable def prog:Prog:=⟨[Nh,W0,Nj,Vy,Yr,Zm,Mf,O6,Iv,Qq,R8,Qt,K1,Om,Qv,Fv,Sd,Qx,Wk,Tr,Jm,auy,apb,aex,Uy,Nv,Sh,U0,Tu,Ss,Sv,U4,Wm,apc],[⟨0,[]⟩,⟨0,[]⟩,⟨0,[(0,1),(1,2),(2,3),(3,4),(4,5)]⟩]⟩
open PySem L2
noncomputable def top(i:Nat):Stmt:=PySem.Challenge.pw_mapwright_k04_things_led_and_renumbered.main.body.getD i (.Pass ⟨0,0,0,0⟩)
noncomputable def sts:List Stmt:=[inClass (top 8) 0,inClass (top 8) 1,inClass (top 8) 2,inClass (top 8) 3,inClass (top 8) 4,inClass (top 8) 5,top 9,top 10,top 11,top 12,top 13,top 14,top 21,top 22,top 23,top 24,top 25,top 26,top 27,top 28,top 29,top 0,top 16,top 17,top 18,top 19,top 30,top 31,top 32,top 33,top 34,top 35,top 36,top 37]
noncomputable def Ds:List Ck.Def:=[⟨"__init__", "Pattern.__init__",["self", "kinds", "doings", "table"],["self", "kinds", "doings", "table"]⟩,⟨"kinds", "Pattern.kinds",["self"],["self"]⟩,⟨"doings", "Pattern.doings",["self"],["self"]⟩,⟨"behind", "Pattern.behind",["self", "one", "other"],["self", "one", "other"]⟩,⟨"ways", "Pattern.ways",["self", "kind"],["self", "kind"]⟩,⟨"end", "Pattern.end",["self", "kind", "way"],["self", "kind", "way"]⟩,⟨"both_ways", "both_ways",["table", "one", "other"],["table", "one", "other"]⟩,⟨"meeting_pairs", "meeting_pairs",["doings", "pairs", "one", "ends", "other", "more"],["doings"]⟩,⟨"is_way_between", "is_way_between",["doings", "way", "start", "goal"],["doings", "way", "start", "goal"]⟩,⟨"check_doings", "check_doings",["kinds", "doings", "ends"],["kinds", "doings"]⟩,⟨"check_table", "check_table",["doings", "table", "pairs", "one", "other"],["doings", "table"]⟩,⟨"check_threes", "check_threes",["doings", "table", "pairs", "one", "other", "last", "ahead", "after"],["doings", "table"]⟩,⟨"_law_cell_at", "_law_cell_at",["script", "k"],["script", "k"]⟩,⟨"_law_state", "_law_state",["script", "k", "cell"],["script", "k"]⟩,⟨"_law_take", "_law_take",["state", "many", "found", "mixed"],["state", "many"]⟩,⟨"_law_begun", "_law_begun",["state", "way", "graph", "loops", "swap", "known", "kinds", "sizes", "found", "k", "one", "other"],["state"]⟩,⟨"_law_closed", "_law_closed",["begun", "found", "one", "other", "row", "k", "j", "first", "second", "more"],["begun"]⟩,⟨"_law_pattern", "_law_pattern",["state", "begun", "closed", "kinds", "table", "j", "k", "more"],["state"]⟩,⟨"_law_ways", "_law_ways",["pat", "kind"],["pat", "kind"]⟩,⟨"_law_end", "_law_end",["pat", "kind", "way"],["pat", "kind", "way"]⟩,⟨"_law_behind", "_law_behind",["pat", "one", "other"],["pat", "one", "other"]⟩,⟨"_wall", "_wall",["k"],["k"]⟩,⟨"led", "led",["world", "thing", "way"],["world", "thing", "way"]⟩,⟨"things", "things",["world"],["world"]⟩,⟨"renumbered", "renumbered",["pattern", "world", "orders", "acts", "act", "ends"],["pattern", "world", "orders"]⟩,⟨"renumbered_act", "renumbered_act",["act", "here", "there", "fresh", "thing", "goal"],["act", "here", "there"]⟩,⟨"_law_merged", "_law_merged",["pat", "marks", "acts", "changed", "k", "one", "other", "first", "thing", "mark", "end", "low", "high"],["pat", "marks", "acts"]⟩,⟨"_law_world", "_law_world",["state", "pat", "most", "rows", "number", "kind", "some", "end", "way", "acts", "k", "one", "other", "marks", "low", "high", "heads", "told", "row"],["state", "pat", "most"]⟩,⟨"_law_led", "_law_led",["world", "thing", "way"],["world", "thing", "way"]⟩,⟨"_law_orders", "_law_orders",["state", "world", "found", "size", "left"],["state", "world"]⟩,⟨"_law_turned", "_law_turned",["pat", "world", "orders", "acts", "k", "one", "other", "row", "thing", "old"],["pat", "world", "orders"]⟩,⟨"_law_whole", "_law_whole",["found"],["found"]⟩,⟨"_law_told", "_law_told",["pattern", "pat", "world", "count", "kind", "way", "thing"],["pattern", "pat", "world"]⟩,⟨"law", "law",["script", "state", "pat", "pattern", "k", "world", "orders", "found"],["script"]⟩]
noncomputable def tab:Ck.Tab:=⟨[none,none,none,none,none,none,(some ("both_ways",3):Option (Str×Nat)),(some ("meeting_pairs",1):Option (Str×Nat)),(some ("is_way_between",4):Option (Str×Nat)),(some ("check_doings",2):Option (Str×Nat)),(some ("check_table",2):Option (Str×Nat)),(some ("check_threes",2):Option (Str×Nat)),(some ("_law_cell_at",2):Option (Str×Nat)),(some ("_law_state",2):Option (Str×Nat)),(some ("_law_take",2):Option (Str×Nat)),(some ("_law_begun",1):Option (Str×Nat)),(some ("_law_closed",1):Option (Str×Nat)),(some ("_law_pattern",1):Option (Str×Nat)),(some ("_law_ways",2):Option (Str×Nat)),(some ("_law_end",3):Option (Str×Nat)),(some ("_law_behind",3):Option (Str×Nat)),(some ("_wall",1):Option (Str×Nat)),(some ("led",3):Option (Str×Nat)),(some ("things",1):Option (Str×Nat)),(some ("renumbered",3):Option (Str×Nat)),(some ("renumbered_act",3):Option (Str×Nat)),(some ("_law_merged",3):Option (Str×Nat)),(some ("_law_world",3):Option (Str×Nat)),(some ("_law_led",3):Option (Str×Nat)),(some ("_law_orders",2):Option (Str×Nat)),(some ("_law_turned",3):Option (Str×Nat)),(some ("_law_whole",1):Option (Str×Nat)),(some ("_law_told",3):Option (Str×Nat)),(some ("law",1):Option (Str×Nat))],[none,none,some ("Pattern",3)],[("kinds",0),("doings",0),("behind",2),("ways",1),("end",2)],["together", "doing_ends", "kind_count"],[("STAYING",-1),("MOST_KINDS",3),("MOST_DOINGS",5)]⟩
noncomputable def mcs:List (Nat×Nat):=[(2,1),(2,2),(2,3),(2,4),(2,5)]
theorem chk:Ck.aev tab prog.fns Ds sts=true:=by decide+kernel
theorem ba3:Ck.ao6 tab.Tj=true:=by decide+kernel
theorem ba4:Ck.tfB prog.fns tab.fns=true:=by decide+kernel
theorem ba5:Ck.tcB prog tab.cls=true:=by decide+kernel
theorem ba6:Ck.tmB prog tab mcs=true:=by decide+kernel
end K04
namespace MW
theorem acf{fin:Store->Bool}{item:Nat->Store->Option D}{body:D->Env->Store->Res (Flow×Env)}(I:Nat->Env->Store->Prop){n:Nat}
 (step:∀i ρ M,i<n->I i ρ M->∃d fl ρ' M',item i M=some d/\body d ρ M=.ok (fl,ρ') M'/\(fl=.next\/fl=.cont)/\I (i+1) ρ' M') (hfin:∀ρ M,I n ρ M->fin M=true) :
 ∀(k i:Nat)(ρ:Env)(M:Store),i+k=n->I i ρ M->∃ρ' M',Gf fin item body k i ρ M=.ok (.next,ρ') M'/\I n ρ' M'
 |0,i,ρ,M,e,h=>by
  have q:i=n:=by lia
  rw[q] at h;exact⟨ρ,M,by simp[Gf,hfin ρ M h],h⟩
 |k+1,i,ρ,M,e,h=>by
  obtain⟨d,fl,ρ1,M1,h1,h2,h3,h4⟩:=step i ρ M (by lia) h;obtain⟨ρ2,M2,g1,g2⟩:=acf I step hfin k (i+1) ρ1 M1 (by lia) h4;refine⟨ρ2,M2,?_,g2⟩;rcases h3 with rfl|rfl<;>simp[Gf,h1,h2,g1]
theorem U5(I:Nat->Env->Store->Prop)(h0:I 0 ρ M)(step:∀i d ρ M,ds[i]?=some d->I i ρ M->∃fl ρ' M',body d ρ M=.ok (fl,ρ') M'/\(fl=.next\/fl=.cont)/\I (i+1) ρ' M') :
 ∃ρ' M',Gf (Src.con ds).fin (Src.con ds).item body (Src.con ds).len 0 ρ M=.ok (.next,ρ') M'/\I ds.length ρ' M':=by
 refine acf I (λi ρ M hi h=>?_) (λ_ _ _=>rfl) ds.length 0 ρ M (vg _) h0;obtain⟨fl,ρ',M',a,b,c⟩:=step i ds[i] ρ M (by simp[hi]) h;exact⟨ds[i],fl,ρ',M',by simp[Src.item,hi],a,b,c⟩
theorem acg(I:Nat->Env->Store->Prop)(h0:I 0 ρ M)(step:∀i ρ M,i<n->I i ρ M->∃fl ρ' M',body (.int i) ρ M=.ok (fl,ρ') M'/\(fl=.next\/fl=.cont)/\I (i+1) ρ' M') :
 ∃ρ' M',Gf (Src.con ((List.range n).map λ(k:Nat)=>D.int (k:Int))).fin (Src.con ((List.range n).map λ(k:Nat)=>D.int (k:Int))).item body (Src.con ((List.range n).map λ(k:Nat)=>D.int (k:Int))).len 0 ρ M=.ok (.next,ρ') M'/\I n ρ' M':=by
 have:=U5 (ds:=(List.range n).map λ(k:Nat)=>D.int (k:Int)) (body:=body) I h0 (λi d ρ M hd h=>by
  have hi:i<n:=by have:=(ak.mp hd).1;simpa using this
  rw[jk,yf hi] at hd;have hd:D.int (i:Int)=d:=by simpa using hd
  subst hd;exact step i ρ M hi h)
 simpa using this
theorem apd(I:Nat->Env->Store->Prop)(h0:I 0 ρ M)(stay:∀i ρ M,I i ρ M->M[p]?=some (.lst ds))(step:∀i d ρ M,ds[i]?=some d->I i ρ M->∃fl ρ' M',body d ρ M=.ok (fl,ρ') M'/\(fl=.next\/fl=.cont)/\I (i+1) ρ' M') :
 ∃ρ' M',Gf (Src.live p ds.length).fin (Src.live p ds.length).item body (Src.live p ds.length).len 0 ρ M=.ok (.next,ρ') M'/\I ds.length ρ' M':=by
 refine acf I (λi ρ M hi h=>?_) (fun ρ M h=>by simp[Src.fin,stay _ ρ M h]) ds.length 0 ρ M (vg _) h0;obtain⟨fl,ρ',M',a,b,c⟩:=step i ds[i] ρ M (by simp[hi]) h;exact⟨ds[i],fl,ρ',M',by simp[Src.item,stay i ρ M h,hi],a,b,c⟩
theorem Nx{fin:Store->Bool}{item:Nat->Store->Option D}{body:D->Store->Res (Option D)}(I:Nat->List D->Store->Prop){n:Nat}
 (step:∀i xs M,i<n->I i xs M->∃d o M',item i M=some d/\body d M=.ok o M'/\I (i+1) (xs++o.toList) M') (hfin:∀xs M,I n xs M->fin M=true) :
 ∀(k i:Nat)(xs:List D)(M:Store),i+k=n->I i xs M->∃ys M',Gn fin item body k i M=.ok ys M'/\I n (xs++ys) M'
 |0,i,xs,M,e,h=>by
  have q:i=n:=by lia
  rw[q] at h;exact⟨[],M,by simp[Gn,hfin xs M h],by simpa using h⟩
 |k+1,i,xs,M,e,h=>by
  obtain⟨d,o,M1,h1,h2,h3⟩:=step i xs M (by lia) h;obtain⟨ys,M2,g1,g2⟩:=Nx I step hfin k (i+1) (xs++o.toList) M1 (by lia) h3;refine⟨o.toList++ys,M2,?_,by rw[<- w6];exact g2⟩;cases o<;>simp[Gn,h1,h2,g1]
theorem V0{s:Src}{ds:List D}(hfin:s.fin M=true)(hl:s.len=ds.length)(hi:∀i,i<ds.length->s.item i M=ds[i]?)(h:∀d∈ds,body d M=.ok (g d) M) :
 Gn s.fin s.item body s.len 0 M=.ok (ds.filterMap g) M:=by
 obtain⟨ys,M',e,h1,h2⟩:=Nx (fin:=s.fin) (item:=s.item) (body:=body) (λi xs M'=>M'=M/\xs=(ds.take i).filterMap g) (n:=ds.length) (λi xs M' hlt hI=>by
  obtain⟨rfl,rfl⟩:=hI;refine⟨ds[i],g ds[i],M',by rw[hi i hlt];simp[hlt],h _ (q9 hlt),rfl,?_⟩;rw[Hh,List.filterMap_append];simp[hlt];cases e:g ds[i]<;>simp[e]) (λxs M' h=>by rw[h.1];exact hfin) ds.length 0 [] M (vg _) ⟨rfl,rfl⟩
 rw[hl,e,h1];simp at h2;rw[h2]
theorem ape(h:∀d∈ds,body d M=.ok (some (g d)) M) :
 Gn (Src.con ds).fin (Src.con ds).item body (Src.con ds).len 0 M=.ok (ds.map g) M:=by
 rw[V0 (s:=.con ds) (ds:=ds) (g:=λd=>some (g d)) rfl rfl (λi _=>rfl) h,Fw]
end MW
namespace MW
theorem Rj{c:Env->Store->Res D}{body:Env->Store->Res (Flow×Env)}(I:Nat->Env->Store->Prop)(V1:Env->Store->Prop)
 (step:∀m ρ M,I m ρ M->(∃M1,c ρ M=.ok (.bl false) M1/\V1 ρ M1) \/
  ∃M1 fl ρ' M2 m',c ρ M=.ok (.bl true) M1/\body ρ M1=.ok (fl,ρ') M2/\(fl=.next\/fl=.cont)/\m'<m/\I m' ρ' M2) :
 ∀(k m:Nat)(ρ:Env)(M:Store),m<k->I m ρ M->∃ρ' M',Jk c body k ρ M=.ok (.next,ρ') M'/\V1 ρ' M'
 |0,m,_,_,h,_=>absurd h (wy _)
 |k+1,m,ρ,M,h,hI=>by
  rcases step m ρ M hI with⟨M1,h1,h2⟩|⟨M1,fl,ρ1,M2,m',h1,h2,h3,h4,h5⟩
  . exact⟨ρ,M1,by simp[Jk,h1],h2⟩
  . obtain⟨ρ3,M3,g1,g2⟩:=Rj I V1 step k m' ρ1 M2 (b_ h4 (z_ h)) h5
    refine⟨ρ3,M3,?_,g2⟩;rcases h3 with rfl|rfl<;>simp[Jk,h1,h2,g1]
end MW
namespace MW
noncomputable def Bd(M M':Store):Prop:=∀(a:Nat)(o:MO),M[a]?=some o->M'[a]?=some o
theorem Bd.refl(M:Store):Bd M M:=λ_ _ h=>h
theorem Bd.trans(a:Bd M M1)(b:Bd M1 M2):Bd M M2:=λx o h=>b x o (a x o h)
theorem Bd.app(M X:Store):Bd M (M++X):=λ_ _ h=>vq h
theorem Bd.len(k:Bd M M'):M.length<=M'.length:=by
 rcases Ef M.length with h|h
 . exact a_ (f_ h) (jr _)
 . have:=v5 (k (M.length-1) M[M.length-1] (by simp))
   lia
theorem Bd.asList(k:Bd M M')(h:asList M d=some ds):MW.asList M' d=some ds:=by
 cases d with
 |vl xs=>exact h
 |ref n =>
  simp only[MW.asList] at h ⊢;cases e:M[n]? with
  |none=>rw[e] at h;simp at h|some o=>rw[e] at h;rw[k n o e];exact h
 |_=>simp[MW.asList] at h
theorem Ys(I:Nat->Env->Store->Prop)(hd:asList M d=some ds)(h0:I 0 ρ M)(stay:∀i ρ M,I i ρ M->asList M d=some ds)(step:∀i x ρ M,ds[i]?=some x->I i ρ M->∃fl ρ' M',body x ρ M=.ok (fl,ρ') M'/\(fl=.next\/fl=.cont)/\I (i+1) ρ' M') :
 ∃s,srcOf M d=some s/\∃ρ' M',Gf s.fin s.item body s.len 0 ρ M=.ok (.next,ρ') M'/\I ds.length ρ' M':=by
 cases d with
 |vl xs=>simp[asList] at hd;subst hd;exact⟨_,rfl,U5 I h0 step⟩
 |ref n =>
  cases e:M[n]? with
  |none=>simp[asList,e] at hd
  |some o =>
   cases o with
   |lst xs =>
    simp[asList,e] at hd;subst hd;refine⟨.live n xs.length,by simp[srcOf,e],apd I h0 (λi ρ M h=>?_) step⟩;have:=stay i ρ M h;simp only[asList] at this;split at this<;>simp_all
   |_=>simp[asList,e] at hd
 |_=>simp[asList] at hd
theorem aip(hl:ds.length<=100000)(h:∀d∈ds,body d M=.ok (some (g d)) M):Al (.con ds) body M=.ok (ds.map g) M:=by rw[Al,cu (show(Src.con ds).len<=100000 from hl)];exact ape h
theorem Yt(hl:ds.length<=100000)(h:∀d∈ds,body d M=.ok (g d) M):Al (.con ds) body M=.ok (ds.filterMap g) M:=by rw[Al,cu (show(Src.con ds).len<=100000 from hl)];exact V0 (s:=.con ds) rfl rfl (λ_ _=>rfl) h
theorem aey(hd:asList M d=some ds)(hl:ds.length<=100000)(h:∀x∈ds,body x M=.ok (g x) M) :
 ∃s,srcOf M d=some s/\Al s body M=.ok (ds.filterMap g) M:=by
 cases d with
 |vl xs=>simp[asList] at hd;subst hd;exact⟨_,rfl,Yt hl h⟩
 |ref n =>
  cases e:M[n]? with
  |none=>simp[asList,e] at hd
  |some o =>
   cases o with
   |lst xs =>
    simp[asList,e] at hd;subst hd;exact⟨.live n xs.length,by simp[srcOf,e],by rw[Al,cu (show(Src.live n xs.length).len<=100000 from hl)];exact V0 (s:=.live n xs.length) (by simp[Src.fin,e]) rfl (λi _=>by simp[Src.item,e]) h⟩
   |_=>simp[asList,e] at hd
 |_=>simp[asList] at hd
end MW
namespace K04
open MW
set_option genInjectivity true in
structure F where
 a:Nat
 b:Nat
 r:List Nat
 deriving DecidableEq
noncomputable def nD(x:Nat):D:=.int (x:Int)
noncomputable def Hw(r:List Nat):D:=.tup (r.map nD)
noncomputable def F.toD(f:F):D:=.tup [.int f.a,.int f.b,Hw f.r]
theorem aiq(x y:Nat):decide ((x:Int)=(y:Int))=decide (x=y):=by
 by_cases h:x=y
 . simp[h]
 . have:¬((x:Int)=(y:Int)):=by lia
   simp[h,this]
theorem Mi(M:Store)(n x y:Nat):Hd M (n+1) (.int x) (.int y)=some (decide (x=y)):=by rw[ahr,aiq]
theorem ach(M:Store)(n:Nat):∀r s:List Nat,Ov (Hd M (n+1)) (r.map nD) (s.map nD)=some (decide (r=s))
 |[],[]=>by simp[Ov]|[],_::_=>by simp[Ov]|_::_,[]=>by simp[Ov]
 |x::r,y::s=>by
  rw[gq,gq,Dt (a:=nD x) (b:=nD y) (Mi M n x y) (ach M n r s)]
  by_cases h:x=y<;>simp[h]
theorem agv(M:Store)(r s:List Nat):xx M (Hw r) (Hw s)=some (decide (r=s)):=ach M 4 r s
theorem ba7(M:Store)(f g:F):xx M f.toD g.toD=some (decide (f=g)):=by obtain⟨a,b,r⟩:=f;obtain⟨c,d,s⟩:=g;have e:Hd M 5 (Hw r) (Hw s)=some (decide (r=s)):=ach M 3 r s;show Ov (Hd M 5) [.int a,.int b,Hw r] [.int c,.int d,Hw s]=_;rw[Dt (Mi M 4 a c) (Dt (Mi M 4 b d) (Dt e (show Ov (Hd M 5) [] []=some true from rfl)))];simp
theorem apf(M:Store)(g:F):∀fs:List F,Rq M g.toD (fs.map F.toD)=some (fs.map λf=>decide (f=g))
 |[]=>rfl|f::fs=>by simp only[gq,Rq,ba7,apf M g fs]
theorem apg(M:Store)(g:F)(fs:List F):memD M g.toD (fs.map F.toD)=some (decide (g∈fs)):=by
 rw[memD,apf,wz]
 congr 1
 induction fs with
 |nil=>simp
 |cons f fs ih =>
  by_cases h:f=g
  . simp[h]
  . simp only[gq,Cr,ih,bw,id]
    simp[h,jz h]
noncomputable def pos(g:F):List F->Nat
 |[]=>0|f::fs=>if f=g then 0 else pos g fs+1
theorem a6l(M:Store)(g:F)(fs:List F):Ua M g.toD (fs.map F.toD)=if g∈fs then some (pos g fs) else none:=by
 rw[Ua,apf,pq]
 induction fs with
 |nil=>simp
 |cons f fs ih =>
  rw[gq,Ec,ih,pos]
  by_cases h:f=g
  . simp[h]
  . by_cases h2:g∈fs<;>simp[h,jz h,h2]
theorem aci(g:F):∀{fs:List F},g∈fs->fs[pos g fs]?=some g
 |f::fs,h=>by
  by_cases e:f=g
  . simp[pos,e]
  . have:g∈fs:=by
     rcases bw.mp h with q|q
     . exact absurd q.symm e
     . exact q
    simp[pos,e,aci g this]
theorem agw(nd:fs.Nodup)(h:fs[i]?=some f):pos f fs=i:=by have m:f∈fs:=az h;have g:=aci f m;obtain⟨l1,e1⟩:=ak.mp h;obtain⟨l2,e2⟩:=ak.mp g;exact(qz nd).mp (e2.trans e1.symm)
noncomputable def F.comp(f g:F):F:=⟨f.a,g.b,f.r.map λx=>g.r.getD x 0⟩
noncomputable def F.Tv(f:F):Prop:=f.a=f.b/\f.r=List.range f.r.length
instance (f:F):Decidable f.Tv:=inferInstanceAs (Decidable (_/\_))
structure Zc(sz:Nat->Nat)(f:F):Prop where
 a:f.a<3
 b:f.b<3
 len:f.r.length=sz f.a
 ran:∀x∈f.r,x<sz f.b
noncomputable def Sz(sz:Nat->Nat):Prop:=∀k,1<=sz k/\sz k<=4
noncomputable def Good(sz:Nat->Nat)(fs:List F):Prop:=∀f∈fs,Zc sz f
theorem getD_mem{r:List Nat}(h:x<r.length):r.getD x 0∈r:=by rw[dh,cz h];exact q9 h
theorem Zc.comp(hf:Zc sz f)(hg:Zc sz g)(h:f.b=g.a):Zc sz (f.comp g):=by
 refine⟨hf.a,hg.b,by simp[F.comp,hf.len],λx hx=>?_⟩;obtain⟨y,hy,rfl⟩:=bu.mp hx;have:y<g.r.length:=by rw[hg.len,<- h];exact hf.ran y hy
 exact hg.ran _ (getD_mem this)
theorem aez(r:List Nat):(List.range r.length).map (λx=>r.getD x 0)=r:=by
 apply Bs;intro i
 by_cases h:i<r.length
 . simp[h,yf h]
 . simp[Gj h,qm]
theorem agx(hf:Zc sz f)(hg:Zc sz g)(e1:f.b=g.a):(f.comp g).comp h=f.comp (g.comp h):=by
 simp only[F.comp,Ad,F.mk.injEq,true_and];apply qi;intro x hx;have:x<g.r.length:=by rw[hg.len,<- e1];exact hf.ran x hx
 simp[this]
noncomputable def idF(sz:Nat->Nat)(k:Nat):F:=⟨k,k,List.range (sz k)⟩
theorem acj(hf:Zc sz f)(h:f.Tv):f=idF sz f.a:=by obtain⟨a,b,r⟩:=f;obtain⟨h1,h2⟩:=h;have:=hf.len;simp only[idF] at *;subst h1;rw[<- this,<- h2]
theorem id_comp(hf:Zc sz f):(idF sz f.a).comp f=f:=by obtain⟨a,b,r⟩:=f;have:=hf.len;simp only[idF,F.comp] at *;rw[<- this,aez]
theorem comp_id(hf:Zc sz f):f.comp (idF sz f.b)=f:=by
 obtain⟨a,b,r⟩:=f;have:=hf.ran;simp only[idF,F.comp,F.mk.injEq,true_and] at *
 conv=>rhs;rw[<- List.map_id r]
 apply qi;intro x hx;simp[yf (this x hx)]
noncomputable def Q7(fs:List F):Prop:=∀f∈fs,∀g∈fs,f.b=g.a->f.comp g∈fs\/(f.comp g).Tv
theorem call_of(hm:1<=m)(hf:prog.fns[f]?=some Fx):prog.call m f ds M=Fx.run ⟨prog.call (m-1),prog.cls⟩ ds M:=by obtain⟨n,rfl⟩:∃n,m=n+1:=⟨m-1,by lia⟩;simp[Prog.call,hf]
noncomputable def az3(n:Int)(f:Bool):Prop:=0<=n/\(f=false->n<2147483647)
noncomputable def V2(t:Nat)(f:Bool)(M:Store):Prop:=∃n,M[t]?=some (.lst [.int n,.bl f])/\az3 n f
structure St(t:Nat)(f:Bool)(M M':Store):Prop where
 len:M.length<=M'.length
 has:V2 t f M'
 keep:∀(a:Nat)(o:MO),a≠t->M[a]?=some o->M'[a]?=some o
theorem St.trans(a:St t f M M1)(b:St t f M1 M2):St t f M M2 :=
 ⟨ig a.len b.len,b.has,λx o n h=>b.keep x o n (a.keep x o n h)⟩
theorem St.of(h:V2 t f M)(k:Bd M M'):St t f M M' :=
 ⟨k.len,let ⟨n,a,b⟩:=h;⟨n,k _ _ a,b⟩,λa o _ e=>k a o e⟩
theorem Dn(hm:1<=m)(hs:V2 t f M)(hp:0<many)(hq:many<1073741824) :
 ∃(v:Nat)(M':Store),prog.call m 14 [.ref t,.int many] M=.ok (.int v) M'/\(v:Int)<many/\St t f M M'/\M'.length=M.length:=by
 obtain⟨n,h,hn⟩:=hs;rw[call_of hm rfl];have hl:=j6 h;have g0:=Fq hl (i:=0) (by decide) rfl;have g1:=Fq hl (i:=1) (by decide) rfl;have fin:∀n':Int,az3 n' f->St t f M (M.set t (.lst [.int n',.bl f])):=λn' o=>⟨by simp,⟨n',qb h,o⟩,λa u e q=>by rw[m5 (jz e)];exact q⟩
 have hm0:many≠0:=by lia
 have c1:∀y:Int,∃v:Nat,y%many=(v:Int)/\(v:Int)<many:=λy=>by have a:=Ar y hm0;have b:=yu y hp;exact⟨(y%many).toNat,by lia,by lia⟩
 cases f with
 |true =>
  obtain⟨v,e,l⟩:=c1 n;refine⟨v,_,?_,l,fin (n / many) ⟨Int.ediv_nonneg hn.1 (by lia),by simp⟩,by simp⟩;simp[Fn.run,Qv,Qu,g0,g1,hp,Z8 _ _ hp hq,W3 h,e]
 |false =>
  have h1:=hn.1;have h2:=hn.2 rfl;obtain⟨n',en⟩:∃n',(n*48271+29)%2147483647=n':=⟨_,rfl⟩;have e1:0<=n':=en▸Ar _ (by decide)
  have e2:n'<2147483647:=en▸yu _ (by decide)
  obtain⟨x,ex⟩:∃x,(n'*n'+39373*n'+7)%2147483629=x:=⟨_,rfl⟩;have x1:0<=x:=ex▸Ar _ (by decide)
  have x2:x<2147483629:=ex▸yu _ (by decide)
  obtain⟨y,ey⟩:∃y,(x*x+16807*x)%2147483587=y:=⟨_,rfl⟩;obtain⟨v,e,l⟩:=c1 (y / 8);refine⟨v,_,?_,l,fin n' ⟨e1,λ_=>e2⟩,by simp⟩;have k:=qb (o:=.lst [.int n',.bl false]) h;have k0:=Fq (j6 k) (i:=0) (by decide) rfl;simp[Fn.run,Qv,Qu,g0,g1,hp,W3 h,Qg n 48271 (.inr (by decide)),en,k0,Qg n' n' (.inl (by lia)),Qg 39373 n' (.inl (by decide)),ex,Qg x x (.inl (by lia)),Qg 16807 x (.inl (by decide)),ey,Z8 _ 8 (by decide) (by decide),e]
theorem air{k:Nat}{ns:List Int}(hm:1<=m):prog.call m 12 [.fz (ns.map D.int),.int k] M=.ok (.int (ns.getD k 0)) M:=by
 rw[call_of hm rfl]
 by_cases hk:k<ns.length
 . simp[Fn.run,K1,Kz,amv,hk,a3c (ds:=ns.map D.int) (i:=k) (x:=.int (ns.getD k 0)) q_ (by simp[hk])]
 . simp[Fn.run,K1,Kz,amv,hk]
theorem aph{k:Nat}{ns:List Int}(hm:2<=m):∃n f,prog.call m 13 [.fz (ns.map D.int),.int k] M=.ok (.ref M.length) (M++[.lst [.int n,.bl f]])/\az3 n f:=by
 rw[call_of (a_ (by decide) hm) rfl]
 by_cases h:(10:Int) ^ 18<=ns.getD k 0
 . refine⟨ns.getD k 0-10 ^ 18,true,?_,by lia,by simp⟩
   have h':(1000000000000000000:Int)<=ns[k]?.getD 0:=by simpa using h
   simp[Fn.run,Om,Ol,air (show 1<=m-1 by exact r_ hm),h',MW.new]
 . refine⟨ns.getD k 0%2147483647,false,?_,Ar _ (by decide),λ_=>yu _ (by decide)⟩
   have h':¬(1000000000000000000:Int)<=ns[k]?.getD 0:=by simpa using h
   simp[Fn.run,Om,Ol,air (show 1<=m-1 by exact r_ hm),h',MW.new]
theorem ais(n:Nat)(i:Nat)(M:Store)(h:i<n):(Src.con ((List.range n).map λ(k:Nat)=>D.int (k:Int))).item i M=some (.int i):=by simp[Src.item,yf h]
theorem ait(n:Nat):(Src.con ((List.range n).map λ(k:Nat)=>D.int (k:Int))).len=n:=by simp[Src.len]
section
variable{m t:Nat}{f:Bool}{M:Store}
theorem api{K:Nat}(hm:1<=m)(hs:V2 t f M)(hK:K<=3) :
 ∃(Mt:List Nat)(M':Store),K5.den ⟨prog.call m,prog.cls⟩ [some (.ref t),a1,a2,a3,a4,a5,some (.int K),a7,a8,a9,a10,a11] M=.ok (.vl (Mt.map nD)) M'/\Mt.length=K/\(∀x∈Mt,1<=x/\x<=3)/\St t f M M'/\M'.length=M.length:=by
 unfold K5;rw[Qf];have hK':K<=100000:=a_ hK (by decide)
 simp[hK'];have h:=Nx (fin:=λ_=>true) (item:=(Src.con ((List.range K).map λ(k:Nat)=>D.int (k:Int))).item)
  (body:=λd M=>((prog.call m 14 [D.ref t,D.int 3] M).bind λy M2=>Kg .add (.int 1) y M2).bind λx M'=>Res.ok (some x) M')
  (λi xs M'=>∃Mt:List Nat,xs=Mt.map nD/\Mt.length=i/\(∀x∈Mt,1<=x/\x<=3)/\St t f M M'/\M'.length=M.length) (n:=K)
  (λi xs M' hi hI=>by
   obtain⟨Mt,rfl,rfl,h1,h2,h3⟩:=hI;obtain⟨v,M2,e,l,s2,l2⟩:=Dn hm h2.has (many:=3) (by decide) (by decide);refine⟨.int Mt.length,some (.int (1+v)),M2,ais K _ M' hi,by simp[e],Mt++[1+v],by simp[nD],by simp,λx hx=>?_,h2.trans s2,l2.trans h3⟩;rcases dw.mp hx with q|q
   . exact h1 x q
   . have:x=1+v:=by simpa using q
     lia) (λ_ _ _=>rfl) K 0 [] M (vg _) ⟨[],rfl,rfl,by simp,St.of hs (Bd.refl M),rfl⟩
 obtain⟨ys,M',e,Mt,h1,h2,h3,h4,h5⟩:=h;refine⟨Mt,M',?_,h2,h3,h4,h5⟩;rw[Al,ait,cu hK',show(Src.con ((List.range _).map λ(k:Nat)=>D.int (k:Int))).fin=λ_=>true from rfl,e];simp at h1;simp[h1]
theorem az4{Mt:List Nat}(hm:1<=m)(hs:V2 t f M)(h3:∀x∈Mt,1<=x/\x<=3)(hi:i<Mt.length)(hj:j<Mt.length) :
 ∃(r:List Nat)(M':Store),K3.den ⟨prog.call m,prog.cls⟩ [some (.ref t),a1,a2,a3,a4,a5,a6,some (.vl (Mt.map nD)),a8,a9,some (.int i),some (.int j)] M=.ok (.vl (r.map nD)) M' /\
  r.length=Mt.getD i 0/\(∀x∈r,x<Mt.getD j 0)/\St t f M M'/\M'.length=M.length:=by
 unfold K3;rw[Qf];have gi:=Fq (M:=M) (d:=.vl (Mt.map nD)) (i:=i) (x:=.int ((Mt.getD i 0:Nat):Int)) rfl q_ (by simp[hi,nD]);have gj:∀M',Bc (.vl (Mt.map nD)) (.int j) M'=some (.int ((Mt.getD j 0:Nat):Int)):=λM'=>Fq rfl q_ (by simp[hj,nD])
 have bi:=h3 _ (getD_mem hi);have bj:=h3 _ (getD_mem hj);generalize ea:Mt.getD i 0=a at *;generalize eb:Mt.getD j 0=b at *;have ha:a<=100000:=a_ bi.2 (by decide)
 simp[gi,gj,ha];have h:=Nx (fin:=λ_=>true) (item:=(Src.con ((List.range a).map λ(k:Nat)=>D.int (k:Int))).item)
  (body:=λd M=>(prog.call m 14 [D.ref t,D.int b] M).bind λx M'=>Res.ok (some x) M')
  (λi xs M'=>∃r:List Nat,xs=r.map nD/\r.length=i/\(∀x∈r,x<b)/\St t f M M'/\M'.length=M.length) (n:=a)
  (λi xs M' hi hI=>by
   obtain⟨r,rfl,rfl,h1,h2,h3⟩:=hI;obtain⟨v,M2,e,l,s2,l2⟩:=Dn hm h2.has (many:=b) (m_ bj.1) (m_ (c_ bj.2 (by decide)));refine⟨.int r.length,some (.int v),M2,ais a _ M' hi,by simp[e],r++[v],by simp[nD],by simp,λx hx=>?_,h2.trans s2,l2.trans h3⟩;rcases dw.mp hx with q|q
   . exact h1 x q
   . have:x=v:=by simpa using q
     exact c_ (f_ this) (o_ l)) (λ_ _ _=>rfl) a 0 [] M (vg _) ⟨[],rfl,rfl,by simp,St.of hs (Bd.refl M),rfl⟩
 obtain⟨ys,M',e,r,h1,h2,h3,h4,h5⟩:=h;refine⟨r,M',?_,h2,h3,h4,h5⟩;rw[Al,ait,cu ha,show(Src.con ((List.range _).map λ(k:Nat)=>D.int (k:Int))).fin=λ_=>true from rfl,e];simp at h1;simp[h1]
end
section
variable{m t:Nat}{f:Bool}{M:Store}
theorem ack{v:Nat}{Mt:List Nat}(hm:1<=m)(hs:V2 t f M)(hK:Mt.length=K)(hK1:1<=K)(hK3:K<=3)(h3:∀x∈Mt,1<=x/\x<=3)(hp:M[p]?=some (.lst []))(hpt:p≠t) :
 ∃(fs:List F)(ρ':Env)(M':Store),K4.den ⟨prog.call m,prog.cls⟩ [some (.ref t),some (.int v),none,none,none,none,some (.int K),some (.vl (Mt.map nD)),some (.ref p),a9,a10,a11] M=.ok (.next,ρ') M' /\
  ρ'[8]?=some (some (.ref p))/\M'[p]?=some (.lst (fs.map F.toD))/\fs.length<=3/\Good (λk=>Mt.getD k 1) fs/\M.length<=M'.length/\V2 t f M'/\(∀(a:Nat)(o:MO),a≠t->a≠p->M[a]?=some o->M'[a]?=some o):=by
 obtain⟨w,M1,e1,l1,s1,ll1⟩:=Dn hm hs (many:=4) (by decide) (by decide);unfold K4;rw[Vg];have hw:w<=100000:=e_ (b_ (o_ l1) (by decide))
 simp[e1,hw];obtain⟨ρ',M',e,fs,b9,b10,Ru,rfl,h1,h2,h4,h5,h6,h7⟩:=acg (n:=w) (body:=λd ρ M=>Hs.den ⟨prog.call m,prog.cls⟩ (ρ.set 9 (some d)) M)
  (λi ρ M'=>∃(fs:List F)(b9 b10 Ru:Option D),ρ=[some (.ref t),some (.int v),none,none,none,none,some (.int K),some (.vl (Mt.map nD)),some (.ref p),b9,b10,Ru] /\
   M'[p]?=some (.lst (fs.map F.toD))/\fs.length=i/\Good (λk=>Mt.getD k 1) fs/\M.length<=M'.length/\V2 t f M'/\(∀(a:Nat)(o:MO),a≠t->a≠p->M[a]?=some o->M'[a]?=some o))
  (M:=M1) ⟨[],a9,a10,a11,rfl,by simpa using s1.keep p _ hpt hp,rfl,by intro f hf;simp at hf,s1.len,s1.has,λa o na _ h=>s1.keep a o na h⟩
  (λi ρ M2 hi hI=>by
   obtain⟨fs,b9,b10,Ru,rfl,g1,g2,g3,g4,g5,g6⟩:=hI;obtain⟨x,M3,ex,lx,sx,llx⟩:=Dn hm g5 (many:=K) (m_ hK1) (m_ (c_ hK3 (by decide)));obtain⟨y,M4,ey,ly,sy,lly⟩:=Dn hm sx.has (many:=K) (m_ hK1) (m_ (c_ hK3 (by decide)));obtain⟨r,M5,er,lr,rr,sr,llr⟩:=az4 (a1:=some (.int v)) (a2:=none) (a3:=none) (a4:=none) (a5:=none) (a6:=some (.int K)) (a8:=some (.ref p)) (a9:=some (.int i)) (i:=x) (j:=y) hm sy.has h3 (b_ (o_ lx) (g_ hK)) (b_ (o_ ly) (g_ hK));have gp:=sr.keep p _ hpt (sy.keep p _ hpt (sx.keep p _ hpt g1));have hl:(fs.map F.toD).length<100000:=by rw[fc];exact c_ (f_ g2) (b_ hi hw)
   refine⟨.next,_,M5.set p (.lst (fs.map F.toD++[F.toD ⟨x,y,r⟩])),?_,.inl rfl,fs++[⟨x,y,r⟩],some (.int i),some (.int x),some (.int y),rfl,?_,by simp[g2],?_,?_,?_,?_⟩
   . simp[Hs,ex,ey,er,Hl gp hl,Ik (sy.keep p _ hpt (sx.keep p _ hpt g1)),o6,F.toD,Hw]
   . rw[qb gp];simp
   . intro f hf
     rcases dw.mp hf with q|q
     . exact g3 f q
     . have:f=⟨x,y,r⟩:=by simpa using q
       subst this;refine⟨by show x<3;exact b_ (o_ lx) hK3,by show y<3;exact b_ (o_ ly) hK3,?_,?_⟩
       . show r.length=Mt.getD x 1
         rw[lr];simp[dh,cz (show x<Mt.length by exact b_ (o_ lx) (g_ hK))]
       . intro z hz
         have:=rr z hz;show z<Mt.getD y 1
         simp[dh,cz (show y<Mt.length by exact b_ (o_ ly) (g_ hK))] at this ⊢;exact this
   . have:=sr.len;have:=sy.len;have:=sx.len;simp;exact a_ g4 (a_ (g_ llx) (a_ (g_ lly) (g_ llr)))
   . obtain⟨n',q1,q2⟩:=sr.has
     exact⟨n',by rw[m5 hpt];exact q1,q2⟩
   . intro a o na nb h
     rw[m5 (jz nb)];exact sr.keep a o na (sy.keep a o na (sx.keep a o na (g6 a o na nb h))))
 have e':Gf (Src.con ((List.range w).map λ(k:Nat)=>D.int (k:Int))).fin (Src.con ((List.range w).map λ(k:Nat)=>D.int (k:Int))).item (λd ρ M=>Hs.den ⟨prog.call m,prog.cls⟩ (ρ.set 9 (some d)) M) (Src.con ((List.range w).map λ(k:Nat)=>D.int (k:Int))).len 0 [some (.ref t),some (.int v),none,none,none,none,some (.int K),some (.vl (Mt.map nD)),some (.ref p),a9,a10,a11] M1=_:=e;exact⟨fs,[some (.ref t),some (.int v),none,none,none,none,some (.int K),some (.vl (Mt.map nD)),some (.ref p),b9,b10,Ru],M',e',rfl,h1,by lia,h4,h5,h6,h7⟩
end
section
variable{m t:Nat}{f:Bool}{M:Store}
theorem apj(hm:2<=m)(hs:V2 t f M):∃(d:D)(M':Store)(fs:List F)(sz:Nat->Nat),prog.call m 15 [.ref t] M=.ok d M'/\asList M' d=some (fs.map F.toD)/\(∀n,d=.ref n->n≠t)/\Sz sz/\Good sz fs/\fs.length<=3/\St t f M M':=by
 have hm1:1<=m-1:=r_ hm
 obtain⟨v,M1,e1,l1,s1,ll1⟩:=Dn hm1 hs (many:=12) (by decide) (by decide);rw[call_of (a_ hm1 C_) rfl]
 by_cases hv:v<7
 . have hv':(v:Int)<7:=m_ hv
   have key:∀(fs:List F)(sz:Nat->Nat),Fv.run ⟨prog.call (m-1),prog.cls⟩ [.ref t] M=.ok (.vl (fs.map F.toD)) M1->Sz sz->Good sz fs->fs.length<=3 ->
    ∃(d:D)(M':Store)(fs:List F)(sz:Nat->Nat),Fv.run ⟨prog.call (m-1),prog.cls⟩ [.ref t] M=.ok d M'/\asList M' d=some (fs.map F.toD)/\(∀n,d=.ref n->n≠t)/\Sz sz/\Good sz fs/\fs.length<=3/\St t f M M' :=
    λfs sz a b c d=>⟨_,M1,fs,sz,a,rfl,λn h=>(by cases h),b,c,d,s1⟩
   have run:∀d,Bc (.vl [.vl [.tup [.int 0,.int 1,.tup [.int 0,.int 1]],.tup [.int 0,.int 1,.tup [.int 1,.int 0]]],.vl [.tup [.int 0,.int 1,.tup [.int 0,.int 0,.int 1,.int 1]],.tup [.int 0,.int 1,.tup [.int 0,.int 1,.int 0,.int 1]],.tup [.int 1,.int 0,.tup [.int 0,.int 3]]],
    .vl [.tup [.int 0,.int 0,.tup [.int 1,.int 0]]],.vl [.tup [.int 0,.int 0,.tup [.int 1,.int 2,.int 0]]],.vl [.tup [.int 0,.int 0,.tup [.int 0,.int 0]]],.vl [],.vl [.tup [.int 0,.int 1,.tup [.int 0,.int 1]],.tup [.int 1,.int 2,.tup [.int 0,.int 0,.int 1]]]]) (.int v) M1=some d ->
    Fv.run ⟨prog.call (m-1),prog.cls⟩ [.ref t] M=.ok d M1:=λd hd=>by simp[Fn.run,Fv,Oo,e1,hv',hd]
   have cs:v=0\/v=1\/v=2\/v=3\/v=4\/v=5\/v=6:=by lia
   rcases cs with rfl|rfl|rfl|rfl|rfl|rfl|rfl
   . refine key [⟨0,1,[0,1]⟩,⟨0,1,[1,0]⟩] (λ_=>2) ?_ (λk=>by simp) (λf hf=>?_) (by decide)
     . exact run _ rfl
     . simp at hf;rcases hf with rfl|rfl<;>exact⟨by decide,by decide,by decide,by decide⟩
   . refine key [⟨0,1,[0,0,1,1]⟩,⟨0,1,[0,1,0,1]⟩,⟨1,0,[0,3]⟩] (λk=>if k=0 then 4 else 2) ?_ (λk=>by dsimp only;split<;>omega) (λf hf=>?_) (by decide)
     . exact run _ rfl
     . simp at hf;rcases hf with rfl|rfl|rfl<;>exact⟨by decide,by decide,by decide,by decide⟩
   . refine key [⟨0,0,[1,0]⟩] (λ_=>2) ?_ (λk=>by simp) (λf hf=>?_) (by decide)
     . exact run _ rfl
     . simp at hf;subst hf;exact⟨by decide,by decide,by decide,by decide⟩
   . refine key [⟨0,0,[1,2,0]⟩] (λ_=>3) ?_ (λk=>by simp) (λf hf=>?_) (by decide)
     . exact run _ rfl
     . simp at hf;subst hf;exact⟨by decide,by decide,by decide,by decide⟩
   . refine key [⟨0,0,[0,0]⟩] (λ_=>2) ?_ (λk=>by simp) (λf hf=>?_) (by decide)
     . exact run _ rfl
     . simp at hf;subst hf;exact⟨by decide,by decide,by decide,by decide⟩
   . refine key [] (λ_=>1) ?_ (λk=>by simp) (λf hf=>?_) (by decide)
     . exact run _ rfl
     . simp at hf
   . refine key [⟨0,1,[0,1]⟩,⟨1,2,[0,0,1]⟩] (λk=>if k=1 then 3 else 2) ?_ (λk=>by dsimp only;split<;>exact⟨by decide,by decide⟩) (λf hf=>?_) (by decide)
     . exact run _ rfl
     . simp at hf;rcases hf with rfl|rfl<;>exact⟨by decide,by decide,by decide,by decide⟩
 . have hv':¬(v:Int)<7:=by lia
   obtain⟨u,M2,e2,l2,s2,ll2⟩:=Dn hm1 s1.has (many:=3) (by decide) (by decide);obtain⟨K,eK,hKu⟩:∃K:Nat,(1:Int)+(u:Int)=(K:Int)/\K=1+u:=⟨1+u,by lia,rfl⟩;obtain⟨Mt,M3,e3,l3,r3,s3,ll3⟩:=api (a1:=some (.int v)) (a2:=none) (a3:=none) (a4:=none) (a5:=none) (a7:=none) (a8:=none) (a9:=none) (a10:=none) (a11:=none) (K:=K) hm1 s2.has (by lia);have htl:t<M3.length:=by obtain⟨n,h,_⟩:=s3.has;exact v5 h
   have h4:V2 t f (M3++[.lst []]):=by obtain⟨n,h,o⟩:=s3.has;exact⟨n,vq h,o⟩
   obtain⟨fs,ρ',M5,e5,q8,q1,q2,q3,q4,q5,q6⟩:=ack (v:=v) (K:=K) (p:=M3.length) (a9:=none) (a10:=none) (a11:=none) hm1 h4 l3 (by lia) (by lia) r3 (by simp) (i_ htl);refine⟨.ref M3.length,M5,fs,λk=>Mt.getD k 1,?_,j6 q1,λn h=>by cases h;exact i_ htl,λk=>?_,q3,q2,?_⟩
   . simp[Fn.run,Fv,Oo,e1,hv',e2,eK,e3,MW.new,e5,q8]
   . show 1<=Mt.getD k 1/\Mt.getD k 1<=4
     by_cases h:k<Mt.length
     . have:=r3 _ (getD_mem h)
       simp[dh,h] at this ⊢;exact⟨this.1,a_ this.2 (by decide)⟩
     . simp[dh,h]
   . refine s1.trans (s2.trans (s3.trans ⟨?_,q5,λa o na h=>q6 a o na ?_ (vq h)⟩))
     . have:=q4;simp at this;lia
     . have:=v5 h;exact h_ this
end
structure Up(p:Nat)(M M':Store):Prop where
 len:M'.length=M.length
 oth:∀a:Nat,a≠p->M'[a]?=M[a]?
theorem Up.refl(p:Nat)(M:Store):Up p M M:=⟨rfl,λ_ _=>rfl⟩
theorem Up.trans(a:Up p M M1)(b:Up p M1 M2):Up p M M2:=⟨b.len.trans a.len,λx h=>(b.oth x h).trans (a.oth x h)⟩
theorem Up.set(p:Nat)(M:Store)(o:MO):Up p M (M.set p o):=⟨by simp,λa h=>m5 (jz h)⟩
theorem Tw(h:M[p]?=some (.lst ds)):Ub M x (.ref p)=memD M x ds:=by simp[Ub,h,yq,asList]
theorem Wn(f:F)(M:Store):Bc f.toD (.int 0) M=some (.int f.a):=rfl
theorem Wo(f:F)(M:Store):Bc f.toD (.int 1) M=some (.int f.b):=rfl
theorem apk(f:F)(M:Store):Bc f.toD (.int 2) M=some (Hw f.r):=rfl
theorem Q8(M:Store)(r:List Nat)(n:Nat):xx M (Hw r) (.tup ((List.range n).map λ(k:Nat)=>D.int (k:Int)))=some (decide (r=List.range n)):=agv M r (List.range n)
theorem eq_nil(M:Store)(r:List Nat):xx M (Hw r) (.tup [])=some (decide (r=[])):=agv M r []
theorem Cd(M:Store)(a b:Nat):xx M (.int a) (.int b)=some (decide (a=b)):=by rw[eq_int,aiq]
theorem Mj(M:Store)(r:List Nat):o6 .len [Hw r] M=.ok (.int r.length) M:=by simp[o6,yq,Hw]
theorem Yu(M:Store)(ds:List D):o6 .tuple [.vl ds] M=.ok (.tup ds) M:=by simp[o6,yq]
theorem acn(M:Store)(r:List Nat):o6 .tuple [.vl (r.map nD)] M=.ok (Hw r) M:=Yu M _
theorem agy(hz:Sz sz)(h:Zc sz f):1<=f.r.length/\f.r.length<=4:=by rw[h.len];exact hz _
theorem au0(M:Store)(r:List Nat):srcOf M (Hw r)=some (.con (r.map nD)):=rfl
theorem apl(M:Store)(r:List Nat)(h:x<r.length):Bc (Hw r) (.int x) M=some (.int (r.getD x 0)):=N7 q_ (by simp[h,nD])
section
variable{W:Dy}{M:Store}{sz:Nat->Nat}
theorem apm(hz:Sz sz)(hf:Zc sz f)(hg:Zc sz g)(h:f.b=g.a) :
 Jz.den W [a0,a1,a2,a3,a4,a5,a6,some f.toD,some g.toD,a9] M=.ok (.vl ((f.comp g).r.map nD)) M:=by
 have hsm:(f.r.map nD).length<=100000:=by rw[fc,hf.len];have:=hz f.a;exact a_ this.2 (by decide)
 unfold Jz;rw[Qf];simp[apk,au0];have:=aip (M:=M) (ds:=f.r.map nD) (g:=λd=>match d with|.int i=>nD (g.r.getD i.toNat 0)|_=>.non)
  (body:=λd M=>((Res.ofOpt (Bc (Hw g.r) d M) M).bind λx M'=>Res.ok (some x) M')) hsm (λd hd=>by
   obtain⟨x,hx,rfl⟩:=bu.mp hd;have hx':x<g.r.length:=by rw[hg.len,<- h];exact hf.ran x hx
   rw[show nD x=D.int (x:Int) from rfl,apl M g.r hx'];simp[nD])
 rw[this];simp[F.comp,nD]
noncomputable def Oq(gs:List F)(f g:F):List F:=if f.b=g.a/\f.comp g∉gs/\¬(f.comp g).Tv then gs++[f.comp g] else gs
theorem agz(f g:F):D.tup [.int f.a,.int g.b,Hw (f.comp g).r]=(f.comp g).toD:=rfl
theorem Yv(hz:Sz sz)(hf:Zc sz f)(hg:Zc sz g)(hp:M[p]?=some (.lst (gs.map F.toD)))(hl:gs.length<100000) :
 ∃(b4 b9:Option D)(M':Store),Du.den W [a0,some (.ref p),a2,a3,a4,a5,a6,some f.toD,some g.toD,a9] M=.ok (.next,[a0,some (.ref p),a2,a3,b4,a5,a6,some f.toD,some g.toD,b9]) M' /\
  M'[p]?=some (.lst ((Oq gs f g).map F.toD))/\Up p M M':=by
 by_cases h:f.b=g.a
 . have hc:=apm (W:=W) (M:=M) (a0:=a0) (a1:=some (.ref p)) (a2:=a2) (a3:=a3) (a4:=some (.tup [])) (a5:=a5) (a6:=a6) (a9:=a9) hz hf hg h
   have hr:(f.comp g).r≠[]:=λe=>by have:=(agy hz (hf.comp hg h)).1;rw[e] at this;simp at this
   have hlen:(f.comp g).r.length<=100000:=by have:=(agy hz (hf.comp hg h)).2;exact a_ this (by decide)
   have hmem:=apg M (f.comp g) gs;have e0:(f.comp g).a=f.a:=rfl;have e1:(f.comp g).b=g.b:=rfl;have ap:=Hl (d:=(f.comp g).toD) hp (by rw[fc];exact hl);have key:∃T:Res (Flow×Env),Du.den W [a0,some (.ref p),a2,a3,a4,a5,a6,some f.toD,some g.toD,a9] M=T/\(f.comp g∈gs->T=.ok (.next,[a0,some (.ref p),a2,a3,some (Hw (f.comp g).r),a5,a6,some f.toD,some g.toD,some (f.comp g).toD]) M)/\(f.comp g∉gs->(f.comp g).Tv->T=.ok (.next,[a0,some (.ref p),a2,a3,some (Hw (f.comp g).r),a5,a6,some f.toD,some g.toD,some (f.comp g).toD]) M) /\
    (f.comp g∉gs->¬(f.comp g).Tv->T=.ok (.next,[a0,some (.ref p),a2,a3,some (Hw (f.comp g).r),a5,a6,some f.toD,some g.toD,some (f.comp g).toD]) (M.set p (.lst ((gs++[f.comp g]).map F.toD)))):=by
    refine⟨_,(by simp[-eq_int,Du,Wn,Wo,Cd,h,hc,acn,agz,eq_nil,hr,Tw hp,hmem];exact rfl),?_,?_,?_⟩
    . intro m;simp[m]
    . intro m i;simp[-eq_int,m,Wn,Wo,Cd,i.1,Mj,hlen,Q8,Er i.2]
    . intro m i
      by_cases i1:(f.comp g).a=(f.comp g).b
      . have i2:¬(f.comp g).r=List.range (f.comp g).r.length:=λq=>i ⟨i1,q⟩
        simp[-eq_int,Wn,Wo,Cd,m,i1,Mj,hlen,Q8,i2,Ik hp,ap]
      . simp[-eq_int,Wn,Wo,Cd,m,i1,Mj,hlen,Q8,Ik hp,ap]
   obtain⟨T,e,k1,k2,k3⟩:=key
   by_cases m:f.comp g∈gs
   . exact⟨_,_,M,e.trans (k1 m),by rw[Oq,bz (λq=>q.2.1 m)];exact hp,Up.refl p M⟩
   . by_cases i:(f.comp g).Tv
     . exact⟨_,_,M,e.trans (k2 m i),by rw[Oq,bz (λq=>q.2.2 i)];exact hp,Up.refl p M⟩
     . exact⟨_,_,_,e.trans (k3 m i),by rw[Oq,cu ⟨h,m,i⟩,qb hp],Up.set _ _ _⟩
 . refine⟨some (.tup []),some (.tup [.int f.a,.int g.b,.tup []]),M,?_,by rw[Oq,bz (λq=>h q.1)];exact hp,Up.refl p M⟩
   have:=agv M [] [];simp[Hw] at this;simp[-eq_int,Du,Wn,Wo,Cd,h,this]
end
structure Inv(sz:Nat->Nat)(gs:List F):Prop where
 good:Good sz gs
 nd:gs.Nodup
 nid:∀f∈gs,¬f.Tv
theorem Inv.snoc{sz:Nat->Nat}(h:Inv sz gs)(hf:Zc sz f)(hm:f∉gs)(hi:¬f.Tv):Inv sz (gs++[f]):=by
 refine⟨λx hx=>?_,?_,λx hx=>?_⟩
 . rcases dw.mp hx with q|q
   . exact h.good x q
   . have:x=f:=by simpa using q
     exact this▸hf
 . rw[zm]
   refine⟨h.nd,by simp,λa ha b hb=>?_⟩;have:b=f:=by simpa using hb
   exact λe=>hm (by rw[<- this,<- e];exact ha)
 . rcases dw.mp hx with q|q
   . exact h.nid x q
   . have:x=f:=by simpa using q
     exact this▸hi
noncomputable def Cl2(gs:List F)(f g:F):Prop:=f.b=g.a->f.comp g∈gs\/(f.comp g).Tv
theorem Cl2.mono(h:Cl2 gs f g)(s:gs <+: hs):Cl2 hs f g:=λe=>(h e).imp (λm=>s.subset m) id
theorem Q9(gs:List F)(f g:F):gs <+: Oq gs f g:=by
 unfold Oq;split
 . exact List.prefix_append _ _
 . exact List.prefix_rfl
theorem Yw(gs:List F)(f g:F):(Oq gs f g).length<=gs.length+1:=by unfold Oq;split<;>simp
set_option tactic.hygienic true in
theorem ae0(h:Inv sz gs)(hf:Zc sz f)(hg:Zc sz g):Inv sz (Oq gs f g):=by
 unfold Oq;split
 . rename_i q;exact h.snoc (hf.comp hg q.1) q.2.1 q.2.2
 . exact h
theorem aiu(gs:List F)(f g:F):Cl2 (Oq gs f g) f g:=by
 intro e;unfold Oq
 by_cases m:f.comp g∈gs
 . left;split
   . exact xf _ m
   . exact m
 . by_cases i:(f.comp g).Tv
   . exact .inr i
   . left;rw[cu ⟨e,m,i⟩];simp
theorem U6{gs:List F}{i:Nat}(s:gs <+: hs)(h:gs[i]?=some f):hs[i]?=some f:=by obtain⟨t,rfl⟩:=s;rw[dq (ak.mp h).1];exact h
theorem S8{gs:List F}{i:Nat}(hp:M[p]?=some (.lst (gs.map F.toD)))(h:gs[i]?=some f):Bc (.ref p) (.int i) M=some f.toD:=Fq (j6 hp) q_ (by simp[h])
theorem Ot{gs:List F}(hp:M[p]?=some (.lst (gs.map F.toD))):o6 .len [.ref p] M=.ok (.int gs.length) M:=by rw[len_list (j6 hp)];simp
section
variable{W:Dy}{M:Store}{sz:Nat->Nat}
theorem az5{k j:Nat}(hz:Sz sz)(hi:Inv sz gs)(hp:M[p]?=some (.lst (gs.map F.toD)))(hl:gs.length<90000)(hk:gs[k]?=some f)(hj:gs[j]?=some g) :
 ∃(b4 b7 b8 b9:Option D)(M':Store),J0.den W [a0,some (.ref p),a2,a3,a4,some (.int k),some (.int j),a7,a8,a9] M=.ok (.next,[a0,some (.ref p),a2,a3,b4,some (.int k),some (.int j),b7,b8,b9]) M' /\
  M'[p]?=some (.lst ((Oq (Oq gs f g) g f).map F.toD))/\Up p M M':=by
 have hf:=hi.good f (az hk);have hg:=hi.good g (az hj);have l1:=Yw gs f g;obtain⟨b4,b9,M1,e1,p1,u1⟩:=Yv (W:=W) (M:=M) (a0:=a0) (a2:=a2) (a3:=a3) (a4:=a4) (a5:=some (.int k)) (a6:=some (.int j)) (a9:=a9) hz hf hg hp (b_ hl (by decide));obtain⟨c4,c9,M2,e2,p2,u2⟩:=Yv (W:=W) (M:=M1) (a0:=a0) (a2:=a2) (a3:=a3) (a4:=b4) (a5:=some (.int k)) (a6:=some (.int j)) (a9:=b9) hz hg hf p1 (by lia);refine⟨c4,some g.toD,some f.toD,c9,M2,?_,p2,u1.trans u2⟩;unfold J0;rw[Vg];simp[S8 hp hk,S8 hp hj,srcOf,Src.len,Src.fin,Gf,Src.item,e1,e2]
theorem au2{k:Nat}(hz:Sz sz)(hi:Inv sz gs)(hp:M[p]?=some (.lst (gs.map F.toD)))(hl:gs.length<10000)(hk:gs[k]?=some f) :
 ∃(hs:List F)(b4 b6 b7 b8 b9:Option D)(M':Store),J2.den W [a0,some (.ref p),a2,a3,a4,some (.int k),a6,a7,a8,a9] M=.ok (.next,[a0,some (.ref p),a2,a3,b4,some (.int k),b6,b7,b8,b9]) M' /\
  M'[p]?=some (.lst (hs.map F.toD))/\Up p M M'/\gs <+: hs/\Inv sz hs/\hs.length<=3*gs.length/\∀(j:Nat)(g:F),gs[j]?=some g->Cl2 hs f g/\Cl2 hs g f:=by
 unfold J2;rw[Vg];have hl':gs.length<=100000:=e_ (b_ hl (by decide))
 simp[Ot hp,hl'];obtain⟨ρ',M',e,hs,b4,b6,b7,b8,b9,rfl,h1,h2,h3,h4,h5,h6⟩:=acg (n:=gs.length) (body:=λd ρ M=>J1.den W (ρ.set 6 (some d)) M)
  (λi ρ M'=>∃(hs:List F)(b4 b6 b7 b8 b9:Option D),ρ=[a0,some (.ref p),a2,a3,b4,some (.int k),b6,b7,b8,b9]/\M'[p]?=some (.lst (hs.map F.toD))/\Up p M M'/\gs <+: hs/\Inv sz hs/\hs.length<=gs.length+2*i /\
   ∀(j:Nat)(g:F),j<i->gs[j]?=some g->Cl2 hs f g/\Cl2 hs g f) (ρ:=[a0,some (.ref p),a2,a3,a4,some (.int k),a6,a7,a8,a9]) (M:=M)
  ⟨gs,a4,a6,a7,a8,a9,rfl,hp,Up.refl p M,List.prefix_rfl,hi,x_,λj g h=>absurd h (wy _)⟩
  (λi ρ M2 hlt hI=>by
   obtain⟨hs,b4,b6,b7,b8,b9,rfl,g1,g2,g3,g4,g5,g6⟩:=hI;have gi:gs[i]?=some gs[i]:=by simp[hlt]
   obtain⟨c4,c7,c8,c9,M3,e3,p3,u3⟩:=az5 (W:=W) (M:=M2) (a0:=a0) (a2:=a2) (a3:=a3) (a4:=b4) (a7:=b7) (a8:=b8) (a9:=b9) hz g4 g1 (by lia) (U6 g3 hk) (U6 g3 gi);have hf:=g4.good f (az (U6 g3 hk));have hg:=g4.good gs[i] (az (U6 g3 gi));refine⟨.next,_,M3,?_,.inl rfl,Oq (Oq hs f gs[i]) gs[i] f,c4,some (.int i),c7,c8,c9,rfl,p3,g2.trans u3,(g3.trans (Q9 _ _ _)).trans (Q9 _ _ _),ae0 (ae0 g4 hf hg) hg hf,?_,?_⟩
   . simp[J1,e3]
   . have:=Yw hs f gs[i]
     have:=Yw (Oq hs f gs[i]) gs[i] f
     lia
   . intro j g hj hg'
     have pr:=(Q9 hs f gs[i]).trans (Q9 (Oq hs f gs[i]) gs[i] f);rcases Nat.lt_succ_iff_lt_or_eq.mp hj with q|q
     . exact⟨(g6 j g q hg').1.mono pr,(g6 j g q hg').2.mono pr⟩
     . subst q
       have:g=gs[j]:=by rw[gi] at hg';exact(ie hg').symm
       subst this;exact⟨(aiu _ _ _).mono (Q9 _ _ _),aiu _ _ _⟩)
 refine⟨hs,b4,b6,b7,b8,b9,M',e,h1,h2,h3,h4,by lia,λj g hg=>h6 j g (ak.mp hg).1 hg⟩
end
theorem apn(f:F)(i j k:Nat)(ρ:Env):(Tg.names [i,j,k]).put f.toD ρ=some (((ρ.set i (some (.int f.a))).set j (some (.int f.b))).set k (some (Hw f.r))):=rfl
noncomputable def aco(gs:List F)(f:F):List F:=if ¬f.Tv/\f∉gs then gs++[f] else gs
noncomputable def ClK(gs:List F)(k:Nat):Prop:=∀(i j:Nat)(f g:F),i<k->j<k->gs[i]?=some f->gs[j]?=some g->Cl2 gs f g
section
variable{W:Dy}{M:Store}{sz:Nat->Nat}
theorem akk(hz:Sz sz)(hf:Zc sz f)(hp:M[p]?=some (.lst (gs.map F.toD)))(hl:gs.length<100000) :
 ∃M',yr.den W [a0,some (.ref p),some (.int f.a),some (.int f.b),some (Hw f.r),a5,a6,a7,a8,a9] M=.ok (.next,[a0,some (.ref p),some (.int f.a),some (.int f.b),some (Hw f.r),a5,a6,a7,a8,a9]) M' /\
  M'[p]?=some (.lst ((aco gs f).map F.toD))/\Up p M M':=by
 have hlen:f.r.length<=100000:=by have:=(agy hz hf).2;exact a_ this (by decide)
 have hmem:=apg M f gs;have hD:D.tup [.int f.a,.int f.b,Hw f.r]=f.toD:=rfl;have ap:=Hl (d:=f.toD) hp (by rw[fc];exact hl)
 by_cases i:f.Tv
 . refine⟨M,?_,by rw[aco,bz (λq=>q.1 i)];exact hp,Up.refl p M⟩
   simp[-eq_int,yr,Cd,i.1,Mj,hlen,Q8,Er i.2]
 . by_cases m:f∈gs
   . refine⟨M,?_,by rw[aco,bz (λq=>q.2 m)];exact hp,Up.refl p M⟩
     by_cases i1:f.a=f.b
     . have i2:¬f.r=List.range f.r.length:=λq=>i ⟨i1,q⟩
       simp[i1] at hD;simp[-eq_int,yr,Cd,i1,i2,Mj,hlen,Q8,hD,Tw hp,hmem,m]
     . simp[-eq_int,yr,Cd,i1,Mj,hlen,Q8,hD,Tw hp,hmem,m]
   . refine⟨M.set p (.lst ((gs++[f]).map F.toD)),?_,by rw[aco,cu ⟨i,m⟩,qb hp],Up.set _ _ _⟩
     by_cases i1:f.a=f.b
     . have i2:¬f.r=List.range f.r.length:=λq=>i ⟨i1,q⟩
       simp[i1] at hD;simp[-eq_int,yr,Cd,i1,i2,Mj,hlen,Q8,hD,Tw hp,hmem,m,Ik hp,ap]
     . simp[-eq_int,yr,Cd,i1,Mj,hlen,Q8,hD,Tw hp,hmem,m,Ik hp,ap]
set_option tactic.hygienic true in
theorem apo(h:Inv sz gs)(hf:Zc sz f):Inv sz (aco gs f):=by
 unfold aco;split
 . rename_i q;exact h.snoc hf q.2 q.1
 . exact h
theorem apq(gs:List F)(f:F):(aco gs f).length<=gs.length+1:=by unfold aco;split<;>simp
theorem akl(hz:Sz sz)(hi:Inv sz gs)(hp:M[p]?=some (.lst (gs.map F.toD)))(hl:gs.length<=3) :
 ∃(ρ':Env)(M':Store),J5.den W [a0,some (.ref p),a2,a3,a4,some (.int 0),a6,a7,a8,a9] M=.ok (.next,ρ') M'/\ρ'[1]?=some (some (.ref p))/\∃hs:List F,M'[p]?=some (.lst (hs.map F.toD))/\Up p M M'/\Inv sz hs/\hs.length<=15 /\
  (hs.length<6->Q7 hs)/\(gs=[]->hs=[]):=by
 unfold J5;rw[abm];refine Rj (λm ρ M'=>∃(hs:List F)(k:Nat)(b4 b6 b7 b8 b9:Option D),ρ=[a0,some (.ref p),a2,a3,b4,some (.int k),b6,b7,b8,b9]/\M'[p]?=some (.lst (hs.map F.toD))/\Up p M M'/\Inv sz hs/\hs.length<=15/\ClK hs k/\k<=5/\m=10-k/\(gs=[]->hs=[]))
  (fun ρ' M'=>ρ'[1]?=some (some (.ref p))/\∃hs:List F,M'[p]?=some (.lst (hs.map F.toD))/\Up p M M'/\Inv sz hs/\hs.length<=15/\(hs.length<6->Q7 hs)/\(gs=[]->hs=[])) ?_ af9 10 _ M (by decide)
  ⟨gs,0,a4,a6,a7,a8,a9,rfl,hp,Up.refl p M,hi,a_ hl (by decide),λi j f g h=>absurd h (wy _),jr _,rfl,id⟩
 intro m ρ M1 hI;obtain⟨hs,k,b4,b6,b7,b8,b9,rfl,g1,g2,g3,g4,g5,g6,g7,g8⟩:=hI
 by_cases c1:k<hs.length
 . have c1':(k:Int)<(hs.length:Int):=m_ c1
   by_cases c2:hs.length<6
   . have c2':(hs.length:Int)<6:=m_ c2
     right
     obtain⟨is,d4,d6,d7,d8,d9,M2,e,p2,u2,pr,inv2,l2,cl2⟩:=au2 (W:=W) (M:=M1) (a0:=a0) (a2:=a2) (a3:=a3) (a4:=b4) (a6:=b6) (a7:=b7) (a8:=b8) (a9:=b9) (k:=k) hz g3 g1 (c_ g4 (by decide)) (show hs[k]?=some hs[k] by simp[c1]);refine⟨M1,.next,_,M2,10-(k+1),?_,?_,.inl rfl,by lia,is,k+1,d4,d6,d7,d8,d9,rfl,p2,g2.trans u2,inv2,by lia,?_,by lia,rfl,?_⟩
     . simp[Ot g1,c1',c2']
     . simp[O8,e]
     . intro i j f g hi' hj' hf hg
       have back:∀(i:Nat)(f:F),i<k+1->is[i]?=some f->hs[i]?=some f:=λi f hi hf=>by
        have hlt:i<hs.length:=b_ hi c1
        have:=U6 pr (show hs[i]?=some hs[i] by simp[hlt]);rw[hf] at this;rw[this];simp[hlt]
       have hf':=back i f hi' hf;have hg':=back j g hj' hg
       by_cases ei:i=k
       . subst ei
         have:f=hs[i]:=by have:=hf';simp[c1] at this;exact this.symm
         subst this;exact(cl2 j g hg').1
       . by_cases ej:j=k
         . subst ej
           have:g=hs[j]:=by have:=hg';simp[c1] at this;exact this.symm
           subst this;exact(cl2 i f hf').2
         . exact(g5 i j f g (by lia) (by lia) hf' hg').mono pr
     . intro e0
       have:=g8 e0;subst this;simp at c1
   . left
     have c2':¬(hs.length:Int)<6:=by lia
     exact⟨M1,by simp[Ot g1,c1',c2'],rfl,hs,g1,g2,g3,g4,λq=>absurd q c2,g8⟩
 . left
   have c1':¬(k:Int)<(hs.length:Int):=by lia
   refine⟨M1,by simp[Ot g1,c1'],rfl,hs,g1,g2,g3,g4,λ_=>?_,g8⟩;intro f hf g hg;obtain⟨i,hi',ei⟩:=uc hf;obtain⟨j,hj',ej⟩:=uc hg;exact g5 i j f g (b_ hi' (s_ c1)) (b_ hj' (s_ c1)) (by simp[hi',ei]) (by simp[hj',ej])
theorem aas(hm:1<=m)(hz:Sz sz)(hg:Good sz fs)(hl:fs.length<=3)(hd:asList M d=some (fs.map F.toD)) :
 ∃(hs:List F)(M':Store),prog.call m 16 [d] M=.ok (.ref M.length) M'/\M'[M.length]?=some (.lst (hs.map F.toD))/\Bd M M'/\M'.length=M.length+1/\Inv sz hs/\hs.length<=15/\(hs.length<6->Q7 hs)/\(fs=[]->hs=[]):=by
 rw[call_of hm rfl];have hd1:asList (M++[.lst []]) d=some (fs.map F.toD):=(Bd.app M _).asList hd;obtain⟨s,hs0,ρ1,M1,e1,gs,b2,b3,b4,rfl,h1,h2,h3,h4,h5⟩:=Ys (body:=λd ρ M=>match(Tg.names [2,3,4]).put d ρ with
  | some ρ'=>yr.den ⟨prog.call (m-1),prog.cls⟩ ρ' M|none=>.bad)
  (λi ρ M'=>∃(gs:List F)(b2 b3 b4:Option D),ρ=[some d,some (.ref M.length),b2,b3,b4,none,none,none,none,none]/\M'[M.length]?=some (.lst (gs.map F.toD))/\Up M.length (M++[.lst []]) M'/\Inv sz gs/\gs.length<=i/\(fs=[]->gs=[]))
  (ρ:=[some d,some (.ref M.length),none,none,none,none,none,none,none,none]) (M:=M++[.lst []]) hd1
  ⟨[],none,none,none,rfl,by simp,Up.refl _ _,⟨λf hf=>by simp at hf,by simp,λf hf=>by simp at hf⟩,by simp,λ_=>rfl⟩
  (λi ρ M' hI=>by
   obtain⟨gs,b2,b3,b4,rfl,g1,g2,g3,g4,g5⟩:=hI;cases d with
   |vl xs=>exact hd
   |ref n =>
    have hn:n≠M.length:=by
     simp only[asList] at hd;cases e:M[n]? with
     |none=>rw[e] at hd;simp at hd|some o=>have:=v5 e;exact h_ this
    simp only[asList] at hd1 ⊢;rw[g2.oth n hn];exact hd1
   | _=>simp[asList] at hd)
  (λi x ρ M' hx hI=>by
   obtain⟨gs,b2,b3,b4,rfl,g1,g2,g3,g4,g5⟩:=hI;obtain⟨f,hf,rfl⟩:∃f,fs[i]?=some f/\f.toD=x:=by simpa using hx
   have hfm:=az hf;have hil:=(ak.mp hf).1;obtain⟨M2,e2,p2,u2⟩:=akk (W:=⟨prog.call (m-1),prog.cls⟩) (M:=M') (a0:=some d) (a5:=none) (a6:=none) (a7:=none) (a8:=none) (a9:=none) hz (hg f hfm) g1 (c_ g4 (b_ hil (a_ hl (by decide))));refine⟨.next,_,M2,?_,.inl rfl,aco gs f,some (.int f.a),some (.int f.b),some (Hw f.r),rfl,p2,g2.trans u2,apo g3 (hg f hfm),?_,λe=>?_⟩
   . rw[apn];exact e2
   . have:=apq gs f;exact a_ this (v_ g4)
   . subst e;simp at hf)
 have hgl:gs.length<=3:=by simp at h4;exact a_ h4 hl
 obtain⟨ρ2,M2,e2,q1,hs,p2,u2,inv2,l2,c2,z2⟩:=akl (W:=⟨prog.call (m-1),prog.cls⟩) (M:=M1) (a0:=some d) (a2:=b2) (a3:=b3) (a4:=b4) (a6:=none) (a7:=none) (a8:=none) (a9:=none) hz h3 h1 hgl;have up:=h2.trans u2;refine⟨hs,M2,?_,p2,λa o h=>?_,?_,inv2,l2,c2,λe=>z2 (h5 e)⟩
 . have e1':J6.den ⟨prog.call (m-1),prog.cls⟩ [some d,some (.ref M.length),none,none,none,none,none,none,none,none] (M++[.lst []])=.ok (.next,[some d,some (.ref M.length),b2,b3,b4,none,none,none,none,none]) M1:=by
    unfold J6;rw[Vg];simp[hs0];exact e1
   simp[Fn.run,Sd,R9,MW.new,e1',e2,q1]
 . have:=v5 h
   rw[up.oth a (h_ this)];exact vq h
 . rw[up.len];simp
end
end K04
namespace MW
section
variable{W:Dy}{ρ:Env}{M:Store}
theorem Rk(v:Bool)(k:Nat)(t:Tg)(it:Rp)(e:Ex):(Ex.comp v k t it e).den W ρ M=(it.den W ρ M).bind λs M1 =>
 (Al s (λd M=>(Res.ofOpt (t.put d (ρ++List.replicate k none)) M).bind fun ρ' M=>(e.den W ρ' M).bind λx M'=>.ok (some x) M') M1).bind λds M2=>if v then .ok (.vl ds) M2 else new (.lst ds) M2:=by
 rw[Qf]
 congr 1;funext s M1;congr 2;funext d M
 cases t.put d (ρ++List.replicate k none)<;>rfl
theorem Wq(v:Bool)(k:Nat)(t:Tg)(it:Rp)(c e:Ex):(Ex.Gm v k t it c e).den W ρ M=(it.den W ρ M).bind λs M1 =>
 (Al s (λd M=>(Res.ofOpt (t.put d (ρ++List.replicate k none)) M).bind fun ρ' M=>(c.den W ρ' M).bind λb M' =>
  match b with
   |.bl true=>(e.den W ρ' M').bind λx M''=>.ok (some x) M''
   | .bl false=>.ok none M'|_=>.bad) M1).bind λds M2=>if v then .ok (.vl ds) M2 else new (.lst ds) M2:=by
 rw[Xm]
 congr 1;funext s M1;congr 2;funext d M
 cases t.put d (ρ++List.replicate k none)<;>rfl
theorem Rm(t:Tg)(it:Rp)(b:m7):(Fl.for_ t it b).den W ρ M=(it.den W ρ M).bind λs M1=>Gf s.fin s.item (λd ρ M=>(Res.ofOpt (t.put d ρ) M).bind fun ρ' M=>b.den W ρ' M) s.len 0 ρ M1:=by
 rw[Vg]
 congr 1;funext s M1;congr 1;funext d ρ M
 cases t.put d ρ<;>rfl
theorem xj{n:Nat}(hit:it.den W ρ M=.ok (.int (n:Int)) M1)(hn:n<=100000)(I:Nat->Env->Store->Prop)(h0:I 0 ρ M1)(step:∀i ρ M,i<n->I i ρ M->∃ρ1 fl ρ' M',t.put (.int i) ρ=some ρ1/\b.den W ρ1 M=.ok (fl,ρ') M'/\(fl=.next\/fl=.cont)/\I (i+1) ρ' M') :
 ∃ρ' M',(Fl.for_ t (.Px it) b).den W ρ M=.ok (.next,ρ') M'/\I n ρ' M':=by
 rw[Rm,Uh,hit];have hn':((n:Int)).natAbs<=100000:=by lia
 simp only[Res.zy,hn',jq,qg];exact acg I h0 (λi ρ M hi h=>by
  obtain⟨ρ1,fl,ρ',M',a,b,c,d⟩:=step i ρ M hi h;exact⟨fl,ρ',M',by rw[a];exact b,c,d⟩)
theorem Km(hit:it.den W ρ M=.ok d M1)(hd:asList M1 d=some ds)(I:Nat->Env->Store->Prop)(h0:I 0 ρ M1)(stay:∀i ρ M,I i ρ M->asList M d=some ds)(step:∀i x ρ M,ds[i]?=some x->I i ρ M->∃ρ1 fl ρ' M',t.put x ρ=some ρ1/\b.den W ρ1 M=.ok (fl,ρ') M'/\(fl=.next\/fl=.cont)/\I (i+1) ρ' M') :
 ∃ρ' M',(Fl.for_ t (.val it) b).den W ρ M=.ok (.next,ρ') M'/\I ds.length ρ' M':=by
 rw[Rm,Oa,hit];obtain⟨s,h1,h2⟩:=Ys (body:=λd ρ M=>(Res.ofOpt (t.put d ρ) M).bind fun ρ' M=>b.den W ρ' M) I hd h0 stay (λi x ρ M hx h=>by
  obtain⟨ρ1,fl,ρ',M',a,b,c,d⟩:=step i x ρ M hx h;exact⟨fl,ρ',M',by rw[a];exact b,c,d⟩)
 simp only[Res.zy,h1,Res.Dl];exact h2
theorem Wr(hit:it.den W ρ M=.ok (.tup ds) M1)(I:Nat->Env->Store->Prop)(h0:I 0 ρ M1)(step:∀i x ρ M,ds[i]?=some x->I i ρ M->∃ρ1 fl ρ' M',t.put x ρ=some ρ1/\b.den W ρ1 M=.ok (fl,ρ') M'/\(fl=.next\/fl=.cont)/\I (i+1) ρ' M') :
 ∃ρ' M',(Fl.for_ t (.val it) b).den W ρ M=.ok (.next,ρ') M'/\I ds.length ρ' M':=by
 rw[Rm,Oa,hit];exact U5 I h0 (λi x ρ M hx h=>by
  obtain⟨ρ1,fl,ρ',M',a,b,c,d⟩:=step i x ρ M hx h;exact⟨fl,ρ',M',by rw[a];exact b,c,d⟩)
theorem Ra(hit:it.den W ρ M=.ok (.tup ds) M1)(I:Nat->Env->Store->Prop)(h0:I 0 ρ M1)(step:∀i x ρ M,ds[i]?=some x->I i ρ M->∃ρ1 fl ρ' M',t.put (.tup [.int i,x]) ρ=some ρ1/\b.den W ρ1 M=.ok (fl,ρ') M'/\(fl=.next\/fl=.cont)/\I (i+1) ρ' M') :
 ∃ρ' M',(Fl.for_ t (.enm it) b).den W ρ M=.ok (.next,ρ') M'/\I ds.length ρ' M':=by
 rw[Rm,ahq,hit];have:=U5 (ds:=Ks ds 0) (body:=λd ρ M=>(Res.ofOpt (t.put d ρ) M).bind fun ρ' M=>b.den W ρ' M) I h0 (λi x ρ M hx h=>by
  have hil:i<ds.length:=by have:=(ak.mp hx).1;simpa[Ks] using this
  have hx':x=.tup [.int i,ds[i]]:=by simp[Ks,hil] at hx;exact hx.symm
  subst hx';obtain⟨ρ1,fl,ρ',M',a,b,c,d⟩:=step i ds[i] ρ M (by simp[hil]) h;exact⟨fl,ρ',M',by rw[a];exact b,c,d⟩)
 have e:(Ks ds 0).length=ds.length:=by simp[Ks]
 rw[e] at this;exact this
theorem Ao(hit:it.den W ρ M=.ok d M1)(hd:asList M1 d=some ds)(hl:ds.length<=100000)(h:∀x∈ds,∃ρ1,t.put x (ρ++List.replicate k none)=some ρ1/\e.den W ρ1 M1=.ok (g x) M1) :
 (Ex.comp v k t (.val it) e).den W ρ M=if v then .ok (.vl (ds.map g)) M1 else new (.lst (ds.map g)) M1:=by
 rw[Rk,Oa,hit];obtain⟨s,h1,h2⟩:=aey (g:=λx=>some (g x)) (body:=λd M=>(Res.ofOpt (t.put d (ρ++List.replicate k none)) M).bind fun ρ' M=>(e.den W ρ' M).bind λx M'=>.ok (some x) M') hd hl (λx hx=>by
  obtain⟨ρ1,a,b⟩:=h x hx;rw[a];simp[b])
 simp only[Res.zy,h1,Res.Dl,h2,Fw]
theorem acp(hit:it.den W ρ M=.ok (.tup ds) M1)(hl:ds.length<=100000)(h:∀x∈ds,∃ρ1,t.put x (ρ++List.replicate k none)=some ρ1/\e.den W ρ1 M1=.ok (g x) M1) :
 (Ex.comp v k t (.val it) e).den W ρ M=if v then .ok (.vl (ds.map g)) M1 else new (.lst (ds.map g)) M1:=by
 rw[Rk,Oa,hit];have h2:=aip (g:=g) (M:=M1) (body:=λd M=>(Res.ofOpt (t.put d (ρ++List.replicate k none)) M).bind fun ρ' M=>(e.den W ρ' M).bind λx M'=>.ok (some x) M') hl (λx hx=>by
  obtain⟨ρ1,a,b⟩:=h x hx;rw[a];simp[b])
 show(Al (.con ds) _ M1).bind _=_;rw[h2];rfl
theorem Yx{n:Nat}(hit:it.den W ρ M=.ok (.int (n:Int)) M1)(hl:n<=100000)(h:∀i,i<n->∃ρ1,t.put (.int i) (ρ++List.replicate k none)=some ρ1/\c.den W ρ1 M1=.ok (.bl (q i)) M1/\(q i=true->e.den W ρ1 M1=.ok (g i) M1)) :
 (Ex.Gm v k t (.Px it) c e).den W ρ M=if v then .ok (.vl (((List.range n).filter q).map g)) M1 else new (.lst (((List.range n).filter q).map g)) M1:=by
 rw[Wq,Uh,hit];have hn':((n:Int)).natAbs<=100000:=by lia
 simp only[Res.zy,hn',jq,qg];rw[Yt (ds:=(List.range n).map λ(k:Nat)=>D.int (k:Int)) (g:=λd=>match d with|.int i=>if q i.toNat then some (g i.toNat) else none|_=>none) (by simpa using hl) (λx hx=>by
  obtain⟨i,hi,rfl⟩:=bu.mp hx;obtain⟨ρ1,a,b,c⟩:=h i (jw.mp hi);rw[a,Res.Dl,Res.zy,b,Res.zy];cases e:q i with
  | true=>simp[e,c e]|false=>simp[e])]
 have:(((List.range n).map λ(k:Nat)=>D.int (k:Int)).filterMap λd=>match d with|.int i=>if q i.toNat then some (g i.toNat) else none|_=>none)=((List.range n).filter q).map g:=by
  rw[Hz]
  induction List.range n with
  |nil=>rfl|cons a l ih=>by_cases e:q a=true<;>simp[e,ih]
 rw[this];rfl
end
end MW
namespace K04
open MW
noncomputable def eD(f:F):D:=.tup [.int f.a,.int f.b]
noncomputable def Lp(hs:List F):D:=.tup (hs.map eD)
noncomputable def ent(hs:List F)(f g:F):Int:=if f.comp g∈hs then(pos (f.comp g) hs:Int) else -1
noncomputable def ky(j k:Nat):List Kx:=[.inl (j:Int),.inl (k:Int)]
theorem ag0(h:ky j k=ky j' k'):j=j'/\k=k':=by simp[ky] at h;exact⟨D_ h.1,D_ h.2⟩
noncomputable def Bef(j k j' k':Nat):Prop:=j'<j\/(j'=j/\k'<k)
structure Tb(hs:List F)(j k:Nat)(kvs:List (List Kx×D)):Prop where
 keys:∀p∈kvs,∃(j' k':Nat)(f g:F),p=(ky j' k',.int (ent hs f g))/\hs[j']?=some f/\hs[k']?=some g/\f.b=g.a/\Bef j k j' k'
 look:∀(j' k':Nat)(f g:F),hs[j']?=some f->hs[k']?=some g->f.b=g.a->Bef j k j' k'->Bf kvs (ky j' k')=some (.int (ent hs f g))
 len:kvs.length<=j*hs.length+k
theorem akm{kvs:List (List Kx×D)}(h:∀p∈kvs,p.1≠q):Bf kvs q=none:=by unfold Bf;rw[Eb.mpr (λp hp=>by simpa using h p hp)];rfl
theorem akn{kvs:List (List Kx×D)}(h:∀p∈kvs,p.1≠q):Ib kvs q v=kvs++[(q,v)]:=by unfold Ib;rw[bz];simp only[Cj,di,not_exists,not_and];exact h
theorem acq{kvs:List (List Kx×D)}(h:q≠q'):Bf (kvs++[(q,v)]) q'=Bf kvs q':=by
 unfold Bf;rw[List.find?_append];cases e:kvs.find? (λp=>decide (p.1=q')) with
 |some p=>rfl|none=>simp[h]
theorem acr{kvs:List (List Kx×D)}(h:∀p∈kvs,p.1≠q):Bf (kvs++[(q,v)]) q=some v:=by unfold Bf;rw[List.find?_append,Eb.mpr (λp hp=>by simpa using h p hp)];simp
theorem Tb.skip(h:Tb hs j k kvs)(hf:hs[j]?=some f)(hg:hs[k]?=some g)(n:f.b≠g.a):Tb hs j (k+1) kvs:=by
 refine⟨λp hp=>?_,λj' k' f' g' a b c d=>?_,by have:=h.len;exact a_ this (w_ x_)⟩
 . obtain⟨j',k',f',g',e,a,b,c,d⟩:=h.keys p hp
   exact⟨j',k',f',g',e,a,b,c,by unfold Bef at *;lia⟩
 . by_cases q:j'=j/\k'=k
   . obtain⟨rfl,rfl⟩:=q
     rw[hf] at a;rw[hg] at b;cases a;cases b;exact absurd c n
   . exact h.look j' k' f' g' a b c (by unfold Bef at *;lia)
theorem Tb.fresh(h:Tb hs j k kvs):∀p∈kvs,p.1≠ky j k:=by
 intro p hp e;obtain⟨j',k',f',g',rfl,a,b,c,d⟩:=h.keys p hp;have:=ag0 e;unfold Bef at d
 lia
theorem Tb.put(h:Tb hs j k kvs)(hf:hs[j]?=some f)(hg:hs[k]?=some g)(n:f.b=g.a):Tb hs j (k+1) (Ib kvs (ky j k) (.int (ent hs f g))):=by
 rw[akn h.fresh];refine⟨λp hp=>?_,λj' k' f' g' a b c d=>?_,by have:=h.len;simp;lia⟩
 . rcases dw.mp hp with q|q
   . obtain⟨j',k',f',g',e,a,b,c,d⟩:=h.keys p q
     exact⟨j',k',f',g',e,a,b,c,by unfold Bef at *;lia⟩
   . have:p=(ky j k,.int (ent hs f g)):=by simpa using q
     exact⟨j,k,f,g,this,hf,hg,n,by unfold Bef;lia⟩
 . by_cases q:j'=j/\k'=k
   . obtain⟨rfl,rfl⟩:=q
     rw[hf] at a;rw[hg] at b;cases a;cases b;exact acr h.fresh
   . rw[acq (λe=>q (by have:=ag0 e;exact⟨this.1.symm,this.2.symm⟩))]
     exact h.look j' k' f' g' a b c (by unfold Bef at *;lia)
theorem Tb.next(h:Tb hs j hs.length kvs):Tb hs (j+1) 0 kvs:=by
 refine⟨λp hp=>?_,λj' k' f' g' a b c d=>?_,by have:=h.len;have e:(j+1)*hs.length=j*hs.length+hs.length:=Jt _ _;exact a_ this (a_ (g_ e) x_)⟩
 . obtain⟨j',k',f',g',e,a,b,c,d⟩:=h.keys p hp
   exact⟨j',k',f',g',e,a,b,c,by unfold Bef at *;lia⟩
 . have:=(ak.mp b).1
   exact h.look j' k' f' g' a b c (by unfold Bef at *;lia)
section
variable{W:Dy}{M:Store}{sz:Nat->Nat}
theorem apr{hs:List F}{j k:Nat}(hz:Sz sz)(hf:Zc sz f)(hg:Zc sz g)(h:f.b=g.a)(hq:M[q]?=some (.lst (hs.map F.toD)))(hj:hs[j]?=some f)(hk:hs[k]?=some g) :
 Jb.den W [a0,a1,some (.ref q),a3,a4,some (.int j),some (.int k),a7] M=.ok (.vl ((f.comp g).r.map nD)) M:=by
 have hsm:(f.r.map nD).length<=100000:=by rw[fc,hf.len];have:=hz f.a;exact a_ this.2 (by decide)
 unfold Jb;rw[acp (ds:=f.r.map nD) (M1:=M) (g:=λd=>match d with|.int i=>nD (g.r.getD i.toNat 0)|_=>.non) (by simp[S8 hq hj,apk,Hw]) hsm (λx hx=>by
  obtain⟨y,hy,rfl⟩:=bu.mp hx;have hy':y<g.r.length:=by rw[hg.len,<- h];exact hf.ran y hy
  exact⟨_,rfl,by simp[S8 hq hk,apk,nD,apl M g.r hy']⟩)]
 simp[F.comp,nD]
theorem ag1(hz:Sz sz)(hi:Inv sz hs)(hl:hs.length<=5)(hq:M[q]?=some (.lst (hs.map F.toD)))(hr:M[r]?=some (.dT kvs))(hj:hs[j]?=some f)(hk:hs[k]?=some g)(ht:Tb hs j k kvs) :
 ∃(b7:Option D)(M':Store)(kvs':List (List Kx×D)),Aq.den W [a0,a1,some (.ref q),a3,some (.ref r),some (.int j),some (.int k),a7] M=.ok (.next,[a0,a1,some (.ref q),a3,some (.ref r),some (.int j),some (.int k),b7]) M' /\
  M'[r]?=some (.dT kvs')/\Tb hs j (k+1) kvs'/\Up r M M':=by
 have hjl:=(ak.mp hj).1;have hkl:=(ak.mp hk).1;have hf:=hi.good f (az hj);have hg:=hi.good g (az hk)
 by_cases h:f.b=g.a
 . have hc:=apr (W:=W) (M:=M) (a0:=a0) (a1:=a1) (a3:=a3) (a4:=some (.ref r)) (a7:=a7) hz hf hg h hq hj hk
   have hmem:=apg M (f.comp g) hs;have hkv:kvs.length<100000:=by
    have:=ht.len;have:j*hs.length<=5*5:=El (e_ (b_ hjl hl)) hl
    lia
   have st:=ayh (d:=.int (ent hs f g)) (b:=.tup [.int j,.int k]) hr rfl hkv;refine⟨some (f.comp g).toD,_,Ib kvs (ky j k) (.int (ent hs f g)),?_,qb (o:=.dT (Ib kvs (ky j k) (.int (ent hs f g)))) hr,ht.put hj hk h,Up.set _ _ _⟩
   by_cases m:f.comp g∈hs
   . have hix:Hx .index (.ref q) [(f.comp g).toD] M=.ok (.int (pos (f.comp g) hs)) M:=by simp[Hx,Jo (j6 hq),a6l,m]
     have hty:Mw .index (.ref q) M=true:=by simp[Mw,j6 hq]
     have he:ent hs f g=(pos (f.comp g) hs:Int):=cu m;rw[he] at st;simp[-eq_int,Aq,S8 hq hj,S8 hq hk,Wn,Wo,Cd,h,hc,acn,agz,Tw hq,hmem,m,hty,hix,st,he,ky]
   . have he:ent hs f g=-1:=bz m
     rw[he] at st;simp[-eq_int,Aq,S8 hq hj,S8 hq hk,Wn,Wo,Cd,h,hc,acn,agz,Tw hq,hmem,m,st,he,ky]
 . refine⟨a7,M,kvs,?_,hr,ht.skip hj hk h,Up.refl r M⟩
   simp[-eq_int,Aq,S8 hq hj,S8 hq hk,Wn,Wo,Cd,h]
theorem az6(hz:Sz sz)(hi:Inv sz hs)(hl:hs.length<=5)(hq:M[q]?=some (.lst (hs.map F.toD)))(hr:M[r]?=some (.dT []))(hqr:q≠r) :
 ∃(ρ':Env)(M':Store)(kvs:List (List Kx×D)),Jd.den W [a0,a1,some (.ref q),a3,some (.ref r),a5,a6,a7] M=.ok (.next,ρ') M'/\ρ'[2]?=some (some (.ref q))/\ρ'[3]?=some a3/\ρ'[4]?=some (some (.ref r))/\ρ'.length=8 /\
  M'[r]?=some (.dT kvs)/\Tb hs hs.length 0 kvs/\Up r M M':=by
 unfold Jd;have hlen:∀(M':Store),Up r M M'->o6 .len [.ref q] M'=.ok (.int hs.length) M':=λM' u=>Ot (by rw[u.oth q hqr];exact hq)
 obtain⟨ρ',M',e,b5,b6,b7,kvs,rfl,h1,h2,h3⟩:=xj (W:=W) (t:=.name 5) (b:=Jc) (it:=.blt .len (.cons (.var 2) .nil)) (n:=hs.length) (ρ:=[a0,a1,some (.ref q),a3,some (.ref r),a5,a6,a7]) (M:=M) (M1:=M) (by simp[Ot hq]) (a_ hl (by decide))
  (λj ρ M'=>∃(b5 b6 b7:Option D)(kvs:List (List Kx×D)),ρ=[a0,a1,some (.ref q),a3,some (.ref r),b5,b6,b7]/\M'[r]?=some (.dT kvs)/\Tb hs j 0 kvs/\Up r M M')
  ⟨a5,a6,a7,[],rfl,hr,⟨λp hp=>by simp at hp,λj' k' f g a b c d=>by unfold Bef at d;lia,by simp⟩,Up.refl r M⟩
  (λj ρ M1 hj hI=>by
   obtain⟨b5,b6,b7,kvs,rfl,g1,g2,g3⟩:=hI;have hq1:M1[q]?=some (.lst (hs.map F.toD)):=by rw[g3.oth q hqr];exact hq
   obtain⟨ρ2,M2,e2,c6,c7,ba9,rfl,k1,k2,k3⟩:=xj (W:=W) (t:=.name 6) (b:=Aq) (it:=.blt .len (.cons (.var 2) .nil)) (n:=hs.length) (ρ:=[a0,a1,some (.ref q),a3,some (.ref r),some (.int j),b6,b7]) (M:=M1) (M1:=M1) (by simp[Ot hq1]) (a_ hl (by decide))
    (λk ρ M'=>∃(b6 b7:Option D)(kvs:List (List Kx×D)),ρ=[a0,a1,some (.ref q),a3,some (.ref r),some (.int j),b6,b7]/\M'[r]?=some (.dT kvs)/\Tb hs j k kvs/\Up r M1 M')
    ⟨b6,b7,kvs,rfl,g1,g2,Up.refl r M1⟩
    (λk ρ M2 hk hI=>by
     obtain⟨b6,b7,kvs,rfl,k1,k2,k3⟩:=hI;have hq2:M2[q]?=some (.lst (hs.map F.toD)):=by rw[k3.oth q hqr];exact hq1
     obtain⟨c7,M3,bba,e3,p3,t3,u3⟩:=ag1 (W:=W) (M:=M2) (a0:=a0) (a1:=a1) (a3:=a3) (a7:=b7) hz hi hl hq2 k1 (show hs[j]?=some hs[j] by simp[hj]) (show hs[k]?=some hs[k] by simp[hk]) k2;exact⟨_,.next,_,M3,rfl,e3,.inl rfl,_,c7,bba,rfl,p3,t3,k3.trans u3⟩)
   exact⟨_,.next,_,M2,rfl,by simp[Jc,Nr,e2],  .inl rfl,some (.int j),c6,c7,ba9,rfl,k1,k2.next,g3.trans k3⟩)
 exact⟨_,M',kvs,e,rfl,rfl,rfl,rfl,h1,h2,h3⟩
end
structure V3(sz:Nat->Nat)(K:Nat)(hs:List F)(kvs:List (List Kx×D)):Prop where
 hz:Sz sz
 inv:Inv sz hs
 cl:Q7 hs
 len:hs.length<=5
 k1:1<=K
 k3:K<=3
 ae1:∀f∈hs,f.a<K
 ae2:∀f∈hs,f.b<K
 tb:Tb hs hs.length 0 kvs
theorem ae3:∀(xs:List Nat)(a:Nat),∃v:Nat,(xs.map λ(x:Nat)=>(x:Int)).foldl (λm x=>if m<x then x else m) (a:Int)=(v:Int)/\a<=v/\(∀x∈xs,x<=v)/\(v=a\/v∈xs)
 |[],a=>⟨a,rfl,bc _,by simp,.inl rfl⟩
 |x::xs,a=>by
  obtain⟨v,e,h1,h2,h3⟩:=ae3 xs (if a<x then x else a);refine⟨v,?_,?_,λy hy=>?_,?_⟩
  . rw[gq,Df,<- e]
    congr 1
    by_cases q:a<x
    . have:(a:Int)<(x:Int):=m_ q
      simp[q]
    . have:¬(a:Int)<(x:Int):=by lia
      simp[q]
  . split at h1<;>omega
  . rcases bw.mp hy with q|q
    . subst q;split at h1<;>omega
    . exact h2 y q
  . rcases h3 with q|q
    . by_cases w:a<x
      . right;rw[cu w] at q;subst q;simp
      . left;rw[bz w] at q;exact q
    . right;exact bh _ q
theorem ae4:∀xs:List Nat,Ww (xs.map nD)=some (xs.map λ(x:Nat)=>(x:Int))
 |[]=>rfl|x::xs=>by simp[nD,Ww,show Ww (xs.map nD)=_ from ae4 xs]
section
variable{W:Dy}{M:Store}{sz:Nat->Nat}
theorem aps(h:xs≠[]):∃v:Nat,o6 .max [.vl (xs.map nD)] M=.ok (.int v) M/\(∀x∈xs,x<=v)/\v∈xs:=by
 obtain⟨a,r,rfl⟩:∃a r,xs=a::r:=Cy h;obtain⟨v,e,h1,h2,h3⟩:=ae3 r a;refine⟨v,?_,λx hx=>?_,?_⟩
 . have:=ae4 (a::r)
   simp only[o6,ar5,ajt,pq,this];simp only[gq,ax6,pq,wz,Res.Dl,e]
 . rcases bw.mp hx with q|q
   . subst q;exact h1
   . exact h2 x q
 . rcases h3 with q|q
   . rw[q];simp
   . exact bh _ q
theorem max2(a b:Nat):o6 .max [.int a,.int b] M=.ok (nD (max a b)) M:=by
 by_cases h:a<b
 . have h':(a:Int)<b:=m_ h
   have e:max a b=b:=by lia
   simp[o6,h,nD,e]
 . have h':¬(a:Int)<b:=by lia
   have e:max a b=a:=by lia
   simp[o6,h,nD,e]
noncomputable def toF:D->F
 |.tup [.int a,.int b,.tup r]=>⟨a.toNat,b.toNat,r.map λd=>match d with|.int i=>i.toNat|_=>0⟩
 |_=>⟨0,0,[]⟩
theorem Xd(f:F):toF f.toD=f:=by
 obtain⟨a,b,r⟩:=f;simp only[F.toD,Hw,toF,Ad,qg,F.mk.injEq,true_and]
 conv=>rhs;rw[<- List.map_id r]
 exact qi λx _=>by simp[nD]
theorem apt{hs:List F}(hl:hs.length<=100000)(hq:M[q]?=some (.lst (hs.map F.toD))) :
 Je.den W [a0,a1,some (.ref q),a3,a4,a5,a6,a7] M=.ok (.vl ((hs.map λf=>max f.a f.b).map nD)) M:=by
 unfold Je;rw[Ao (d:=.ref q) (ds:=hs.map F.toD) (M1:=M) (g:=λd=>nD (max (toF d).a (toF d).b)) (by simp) (j6 hq) (by simpa using hl) (λx hx=>by
  obtain⟨f,hf,rfl⟩:=bu.mp hx;exact⟨_,apn _ _ _ _ _,by simp[max2,Xd]⟩)]
 simp[Xd]
theorem ako{hs:List F}(hρ:ρ[2]?=some (some (.ref q)))(hρl:ρ.length=8)(hl:hs.length<=100000)(hq:M[q]?=some (.lst (hs.map F.toD))) :
 Ja.den W ρ M=.ok (.vl (hs.map eD)) M:=by
 unfold Ja;rw[Ao (d:=.ref q) (ds:=hs.map F.toD) (M1:=M) (g:=λd=>eD (toF d)) (by simp[hρ]) (j6 hq) (by simpa using hl) (λx hx=>by
  obtain⟨f,hf,rfl⟩:=bu.mp hx;refine⟨_,apn _ _ _ _ _,?_⟩;rw[Xd];simp[eD,List.getElem?_set,hρl])]
 simp[Xd]
theorem akp(hm:1<=m)(hz:Sz sz)(hs0:V2 t f M)(hg:Good sz fs)(hl:fs.length<=3)(hd:asList M d=some (fs.map F.toD))(hq:M[q]?=some (.lst (hs.map F.toD)))(hqt:q≠t)(hi:Inv sz hs)(hhl:hs.length<=15)(hc:hs.length<6->Q7 hs)(h0:fs=[]->hs=[]) :
 ∃(ρ':Env)(M':Store),Jf.den ⟨prog.call m,prog.cls⟩ [some (.ref t),some d,some (.ref q),a3,a4,a5,a6,a7] M=.ok (.next,ρ') M'/\∃(d':D)(q':Nat)(hs':List F),ρ'=[some (.ref t),some d',some (.ref q'),a3,a4,a5,a6,a7] /\
  M'[q']?=some (.lst (hs'.map F.toD))/\q'≠t/\Inv sz hs'/\hs'.length<=5/\Q7 hs'/\Bd M M':=by
 unfold Jf;rw[abm];refine Rj (λn ρ M'=>∃(d:D)(fs hs:List F)(q:Nat),ρ=[some (.ref t),some d,some (.ref q),a3,a4,a5,a6,a7]/\fs.length=n/\Good sz fs/\fs.length<=3/\asList M' d=some (fs.map F.toD)/\M'[q]?=some (.lst (hs.map F.toD))/\q≠t /\
  Inv sz hs/\hs.length<=15/\(hs.length<6->Q7 hs)/\(fs=[]->hs=[])/\Bd M M')
  (fun ρ' M'=>∃(d':D)(q':Nat)(hs':List F),ρ'=[some (.ref t),some d',some (.ref q'),a3,a4,a5,a6,a7]/\M'[q']?=some (.lst (hs'.map F.toD))/\q'≠t/\Inv sz hs'/\hs'.length<=5/\Q7 hs'/\Bd M M') ?_ af9 fs.length _ M (by unfold af9;exact c_ hl (by decide))
  ⟨d,fs,hs,q,rfl,rfl,hg,hl,hd,hq,hqt,hi,hhl,hc,h0,Bd.refl M⟩
 intro n ρ M1 hI;obtain⟨d,fs,hs,q,rfl,rfl,g1,g2,g3,g4,g5,g6,g7,g8,g9,g10⟩:=hI
 by_cases c:5<hs.length
 . right
   have c':(5:Int)<(hs.length:Int):=m_ c
   have hne:fs≠[]:=λe=>by rw[g9 e] at c;simp at c
   have hpos:1<=fs.length:=List.length_pos_iff.mpr hne
   have bbc:cutOp d none (some (-1)) M1=some (.vl (fs.dropLast.map F.toD)):=by
    have hcl:abi (fs.map F.toD) none (some (-1))=fs.dropLast.map F.toD:=by
     have e2:((-1:Int)+(fs.length:Int)).toNat=fs.length-1:=by lia
     simp[abi,clip,e2,List.map_dropLast,List.dropLast_eq_take]
    cases d with
    |tup ds=>simp[asList] at g3|vl ds=>simp only[cutOp,g3,wz,hcl]|ref n=>simp only[cutOp,g3,wz,hcl]|_=>simp[asList] at g3
   have gd:Good sz fs.dropLast:=λf hf=>g1 f (List.dropLast_subset fs hf)
   obtain⟨hs',M2,e,p2,k2,l2,i2,b2,c2,z2⟩:=aas (M:=M1) (m:=m) (d:=.vl (fs.dropLast.map F.toD)) hm hz gd (by simp;exact a_ g2 (by decide)) rfl;have ht1:t<M1.length:=by obtain⟨n,h,_⟩:=hs0;exact v5 (g10 t _ h)
   refine⟨M1,.next,_,M2,fs.length-1,?_,?_,.inl rfl,by lia,.vl (fs.dropLast.map F.toD),fs.dropLast,hs',M1.length,rfl,by simp,gd,by simp;exact a_ g2 (by decide),rfl,p2,i_ ht1,i2,b2,c2,z2,g10.trans k2⟩
   . simp[Ot g4,c']
   . simp[-List.map_dropLast,Nt,bbc,e]
 . left
   have c':¬(5:Int)<(hs.length:Int):=by lia
   exact⟨M1,by simp[Ot g4,c'],d,q,hs,rfl,g4,g5,g6,s_ c,g8 (c_ (s_ c) (by decide)),g10⟩
theorem ag2(hm:3<=m)(hs0:V2 t f M):∃(K r:Nat)(sz:Nat->Nat)(hs:List F)(kvs:List (List Kx×D))(M':Store),prog.call m 17 [.ref t] M=.ok (.tup [.int K,Lp hs,.ref r]) M'/\M'[r]?=some (.dT kvs)/\M.length<=r/\V3 sz K hs kvs/\St t f M M':=by
 rw[call_of (a_ (by decide) hm) rfl];have ht0:t<M.length:=by obtain⟨n,h,_⟩:=hs0;exact v5 h
 obtain⟨d,M1,fs,sz,e1,d1,n1,hz,g1,l1,s1⟩:=apj (m:=m-1) (r_ hm) hs0;obtain⟨hs,M2,e2,p2,k2,ll2,i2,b2,c2,z2⟩:=aas (M:=M1) (m:=m-1) (d:=d) (r_ (a_ (by decide) hm)) hz g1 l1 d1;have ht1:t<M1.length:=by obtain⟨n,h,_⟩:=s1.has;exact v5 h
 have s2:St t f M1 M2:=St.of s1.has k2;obtain⟨ρ3,M3,e3,d',q,hs',rfl,p3,q3,i3,l3,c3,k3⟩:=akp (M:=M2) (m:=m-1) (t:=t) (f:=f) (d:=d) (fs:=fs) (hs:=hs) (q:=M1.length) (a3:=none) (a4:=none) (a5:=none) (a6:=none) (a7:=none) (r_ (a_ (by decide) hm)) hz s2.has g1 l1 (k2.asList d1) p2 (i_ ht1) i2 b2 c2 z2;have s3:St t f M2 M3:=St.of s2.has k3;have s03:=s1.trans (s2.trans s3);have awh:=apt (W:=⟨prog.call (m-1),prog.cls⟩) (M:=M3) (a0:=some (.ref t)) (a1:=some d') (a3:=none) (a4:=none) (a5:=none) (a6:=none) (a7:=none) (by exact a_ l3 (by decide):hs'.length<=100000) p3;obtain⟨v,ev,hv1,hv2⟩:=aps (M:=M3) (xs:=(hs'.map λf:F=>max f.a f.b)++[0]) (by simp);have hadd:Kg .add (.vl ((hs'.map λf:F=>max f.a f.b).map nD)) (.vl [.int 0]) M3=.ok (.vl (((hs'.map λf:F=>max f.a f.b)++[0]).map nD)) M3:=by rw[Z9 _ _ (by simp;exact a_ l3 (by decide))];simp[nD]
 generalize hX:(D.vl ((hs'.map λf:F=>max f.a f.b).map nD))=X at awh hadd;generalize hY:(D.vl (((hs'.map λf:F=>max f.a f.b)++[0]).map nD))=Y at ev hadd;have hv3:v<=2:=by
  rcases dw.mp hv2 with w|w
  . obtain⟨x,hx,rfl⟩:=bu.mp w
    have:=(i3.good x hx).a;have:=(i3.good x hx).b;lia
  . simp at w;exact a_ (f_ w) (jr _)
 have heq:xx M3 (.ref q) (.vl [])=some (decide (hs'=[])):=by
  have hdc:Z6 M3 (.ref q)=false:=by simp[Z6,p3]
  simp only[xx,hdc];cases hs' with
  |nil=>simp[Hd,asList,p3,Ov]|cons a l=>simp[Hd,asList,p3]
 obtain⟨K,M4,hK,k1,k3',ka,kb,p4,s4,l4⟩:∃(K:Nat)(M4:Store),
  (Fl.iff (.cmp .eq (.var 2) (.Mv .nil)) (.cons (.asg (.tg (.name 3)) (.bin .add (.cst (.int 1)) (.call 14 (.cons (.var 0) (.cons (.cst (.int 3)) .nil))))) .nil) .nil).den ⟨prog.call (m-1),prog.cls⟩ [some (.ref t),some d',some (.ref q),some (.int (1+(v:Int))),none,none,none,none] M3
   = .ok (.next,[some (.ref t),some d',some (.ref q),some (.int K),none,none,none,none]) M4/\1<=K/\K<=3/\(∀f∈hs',f.a<K)/\(∀f∈hs',f.b<K)/\M4[q]?=some (.lst (hs'.map F.toD))/\St t f M3 M4/\M4.length=M3.length:=by
  by_cases he:hs'=[]
  . obtain⟨w,M4,ew,lw,sw,llw⟩:=Dn (m:=m-1) (r_ (a_ (by decide) hm)) s3.has (many:=3) (by decide) (by decide)
    refine⟨1+w,M4,?_,x_,by lia,by simp[he],by simp[he],sw.keep q _ q3 p3,sw,llw⟩;simp[heq,he,ew]
  . refine⟨1+v,M3,?_,x_,by lia,λx hx=>?_,λx hx=>?_,p3,St.of s3.has (Bd.refl _),rfl⟩
    . simp[heq,he]
    . have:=hv1 (max x.a x.b) (xf _ (bu.mpr ⟨x,hx,rfl⟩));lia
    . have:=hv1 (max x.a x.b) (xf _ (bu.mpr ⟨x,hx,rfl⟩));lia
 have p5:(M4++[.dT []])[q]?=some (.lst (hs'.map F.toD)):=vq p4;have hql:=v5 p4;obtain⟨ρ6,M6,kvs,e6,r2,r3,r4,r8,p6,t6,u6⟩:=az6 (W:=⟨prog.call (m-1),prog.cls⟩) (M:=M4++[.dT []]) (q:=q) (r:=M4.length) (a0:=some (.ref t)) (a1:=some d') (a3:=some (.int K)) (a5:=none) (a6:=none) (a7:=none) hz i3 l3 p5 (by simp) (h_ hql);have p6q:M6[q]?=some (.lst (hs'.map F.toD)):=by rw[u6.oth q (h_ hql)];exact p5
 have hc1:=ako (W:=⟨prog.call (m-1),prog.cls⟩) (M:=M6) r2 r8 (by exact a_ l3 (by decide):hs'.length<=100000) p6q;have s04:=s03.trans s4;refine⟨K,M4.length,sz,hs',kvs,M6,?_,p6,s04.len,⟨hz,i3,c3,l3,k1,k3',ka,kb,t6⟩,?_⟩
 . simp only[Fn.run,Qx,Qw]
   simp[-a2v,e1,e2,e3,awh,hadd,ev,hK,MW.new,e6,r3,r4,hc1,Yu,Lp]
 . refine s04.trans ⟨?_,?_,λa o na h=>?_⟩
   . rw[u6.len];simp
   . obtain⟨n,h,o⟩:=s4.has
     exact⟨n,by rw[u6.oth t (by have:=v5 h;exact h_ this)];exact vq h,o⟩
   . rw[u6.oth a (by have:=v5 h;exact h_ this)];exact vq h
end
noncomputable def pD(p:Nat×Nat):D:=.tup [.int p.1,.int p.2]
noncomputable def Meet(hs:List F)(j k:Nat):Prop:=∃f g,hs[j]?=some f/\hs[k]?=some g/\f.b=g.a
structure Ps(hs:List F)(j k:Nat)(ps:List (Nat×Nat)):Prop where
 all:∀p:Nat×Nat,p∈ps↔Meet hs p.1 p.2/\Bef j k p.1 p.2
 len:ps.length<=j*hs.length+k
theorem Ps.skip(h:Ps hs j k ps)(hf:hs[j]?=some f)(hg:hs[k]?=some g)(n:f.b≠g.a):Ps hs j (k+1) ps:=by
 refine⟨λp=>?_,by have:=h.len;exact a_ this (w_ x_)⟩;rw[h.all p];constructor
 . exact λq=>⟨q.1,by have:=q.2;unfold Bef at *;lia⟩
 . intro q
   refine⟨q.1,?_⟩;have hb:=q.2
   by_cases e:p.1=j/\p.2=k
   . obtain⟨f',g',a,b,c⟩:=q.1
     rw[e.1,hf] at a;rw[e.2,hg] at b;cases a;cases b;exact absurd c n
   . unfold Bef at *;lia
theorem Ps.put(h:Ps hs j k ps)(hf:hs[j]?=some f)(hg:hs[k]?=some g)(n:f.b=g.a):Ps hs j (k+1) (ps++[(j,k)]):=by
 refine⟨λp=>?_,by have:=h.len;simp;lia⟩;rw[dw,h.all p,v7];constructor
 . rintro(q|q)
   . exact⟨q.1,by have:=q.2;unfold Bef at *;lia⟩
   . subst q;exact⟨⟨f,g,hf,hg,n⟩,by unfold Bef;lia⟩
 . intro q
   by_cases e:p.1=j/\p.2=k
   . right;exact Prod.ext e.1 e.2
   . left;exact⟨q.1,by have:=q.2;unfold Bef at *;lia⟩
theorem Ps.next(h:Ps hs j hs.length ps):Ps hs (j+1) 0 ps:=by
 refine⟨λp=>?_,by have:=h.len;have e:(j+1)*hs.length=j*hs.length+hs.length:=Jt _ _;exact a_ this (a_ (g_ e) x_)⟩;rw[h.all p];constructor
 . exact λq=>⟨q.1,by have:=q.2;unfold Bef at *;lia⟩
 . intro q
   refine⟨q.1,?_⟩;obtain⟨f,g,a,b,c⟩:=q.1;have:=(ak.mp b).1;have:=q.2;unfold Bef at *;lia
theorem aau(f:F)(M:Store):Bc (eD f) (.int 0) M=some (.int f.a):=rfl
theorem aav(f:F)(M:Store):Bc (eD f) (.int 1) M=some (.int f.b):=rfl
theorem U7{i:Nat}(h:hs[i]?=some f):Bc (Lp hs) (.int i) M=some (eD f):=N7 q_ (by simp[h])
theorem Rb:o6 .len [Lp hs] M=.ok (.int hs.length) M:=by simp[o6,yq,Lp]
theorem Li(x y:D)(i j:Nat)(ρ:Env):(Tg.names [i,j]).put (.tup [x,y]) ρ=some ((ρ.set i (some x)).set j (some y)):=rfl
section
variable{W:Dy}{M:Store}{sz:Nat->Nat}
theorem ae5(hl:hs.length<=5)(hq:M[q]?=some (.lst (ps.map pD)))(hj:hs[j]?=some f)(hk:hs[k]?=some g)(hp:Ps hs j k ps) :
 ∃(M':Store)(ps':List (Nat×Nat)),Ca.den W [a0,some (.ref q),some (.int j),some (eD f),some (.int k),some (eD g)] M=.ok (.next,[a0,some (.ref q),some (.int j),some (eD f),some (.int k),some (eD g)]) M' /\
  M'[q]?=some (.lst (ps'.map pD))/\Ps hs j (k+1) ps'/\Up q M M':=by
 have hjl:=(ak.mp hj).1;have hkl:=(ak.mp hk).1
 by_cases h:f.b=g.a
 . have hpl:(ps.map pD).length<100000:=by
    have:=hp.len;have:j*hs.length<=5*5:=El (e_ (b_ hjl hl)) hl
    rw[fc];lia
   have ap:=Hl (d:=.tup [.int j,.int k]) hq hpl;refine⟨M.set q (.lst ((ps++[(j,k)]).map pD)),ps++[(j,k)],?_,qb hq,hp.put hj hk h,Up.set _ _ _⟩;simp[-eq_int,Ca,aau,aav,Cd,h,Ik hq,ap,pD]
 . refine⟨M,ps,?_,hq,hp.skip hj hk h,Up.refl q M⟩
   simp[-eq_int,Ca,aau,aav,Cd,h]
theorem ae6(hm:1<=m)(hl:hs.length<=5) :
 ∃(M':Store)(ps:List (Nat×Nat)),prog.call m 7 [Lp hs] M=.ok (.ref M.length) M'/\M'[M.length]?=some (.lst (ps.map pD))/\Ps hs hs.length 0 ps/\Up M.length (M++[.lst []]) M':=by
 rw[call_of hm rfl];obtain⟨ρ',M',e,b2,b3,b4,b5,ps,rfl,h1,h2,h3⟩:=Ra (W:=⟨prog.call (m-1),prog.cls⟩) (t:=.names [2,3]) (b:=Hr) (it:=.var 0) (ds:=hs.map eD) (ρ:=[some (Lp hs),some (.ref M.length),none,none,none,none]) (M:=M++[.lst []]) (M1:=M++[.lst []]) (by simp[Lp])
  (λj ρ M'=>∃(b2 b3 b4 b5:Option D)(ps:List (Nat×Nat)),ρ=[some (Lp hs),some (.ref M.length),b2,b3,b4,b5]/\M'[M.length]?=some (.lst (ps.map pD))/\Ps hs j 0 ps/\Up M.length (M++[.lst []]) M')
  ⟨none,none,none,none,[],rfl,by simp,⟨λp=>by simp[Bef],by simp⟩,Up.refl _ _⟩
  (λj x ρ M1 hj hI=>by
   obtain⟨b2,b3,b4,b5,ps,rfl,g1,g2,g3⟩:=hI;obtain⟨f,hf,rfl⟩:∃f,hs[j]?=some f/\eD f=x:=by simpa using hj
   obtain⟨ρ2,M2,e2,c4,c5,ps2,rfl,k1,k2,k3⟩:=Ra (W:=⟨prog.call (m-1),prog.cls⟩) (t:=.names [4,5]) (b:=Ca) (it:=.var 0) (ds:=hs.map eD) (ρ:=[some (Lp hs),some (.ref M.length),some (.int j),some (eD f),b4,b5]) (M:=M1) (M1:=M1) (by simp[Lp])
    (λk ρ M'=>∃(b4 b5:Option D)(ps:List (Nat×Nat)),ρ=[some (Lp hs),some (.ref M.length),some (.int j),some (eD f),b4,b5]/\M'[M.length]?=some (.lst (ps.map pD))/\Ps hs j k ps/\Up M.length M1 M')
    ⟨b4,b5,ps,rfl,g1,g2,Up.refl _ _⟩
    (λk y ρ M2 hk hI=>by
     obtain⟨b4,b5,ps,rfl,k1,k2,k3⟩:=hI;obtain⟨g,hg,rfl⟩:∃g,hs[k]?=some g/\eD g=y:=by simpa using hk
     obtain⟨M3,ps3,e3,p3,t3,u3⟩:=ae5 (W:=⟨prog.call (m-1),prog.cls⟩) (M:=M2) (a0:=some (Lp hs)) hl k1 hf hg k2;exact⟨_,.next,_,M3,Li _ _ _ _ _,e3,.inl rfl,some (.int k),some (eD g),ps3,rfl,p3,t3,k3.trans u3⟩)
   rw[fc] at k2;exact⟨_,.next,_,M2,Li _ _ _ _ _,by simp[Hr,Mg,e2],.inl rfl,some (.int j),some (eD f),c4,c5,ps2,rfl,k1,k2.next,g3.trans k3⟩)
 rw[fc] at h2;refine⟨M',ps,?_,h1,h2,h3⟩;simp[Fn.run,O6,O1,MW.new,Mh,e]
noncomputable def bothW(hs:List F)(kvs:List (List Kx×D))(x y:Int):Option D:=if x=-1 then some (.int y) else if y=-1 then some (.int x) else Bf kvs [.inl x,.inl y]
theorem aiv(hm:1<=m)(hr:M[r]?=some (.dT kvs))(h:bothW hs kvs x y=some v):prog.call m 6 [.ref r,.int x,.int y] M=.ok v M:=by
 rw[call_of hm rfl];unfold bothW at h
 by_cases hx:x=-1
 . rw[cu hx] at h;cases h
   simp[Fn.run,Mf,Ma,hx]
 . rw[bz hx] at h
   by_cases hy:y=-1
   . rw[cu hy] at h;cases h
     simp[Fn.run,Mf,Ma,hx,hy]
   . rw[bz hy] at h
     simp[Fn.run,Mf,Ma,hx,hy,adu hr (aaa x y),h]
end
noncomputable def akq(hs:List F)(c:F):Int:=if c∈hs then(pos c hs:Int) else -1
theorem Tz(hs:List F)(f g:F):ent hs f g=akq hs (f.comp g):=rfl
theorem aiw(nd:hs.Nodup){i:Nat}(h:hs[i]?=some f):akq hs f=i:=by have m:f∈hs:=az h;rw[akq,cu m,agw nd h]
theorem Vq:∀k:List Kx,Tc (ami k)=some k:=by
 intro k;show abh (k.map amh)=some k
 induction k with
 |nil=>rfl|cons a l ih=>cases a<;>simp[abh,amh,Ve,ih]
theorem ae7:∀kvs:List (List Kx×D),Hj (kvs.map λp=>ami p.1)=some (kvs.map (·.1))
 |[]=>rfl|p::l=>by simp[Hj,Vq,ae7 l]
theorem ae8:∀ps:List (Nat×Nat),Hj (ps.map pD)=some (ps.map λp=>ky p.1 p.2)
 |[]=>rfl|p::l=>by simp[Hj,pD,ae8 l,ky]
theorem apu{kvs:List (List Kx×D)}(h:Bf kvs q=some v):∃p∈kvs,p.1=q:=by
 unfold Bf at h;cases e:kvs.find? (λp=>decide (p.1=q)) with
 |none=>rw[e] at h;cases h|some p=>exact⟨p,Dp e,by simpa using List.find?_some e⟩
section
variable{sz:Nat->Nat}{K:Nat}{hs:List F}{kvs:List (List Kx×D)}(P:V3 sz K hs kvs)
include P
theorem V3.look(hj:hs[j]?=some f)(hk:hs[k]?=some g)(h:f.b=g.a):Bf kvs (ky j k)=some (.int (ent hs f g)) :=
 P.tb.look j k f g hj hk h (.inl (ak.mp hj).1)
theorem V3.no(h:¬Meet hs j k):Bf kvs (ky j k)=none:=by apply akm;intro p hp e;obtain⟨j',k',f,g,rfl,a,b,c,_⟩:=P.tb.keys p hp;obtain⟨rfl,rfl⟩:=ag0 e;exact h ⟨f,g,a,b,c⟩
theorem V3.kl:kvs.length<=25:=by
 have:=P.tb.len;have:hs.length*hs.length<=5*5:=El P.len P.len
 lia
theorem V3.plain:Hk (kvs.map (·.1))=true:=by have:=P.kl;simp only[Hk,fc,aq,di];refine⟨a_ this (by decide),?_⟩;rw[jg];intro k hk;obtain⟨p,hp,rfl⟩:=bu.mp hk;obtain⟨j,k,f,g,rfl,_⟩:=P.tb.keys p hp;simp[ky]
theorem V3.sm:af8 kvs=true:=by
 unfold af8;rw[jg];intro p hp;obtain⟨j,k,f,g,rfl,a,b,_⟩:=P.tb.keys p hp;have:=(ak.mp a).1;have:=(ak.mp b).1;have:=P.len;simp[ky]
 lia
theorem V3.same(h:Ps hs hs.length 0 ps):Ls (kvs.map (·.1)) (ps.map λp=>ky p.1 p.2)=true:=by
 unfold Ls;rw[aq,jg,jg];constructor
 . intro x hx
   obtain⟨p,hp,rfl⟩:=bu.mp hx;obtain⟨j,k,f,g,rfl,a,b,c,d⟩:=P.tb.keys p hp;rw[Cj];exact⟨ky j k,bu.mpr ⟨(j,k),(h.all (j,k)).mpr ⟨⟨f,g,a,b,c⟩,d⟩,rfl⟩,by simp⟩
 . intro y hy
   obtain⟨p,hp,rfl⟩:=bu.mp hy;obtain⟨⟨f,g,a,b,c⟩,d⟩:=(h.all p).mp hp;obtain⟨q,hq,e⟩:=apu (P.look a b c);rw[Cj];exact⟨q.1,bu.mpr ⟨q,hq,rfl⟩,by simp[e]⟩
theorem V3.Lj(h:c∈hs\/c.Tv):(akq hs c=-1/\c.Tv)\/∃i:Nat,hs[i]?=some c/\akq hs c=i:=by
 by_cases m:c∈hs
 . exact .inr ⟨pos c hs,aci c m,cu m⟩
 . exact .inl ⟨bz m,h.resolve_left m⟩
theorem V3.az8{j k l:Nat}(hj:hs[j]?=some f)(hk:hs[k]?=some g)(hl:hs[l]?=some h)(e1:f.b=g.a)(e2:g.b=h.a) :
 ∃v:Int,bothW hs kvs (ent hs f g) l=some (.int v)/\bothW hs kvs j (ent hs g h)=some (.int v):=by
 have mf:=az hj;have mg:=az hk;have mh:=az hl;have of:=P.inv.good f mf;have og:=P.inv.good g mg;have oh:=P.inv.good h mh;have as:=agx (h:=h) of og e1;rw[Tz,Tz];have nj:¬((j:Int)=-1):=by lia
 have nl:¬((l:Int)=-1):=by lia
 rcases P.Lj (P.cl f mf g mg e1) with⟨x1,i1⟩|⟨u,hu,x1⟩
 . have c1:=acj (of.comp og e1) i1
   have ha:f.a=g.b:=i1.1;have left:(f.comp g).comp h=h:=by rw[c1];show(idF sz f.a).comp h=h;rw[ha,e2];exact id_comp oh
   rcases P.Lj (P.cl g mg h mh e2) with⟨x2,i2⟩|⟨w,hw,x2⟩
   . have c2:=acj (og.comp oh e2) i2
     have right:f.comp (g.comp h)=f:=by rw[c2];show f.comp (idF sz g.a)=f;rw[<- e1];exact comp_id of
     have fh:f=h:=by rw[<- right,<- as,left]
     have jl:j=l:=by rw[<- agw P.inv.nd hj,<- agw P.inv.nd hl,fh]
     refine⟨l,by simp[bothW,x1],?_⟩;rw[x2,bothW,bz nj,cu rfl,jl]
   . have nw:¬((w:Int)=-1):=by lia
     refine⟨l,by simp[bothW,x1],?_⟩;rw[x2,bothW,bz nj,bz nw];have:=P.look hj hw (show f.b=(g.comp h).a from e1);rw[Tz,<- as,left,aiw P.inv.nd hl] at this;exact this
 . have nu:¬((u:Int)=-1):=by lia
   have lu:=P.look hu hl (show(f.comp g).b=h.a from e2);rcases P.Lj (P.cl g mg h mh e2) with⟨x2,i2⟩|⟨w,hw,x2⟩
   . have c2:=acj (og.comp oh e2) i2
     have right:f.comp (g.comp h)=f:=by rw[c2];show f.comp (idF sz g.a)=f;rw[<- e1];exact comp_id of
     refine⟨j,?_,?_⟩
     . rw[x1,bothW,bz nu,bz nl]
       rw[Tz,as,right,aiw P.inv.nd hj] at lu;exact lu
     . rw[x2,bothW,bz nj,cu rfl]
   . have nw:¬((w:Int)=-1):=by lia
     refine⟨akq hs ((f.comp g).comp h),?_,?_⟩
     . rw[x1,bothW,bz nu,bz nl];exact lu
     . rw[x2,bothW,bz nj,bz nw]
       have:=P.look hj hw (show f.b=(g.comp h).a from e1);rw[Tz,<- as] at this;exact this
end
section
variable{W:Dy}{M:Store}{sz:Nat->Nat}{K:Nat}{hs:List F}{kvs:List (List Kx×D)}
theorem au3(hm:1<=m)(P:V3 sz K hs kvs):prog.call m 9 [.int K,Lp hs] M=.ok .non M:=by
 rw[call_of hm rfl];obtain⟨ρ',M',e,⟨b2,rfl⟩,rfl⟩:=Wr (W:=⟨prog.call (m-1),prog.cls⟩) (t:=.name 2) (b:=Iw) (it:=.var 1) (ds:=hs.map eD) (ρ:=[some (.int K),some (Lp hs),none]) (M:=M) (M1:=M) (by simp[Lp])
  (λj ρ M'=>(∃b2:Option D,ρ=[some (.int K),some (Lp hs),b2])/\M'=M) ⟨⟨none,rfl⟩,rfl⟩
  (λj x ρ M1 hj hI=>by
   obtain⟨⟨b2,rfl⟩,rfl⟩:=hI;obtain⟨f,hf,rfl⟩:∃f,hs[j]?=some f/\eD f=x:=by simpa using hj
   have mf:=az hf;have h1:=P.ae1 f mf;have h2:=P.ae2 f mf;refine⟨_,.next,_,M1,rfl,?_,.inl rfl,⟨some (eD f),rfl⟩,rfl⟩;have h1':(f.a:Int)<K:=m_ h1
   have h2':(f.b:Int)<K:=m_ h2
   have z1:(0:Int)<=(f.a:Int):=q_
   have z2:(0:Int)<=(f.b:Int):=q_
   simp[Iw,aau,aav,h1,h2,h1',h2',z1,z2])
 have k1:(1:Int)<=K:=by have:=P.k1;exact n_ this
 have k3:(K:Int)<=3:=by have:=P.k3;exact n_ this
 have l5:¬(5:Int)<(hs.length:Int):=by have:=P.len;lia
 simp[Fn.run,Qq,Qp,k1,k3,Rb,l5,Nk,e]
theorem az9{j k:Nat}(hm:1<=m)(P:V3 sz K hs kvs)(hj:hs[j]?=some f)(hk:hs[k]?=some g)(h:f.b=g.a):prog.call m 8 [Lp hs,.int (ent hs f g),.int f.a,.int g.b] M=.ok (.bl true) M:=by
 rw[call_of hm rfl,Tz];have mf:=az hj;have mg:=az hk;rcases P.Lj (P.cl f mf g mg h) with⟨x1,i1⟩|⟨u,hu,x1⟩
 . have ha:f.a=g.b:=i1.1
   simp[Fn.run,Iv,Iu,x1,ha]
 . have hul:=(ak.mp hu).1
   have nu:¬((u:Int)=-1):=by lia
   have z:(0:Int)<=(u:Int):=q_
   have bbd:(u:Int)<(hs.length:Int):=m_ hul
   have e:xx M (eD (f.comp g)) (.tup [.int f.a,.int g.b])=some true:=by show Ov (Hd M 5) [.int f.a,.int g.b] [.int f.a,.int g.b]=some true;rw[Dt (Mi M 4 _ _) (Dt (Mi M 4 _ _) (show Ov (Hd M 5) [] []=some true from rfl))];simp
   simp[Fn.run,Iv,Iu,x1,nu,z,hul,bbd,Rb,U7 hu,e]
theorem au4(hm:2<=m)(P:V3 sz K hs kvs)(hr:M[r]?=some (.dT kvs)):∃M',prog.call m 10 [Lp hs,.ref r] M=.ok .non M'/\Bd M M'/\M'.length=M.length+1:=by
 rw[call_of (a_ (by decide) hm) rfl];obtain⟨M1,ps,e1,p1,t1,u1⟩:=ae6 (M:=M) (m:=m-1) (hs:=hs) (r_ hm) P.len;have k1:Bd M M1:=λa o h=>by rw[u1.oth a (by have:=v5 h;exact h_ this)];exact vq h
 have r1:=k1 r _ hr;have hks:(keysOf M1 (.ref r)).bind Hj=some (kvs.map (·.1)):=by simp only[keysOf,r1,pq,ae7]
 have hkp:(keysOf M1 (.ref M.length)).bind Hj=some (ps.map λp=>ky p.1 p.2):=by simp only[keysOf,p1,asList,pq,ae8]
 have hpl:Hk (ps.map λp=>ky p.1 p.2)=true:=by
  have:=t1.len;have:hs.length*hs.length<=5*5:=El P.len P.len
  simp only[Hk,fc,aq,di];refine⟨by lia,?_⟩;rw[jg];intro k hk;obtain⟨p,hp,rfl⟩:=bu.mp hk;simp[ky]
 have bbe:(Ex.Xk (.var 1) (.var 2)).den ⟨prog.call (m-1),prog.cls⟩ [some (Lp hs),some (.ref r),some (.ref M.length),none,none] M1=.ok (.bl false) M1:=by rw[Z7];simp only[ahn,Eu,List.getElem?_cons_zero,Res.zy,hks,P.plain,hkp,hpl,P.same t1,jq,nq]
 obtain⟨ρ',M',e,⟨b3,b4,rfl⟩,rfl⟩:=Km (W:=⟨prog.call (m-1),prog.cls⟩) (t:=.names [3,4]) (b:=Jy) (it:=.var 2) (d:=.ref M.length) (ds:=ps.map pD) (ρ:=[some (Lp hs),some (.ref r),some (.ref M.length),none,none]) (M:=M1) (M1:=M1) (by simp) (j6 p1)
  (λj ρ M'=>(∃b3 b4:Option D,ρ=[some (Lp hs),some (.ref r),some (.ref M.length),b3,b4])/\M'=M1) ⟨⟨none,none,rfl⟩,rfl⟩ (λi ρ M h=>by rw[h.2];exact j6 p1)
  (λi x ρ M2 hx hI=>by
   obtain⟨⟨b3,b4,rfl⟩,rfl⟩:=hI;obtain⟨p,hp,rfl⟩:∃p,ps[i]?=some p/\pD p=x:=by simpa using hx
   obtain⟨⟨f,g,a,b,c⟩,d⟩:=(t1.all p).mp (az hp);refine⟨_,.next,_,M2,Li _ _ _ _ _,?_,.inl rfl,⟨some (.int p.1),some (.int p.2),rfl⟩,rfl⟩;have lk:=adu r1 (aaa p.1 p.2);rw[show([.inl (p.1:Int),.inl (p.2:Int)]:List Kx)=ky p.1 p.2 from rfl,P.look a b c] at lk;simp[Jy,lk,U7 a,U7 b,aau,aav,az9 (show 1<=m-1 by exact r_ hm) P a b c])
 refine⟨M',?_,k1,by rw[u1.len];simp⟩;simp[Fn.run,R8,Rz,e1,bbe,O7,e]
theorem au5(hm:2<=m)(P:V3 sz K hs kvs)(hr:M[r]?=some (.dT kvs)):∃M',prog.call m 11 [Lp hs,.ref r] M=.ok .non M'/\Bd M M'/\M'.length=M.length+1:=by
 rw[call_of (a_ (by decide) hm) rfl];obtain⟨M1,ps,e1,p1,t1,u1⟩:=ae6 (M:=M) (m:=m-1) (hs:=hs) (r_ hm) P.len;have k1:Bd M M1:=λa o h=>by rw[u1.oth a (by have:=v5 h;exact h_ this)];exact vq h
 have r1:=k1 r _ hr;have hl:=P.len;obtain⟨ρ',M',e,⟨b3,b4,b5,b6,b7,rfl⟩,rfl⟩:=Km (W:=⟨prog.call (m-1),prog.cls⟩) (t:=.names [3,4]) (b:=Iz) (it:=.var 2) (d:=.ref M.length) (ds:=ps.map pD) (ρ:=[some (Lp hs),some (.ref r),some (.ref M.length),none,none,none,none,none]) (M:=M1) (M1:=M1) (by simp) (j6 p1)
  (λj ρ M'=>(∃b3 b4 b5 b6 b7:Option D,ρ=[some (Lp hs),some (.ref r),some (.ref M.length),b3,b4,b5,b6,b7])/\M'=M1) ⟨⟨none,none,none,none,none,rfl⟩,rfl⟩ (λi ρ M h=>by rw[h.2];exact j6 p1)
  (λi x ρ M2 hx hI=>by
   obtain⟨⟨b3,b4,b5,b6,b7,rfl⟩,rfl⟩:=hI;obtain⟨p,hp,rfl⟩:∃p,ps[i]?=some p/\pD p=x:=by simpa using hx
   obtain⟨⟨f,g,a,b,c⟩,d⟩:=(t1.all p).mp (az hp);obtain⟨ρ3,M3,e3,⟨c5,c6,c7,rfl⟩,rfl⟩:=xj (W:=⟨prog.call (m-1),prog.cls⟩) (t:=.name 5) (b:=Ft) (it:=.blt .len (.cons (.var 0) .nil)) (n:=hs.length) (ρ:=[some (Lp hs),some (.ref r),some (.ref M.length),some (.int p.1),some (.int p.2),b5,b6,b7]) (M:=M2) (M1:=M2) (by simp[Rb]) (a_ hl (by decide))
    (λj ρ M'=>(∃b5 b6 b7:Option D,ρ=[some (Lp hs),some (.ref r),some (.ref M.length),some (.int p.1),some (.int p.2),b5,b6,b7])/\M'=M2) ⟨⟨b5,b6,b7,rfl⟩,rfl⟩
    (λl ρ M4 hll hI=>by
     obtain⟨⟨b5,b6,b7,rfl⟩,rfl⟩:=hI;have hl':hs[l]?=some hs[l]:=by simp[hll]
     have hin:=a3d r1 (aaa p.2 l);rw[show([.inl (p.2:Int),.inl (l:Int)]:List Kx)=ky p.2 l from rfl] at hin
     by_cases q:g.b=hs[l].a
     . rw[P.look b hl' q] at hin
       obtain⟨v,v1,v2⟩:=P.az8 a b hl' c q;have lk1:=adu r1 (aaa p.1 p.2);rw[show([.inl (p.1:Int),.inl (p.2:Int)]:List Kx)=ky p.1 p.2 from rfl,P.look a b c] at lk1;have lk2:=adu r1 (aaa p.2 l);rw[show([.inl (p.2:Int),.inl (l:Int)]:List Kx)=ky p.2 l from rfl,P.look b hl' q] at lk2;refine⟨_,.next,_,M4,rfl,?_,.inl rfl,⟨some (.int l),some (.int v),some (.int v),rfl⟩,rfl⟩;simp[Ft,hin,lk1,lk2,aiv (show 1<=m-1 by exact r_ hm) r1 v1,aiv (show 1<=m-1 by exact r_ hm) r1 v2]
     . rw[P.no (λ⟨g',h',x,y,z⟩=>by rw[b] at x;rw[hl'] at y;cases x;cases y;exact q z)] at hin
       refine⟨_,.cont,_,M4,rfl,?_,.inr rfl,⟨some (.int l),b6,b7,rfl⟩,rfl⟩;simp[Ft,hin])
   refine⟨_,.next,_,M3,Li _ _ _ _ _,?_,.inl rfl,⟨some (.int p.1),some (.int p.2),c5,c6,c7,rfl⟩,rfl⟩;simp[Iz,Np,e3])
 refine⟨M',?_,k1,by rw[u1.len];simp⟩;simp[Fn.run,Qt,Qs,e1,Nq,e]
noncomputable def Made(n r K:Nat)(hs:List F)(kvs:List (List Kx×D))(M:Store):Prop:=M[n]?=some (.ins 2 [(2,.int K),(1,Lp hs),(0,.ref r)])/\M[r]?=some (.dT kvs)
theorem au6(hm:3<=m)(P:V3 sz K hs kvs)(hr:M[r]?=some (.dT kvs))(hn:M[n]?=some (.ins 2 [])) :
 ∃M' r',prog.call m 0 [.ref n,.int K,Lp hs,.ref r] M=.ok .non M'/\Made n r' K hs kvs M'/\M.length<=r'/\r'<M'.length/\(∀(a:Nat)(o:MO),a≠n->M[a]?=some o->M'[a]?=some o):=by
 rw[call_of (a_ (by decide) hm) rfl];have d1:=au3 (M:=M) (m:=m-1) (r_ (a_ (by decide) hm)) P;obtain⟨M1,e1,k1,l1⟩:=au4 (M:=M) (m:=m-1) (r_ hm) P hr;obtain⟨M2,e2,k2,l2⟩:=au5 (M:=M1) (m:=m-1) (r_ hm) P (k1 r _ hr);have k:=k1.trans k2;have n2:=k n _ hn;have r2:=k r _ hr;have hrn:r≠n:=λe=>by rw[e,hn] at hr;cases hr
 have s1:Ud (.ref n) 2 (.int K) M2=some (M2.set n (.ins 2 [(2,.int K)])):=by simp[Ud,n2,Wa]
 have n3:=qb (o:=.ins 2 [(2,.int K)]) n2;have s2:Ud (.ref n) 1 (Lp hs) (M2.set n (.ins 2 [(2,.int K)]))=some (M2.set n (.ins 2 [(2,.int K),(1,Lp hs)])):=by simp[Ud,n3,Wa]
 have n4:=qb (o:=.ins 2 [(2,.int K),(1,Lp hs)]) n2;have r4:(M2.set n (.ins 2 [(2,.int K),(1,Lp hs)]))[r]?=some (.dT kvs):=by rw[m5 (jz hrn)];exact r2
 have dc:o6 .dict [.ref r] (M2.set n (.ins 2 [(2,.int K),(1,Lp hs)]))=.ok (.ref M2.length) (M2.set n (.ins 2 [(2,.int K),(1,Lp hs)])++[.dT kvs]):=by simp[o6,r4,P.sm,MW.new]
 have n5:(M2.set n (.ins 2 [(2,.int K),(1,Lp hs)])++[.dT kvs])[n]?=some (.ins 2 [(2,.int K),(1,Lp hs)]):=vq n4;have s3:Ud (.ref n) 0 (.ref M2.length) (M2.set n (.ins 2 [(2,.int K),(1,Lp hs)])++[.dT kvs])=some ((List.set M2 n (MO.ins 2 [(2,.int K),(1,Lp hs)])++[MO.dT kvs]).set n (MO.ins 2 [(2,.int K),(1,Lp hs),(0,.ref M2.length)])):=by simp[Ud,n5,Wa]
 have hnl:=v5 n2;refine⟨_,M2.length,?_,⟨qb (o:=.ins 2 [(2,.int K),(1,Lp hs),(0,.ref M2.length)]) n5,?_⟩,by lia,by simp,λa o na h=>?_⟩
 . simp[Fn.run,Nh,Ng,d1,e1,e2,s1,s2,dc,s3]
 . rw[m5 (h_ hnl)]
   rw[je (by simp)];simp
 . rw[m5 (jz na)]
   exact vq (by rw[m5 (jz na)];exact k a o h)
end
noncomputable def Ou(hs:List F)(k i:Nat):Bool:=match hs[i]? with|some f=>decide (f.a=k)|none=>false
noncomputable def wj(hs:List F)(k:Nat):List D:=.int (-1)::((List.range hs.length).filter (Ou hs k)).map nD
theorem Rc(h:d∈wj hs k):d=.int (-1)\/∃(i:Nat)(f:F),d=.int i/\hs[i]?=some f/\f.a=k:=by
 rcases bw.mp h with q|q
 . exact .inl q
 . obtain⟨i,hi,rfl⟩:=bu.mp q
   obtain⟨h1,h2⟩:=wu.mp hi;have hil:=jw.mp h1;have e:hs[i]?=some hs[i]:=by simp[hil]
   rw[Ou,e] at h2;exact .inr ⟨i,hs[i],rfl,e,by simpa using h2⟩
theorem apv(h:d∈wj hs k):∃i:Int,d=.int i:=by rcases Rc h with rfl|⟨i,f,rfl,_⟩<;>exact⟨_,rfl⟩
theorem ae9(hl:hs.length<=5):(wj hs k).length<=6:=by have:=za (Ou hs k) (List.range hs.length);simp at this;simp[wj];exact a_ this hl
noncomputable def uh(K r:Nat)(hs:List F):D:=.tup [.int K,Lp hs,.ref r]
theorem Yy(K r:Nat)(hs:List F)(M:Store):Bc (uh K r hs) (.int 0) M=some (.int K):=rfl
theorem Pn(K r:Nat)(hs:List F)(M:Store):Bc (uh K r hs) (.int 1) M=some (Lp hs):=rfl
theorem awi(K r:Nat)(hs:List F)(M:Store):Bc (uh K r hs) (.int 2) M=some (.ref r):=rfl
section
variable{M:Store}{sz:Nat->Nat}{K:Nat}{hs:List F}{kvs:List (List Kx×D)}{n r m:Nat}
theorem Made.keep(h:Made n r K hs kvs M)(k:Bd M M'):Made n r K hs kvs M':=⟨k _ _ h.1,k _ _ h.2⟩
theorem Made.f2(h:Made n r K hs kvs M):Uc (.ref n) 2 M=some (.int K):=by simp[Uc,h.1,List.lookup]
theorem Made.f1(h:Made n r K hs kvs M):Uc (.ref n) 1 M=some (Lp hs):=by simp[Uc,h.1,List.lookup]
theorem Made.f0(h:Made n r K hs kvs M):Uc (.ref n) 0 M=some (.ref r):=by simp[Uc,h.1,List.lookup]
theorem akr(hm:1<=m)(h:Made n r K hs kvs M):prog.call m 2 [.ref n] M=.ok (Lp hs) M:=by rw[call_of hm rfl];simp[Fn.run,Nj,Ni,h.f1]
theorem afa(hm:1<=m)(hl:hs.length<=5){k:Nat}:prog.call m 18 [uh K r hs,.int k] M=.ok (.vl (wj hs k)) M:=by
 rw[call_of hm rfl];have hc:Mp.den ⟨prog.call (m-1),prog.cls⟩ [some (uh K r hs),some (.int k)] M=.ok (.vl (((List.range hs.length).filter (Ou hs k)).map nD)) M:=by
  unfold Mp;rw[Yx (n:=hs.length) (M1:=M) (q:=Ou hs k) (g:=nD) (by simp[Pn,Rb]) (a_ hl (by decide)) (λi hi=>by
   have e:hs[i]?=some hs[i]:=by simp[hi]
   refine⟨_,rfl,?_,λ_=>?_⟩
   . simp[-eq_int,Pn,U7 e,aau,Cd,Ou,hi]
   . simp[nD])]
  simp
 have:=Z9 (M:=M) [.int (-1)] (((List.range hs.length).filter (Ou hs k)).map nD) (by
  have:=za (Ou hs k) (List.range hs.length);simp at this ⊢
  lia)
 simp[Fn.run,Wk,Wj,hc,this,wj]
theorem au7(hm:1<=m){k i:Nat}(hf:hs[i]?=some f):prog.call m 19 [uh K r hs,.int k,.int i] M=.ok (.int f.b) M:=by
 rw[call_of hm rfl];have ni:¬((i:Int)<0):=by lia
 simp[Fn.run,Tr,Tq,ni,Pn,U7 hf,aav]
theorem aks(hm:1<=m){k:Nat}:prog.call m 19 [uh K r hs,.int k,.int (-1)] M=.ok (.int k) M:=by rw[call_of hm rfl];simp[Fn.run,Tr,Tq]
theorem ag3(hm:1<=m)(hr:M[r']?=some (.dT kvs))(hx:-1<=x)(hy:-1<=y)(hv:bothW hs kvs x y=some v):prog.call m 20 [uh K r' hs,.int x,.int y] M=.ok v M:=by
 rw[call_of hm rfl];unfold bothW at hv
 by_cases ex:x=-1
 . rw[cu ex] at hv;cases hv
   subst ex;have:(-1:Int)+y+1=y:=by lia
   simp[Fn.run,Jm,Jl,this]
 . rw[bz ex] at hv
   have nx:¬x<0:=by lia
   by_cases ey:y=-1
   . rw[cu ey] at hv;cases hv
     subst ey;have:x+(-1:Int)+1=x:=by lia
     simp[Fn.run,Jm,Jl,nx,this]
   . rw[bz ey] at hv
     have ny:¬y<0:=by lia
     simp[Fn.run,Jm,Jl,nx,ny,awi,adu hr (aaa x y),hv]
theorem au8(ho:o.den W ρ M=.ok (.ref n) M)(he:es.den W ρ M=.ok ds M)(hn:M[n]?=some (.ins c fs))(hm:(W.cls[c]?).bind (λC=>C.meths.lookup mm)=some fi) :
 (Ex.meth o mm es).den W ρ M=W.call fi (.ref n::ds) M:=by
 rw[Xl,ho,Res.zy,he,Res.zy];simp only[hn,hm]
end
end K04
namespace MW
section
variable{W:Dy}{ρ:Env}{M:Store}
theorem afb(ha:a.den W ρ M=.ok x M1)(hb:b.den W ρ M1=.ok y M2)(hx:abj x=some ds)(hy:abj y=some es)(I:Nat->Env->Store->Prop)(h0:I 0 ρ M2)(step:∀i p ρ M,((ds.zip es).map λp=>D.tup [p.1,p.2])[i]?=some p->I i ρ M->∃ρ1 fl ρ' M',t.put p ρ=some ρ1/\bd.den W ρ1 M=.ok (fl,ρ') M'/\(fl=.next\/fl=.cont)/\I (i+1) ρ' M') :
 ∃ρ' M',(Fl.for_ t (.zip a b) bd).den W ρ M=.ok (.next,ρ') M'/\I ((ds.zip es).map λp=>D.tup [p.1,p.2]).length ρ' M':=by
 rw[Rm];show ∃ρ' M',((a.den W ρ M).bind _).bind _=_/\_;rw[ha,Res.zy,hb,Res.zy,hx,Res.Dl,Res.zy,hy,Res.Dl,Res.zy,Res.zy];exact U5 I h0 (λi x ρ M hx h=>by
  obtain⟨ρ1,fl,ρ',M',a,b,c,d⟩:=step i x ρ M hx h;exact⟨fl,ρ',M',by rw[a];exact b,c,d⟩)
end
end MW
namespace K04
open MW
noncomputable def endI(hs:List F)(k:Nat):D->Nat
 |.int i=>if i=-1 then k else match hs[i.toNat]? with|some f=>f.b|none=>0
 |_=>0
noncomputable def wT(hs:List F)(k g:Nat):List D:=(wj hs k).filter λd=>decide (endI hs k d=g)
theorem apw(h:d∈wT hs k g):d∈wj hs k/\endI hs k d=g:=by have:=wu.mp h;exact⟨this.1,by simpa using this.2⟩
theorem Xe{i:Nat}(h:hs[i]?=some f):endI hs k (.int i)=f.b:=by
 have:¬((i:Int)=-1):=by lia
 simp[endI,this,h]
theorem a0a{i:Nat}(h:hs[i]?=some f)(e:f.a=k):.int i∈wj hs k:=by refine bh _ (bu.mpr ⟨i,wu.mpr ⟨jw.mpr (ak.mp h).1,?_⟩,rfl⟩);simp[Ou,h,e]
theorem awj{i:Nat}(h:hs[i]?=some f)(e:f.a=k):.int i∈wT hs k f.b :=
 wu.mpr ⟨a0a h e,by simp[Xe h]⟩
theorem a0b(h:d∈wT hs k g):∃i:Int,d=.int i:=apv (apw h).1
noncomputable def bv(hs:List F)(kvs:List (List Kx×D))(j:Nat):D->Int
 |.int x=>match bothW hs kvs x j with|some (.int v)=>v|_=>0
 |_=>0
section
variable{sz:Nat->Nat}{K:Nat}{hs:List F}{kvs:List (List Kx×D)}
theorem au9(P:V3 sz K hs kvs){j:Nat}(hj:hs[j]?=some f)(hd:d∈wT hs k f.a) :
 ∃x:Int,d=.int x/\-1<=x/\bothW hs kvs x j=some (.int (bv hs kvs j d))/\.int (bv hs kvs j d)∈wT hs k f.b:=by
 obtain⟨h1,h2⟩:=apw hd;have nj:¬((j:Int)=-1):=by lia
 rcases Rc h1 with rfl|⟨i,g,rfl,hg,e⟩
 . have e:k=f.a:=by simpa[endI] using h2
   have:bothW hs kvs (-1) j=some (.int j):=by simp[bothW]
   refine⟨-1,rfl,by lia,by simp[bv,this],?_⟩;simp only[bv,this];exact awj hj e.symm
 . rw[Xe hg] at h2
   have ni:¬((i:Int)=-1):=by lia
   have:bothW hs kvs i j=some (.int (ent hs g f)):=by rw[bothW,bz ni,bz nj];exact P.look hg hj h2
   refine⟨i,rfl,by lia,by simp[bv,this],?_⟩;simp only[bv,this];have mg:=az hg;have mf:=az hj;rw[Tz];rcases P.Lj (P.cl g mg f mf h2) with⟨x1,i1⟩|⟨u,hu,x1⟩
   . rw[x1]
     refine wu.mpr ⟨by simp[wj],?_⟩;have:g.a=f.b:=i1.1;simp[endI,<- e,this]
   . rw[x1]
     exact awj (f:=g.comp f) hu e
end
noncomputable def ixI(v:Int)(ds:List D):Nat:=(ds.findIdx? λd=>match d with|.int i=>decide (i=v)|_=>false).getD 0
theorem afc(M:Store)(v:Int):∀ds:List D,(∀d∈ds,∃i:Int,d=.int i)->Rq M (.int v) ds=some (ds.map λd=>match d with|.int i=>decide (i=v)|_=>false)
 |[],_=>rfl
 |d::l,h=>by
  obtain⟨i,rfl⟩:=h d (by simp);simp[Rq,afc M v l (λx hx=>h x (bh _ hx))]
theorem afd{α:Type}(f:α->Bool):∀l:List α,(l.map f).findIdx? id=l.findIdx? f
 |[]=>rfl|a::l=>by simp[Ec,afd f l]
theorem afe(hi:∀d∈ds,∃i:Int,d=.int i)(h:.int v∈ds):Hx .index (.vl ds) [.int v] M=.ok (.int (ixI v ds)) M:=by
 have e:Ua M (.int v) ds=some (ixI v ds):=by
  rw[Ua,afc M v ds hi,pq,afd];unfold ixI;cases q:ds.findIdx? (λd=>match d with|.int i=>decide (i=v)|_=>false) with
  |some j=>rfl
  |none =>
   rw[um] at q;have:=q _ h;simp at this
 simp[Hx,e]
end K04
namespace MW
theorem aix{fin:Store->Bool}{item:Nat->Store->Option D}{body:D->Env->Store->Res (Flow×Env)}(I:Nat->Env->Store->Prop)(V1:Env->Store->Prop){n:Nat}
 (step:∀i ρ M,i<n->I i ρ M->∃d fl ρ' M',item i M=some d/\body d ρ M=.ok (fl,ρ') M'/\(((fl=.next\/fl=.cont)/\I (i+1) ρ' M')\/(fl=.brk/\V1 ρ' M'))) (hfin:∀ρ M,I n ρ M->fin M=true/\V1 ρ M) :
 ∀(k i:Nat)(ρ:Env)(M:Store),i+k=n->I i ρ M->∃ρ' M',Gf fin item body k i ρ M=.ok (.next,ρ') M'/\V1 ρ' M'
 |0,i,ρ,M,e,h=>by
  have q:i=n:=by lia
  rw[q] at h;exact⟨ρ,M,by simp[Gf,(hfin ρ M h).1],(hfin ρ M h).2⟩
 |k+1,i,ρ,M,e,h=>by
  obtain⟨d,fl,ρ1,M1,h1,h2,⟨h3,h4⟩|⟨rfl,h4⟩⟩:=step i ρ M (by lia) h
  . obtain⟨ρ2,M2,g1,g2⟩:=aix I V1 step hfin k (i+1) ρ1 M1 (by lia) h4
    refine⟨ρ2,M2,?_,g2⟩;rcases h3 with rfl|rfl<;>simp[Gf,h1,h2,g1]
  . exact⟨ρ1,M1,by simp[Gf,h1,h2],h4⟩
section
variable{W:Dy}{ρ:Env}{M:Store}
theorem afg{n:Nat}(hit:it.den W ρ M=.ok (.int (n:Int)) M1)(hn:n<=100000)(I:Nat->Env->Store->Prop)(V1:Env->Store->Prop)(h0:I 0 ρ M1)(hp:∀ρ M,I n ρ M->V1 ρ M)(step:∀i ρ M,i<n->I i ρ M->∃ρ1 fl ρ' M',t.put (.int i) ρ=some ρ1/\b.den W ρ1 M=.ok (fl,ρ') M'/\(((fl=.next\/fl=.cont)/\I (i+1) ρ' M')\/(fl=.brk/\V1 ρ' M'))) :
 ∃ρ' M',(Fl.for_ t (.Px it) b).den W ρ M=.ok (.next,ρ') M'/\V1 ρ' M':=by
 rw[Rm,Uh,hit];have hn':((n:Int)).natAbs<=100000:=by lia
 simp only[Res.zy,hn',jq,qg];obtain⟨ρ',M',e,h⟩:=aix (fin:=(Src.con ((List.range n).map λ(k:Nat)=>D.int (k:Int))).fin) (item:=(Src.con ((List.range n).map λ(k:Nat)=>D.int (k:Int))).item) (body:=λd ρ M=>(Res.ofOpt (t.put d ρ) M).bind fun ρ' M=>b.den W ρ' M) I V1 (n:=n) (λi ρ M hi h=>by
  obtain⟨ρ1,fl,ρ',M',a,b,c⟩:=step i ρ M hi h;exact⟨.int i,fl,ρ',M',by simp[Src.item,hi],by rw[a];exact b,c⟩) (fun ρ M h=>⟨rfl,hp ρ M h⟩) n 0 ρ M1 (vg _) h0
 have hl:(Src.con ((List.range n).map λ(k:Nat)=>D.int (k:Int))).len=n:=by simp[Src.len]
 rw[hl];exact⟨ρ',M',e,h⟩
theorem U8{n:Nat}(hit:it.den W ρ M=.ok (.int (n:Int)) M1)(hn:n<=100000)(I:Nat->List D->Store->Prop)(h0:I 0 [] M1)(step:∀i xs M,i<n->I i xs M->∃ρ1 x M',t.put (.int i) (ρ++List.replicate k none)=some ρ1/\e.den W ρ1 M=.ok x M'/\I (i+1) (xs++[x]) M') :
 ∃ys M',(Ex.comp v k t (.Px it) e).den W ρ M=(if v then .ok (.vl ys) M' else new (.lst ys) M')/\I n ys M':=by
 rw[Rk,Uh,hit];have hn':((n:Int)).natAbs<=100000:=by lia
 simp only[Res.zy,hn',jq,qg];obtain⟨ys,M',g,h⟩:=Nx (fin:=(Src.con ((List.range n).map λ(k:Nat)=>D.int (k:Int))).fin) (item:=(Src.con ((List.range n).map λ(k:Nat)=>D.int (k:Int))).item) (body:=λd M=>(Res.ofOpt (t.put d (ρ++List.replicate k none)) M).bind fun ρ' M=>(e.den W ρ' M).bind λx M'=>.ok (some x) M') I (n:=n) (λi xs M hi h=>by
  obtain⟨ρ1,x,M',a,b,c⟩:=step i xs M hi h;exact⟨.int i,some x,M',by simp[Src.item,hi],by rw[a];simp[b],by simpa using c⟩) (λ_ _ _=>rfl) n 0 [] M1 (vg _) h0
 have hl:(Src.con ((List.range n).map λ(k:Nat)=>D.int (k:Int))).len=n:=by simp[Src.len]
 refine⟨ys,M',?_,by simpa using h⟩;rw[Al,hl,cu hn,g];rfl
set_option tactic.hygienic true in
theorem Mu(hit:it.den W ρ M=.ok d M1)(hd:asList M1 d=some ds)(hn:ds.length<=100000)(I:Nat->List D->Store->Prop)(h0:I 0 [] M1)(stay:∀i xs M,I i xs M->asList M d=some ds)(step:∀i y xs M,ds[i]?=some y->I i xs M->∃ρ1 x M',t.put y (ρ++List.replicate k none)=some ρ1/\e.den W ρ1 M=.ok x M'/\I (i+1) (xs++[x]) M') :
 ∃ys M',(Ex.comp v k t (.val it) e).den W ρ M=(if v then .ok (.vl ys) M' else new (.lst ys) M')/\I ds.length ys M':=by
 rw[Rk,Oa,hit];obtain⟨s,hs,hl,hi,hf⟩:∃s,srcOf M1 d=some s/\s.len=ds.length/\(∀M i,asList M d=some ds->s.item i M=ds[i]?)/\∀M,asList M d=some ds->s.fin M=true:=by
  cases d with
  |vl zs=>cases hd;exact⟨.con ds,rfl,rfl,λ_ _ _=>rfl,λ_ _=>rfl⟩
  |ref p =>
   have get:∀{M:Store},asList M (.ref p)=some ds->M[p]?=some (.lst ds):=fun{M} h=>by
    simp only[asList] at h;split at h
    . rename_i z;cases h;exact z
    . cases h
   refine⟨.live p ds.length,by simp[srcOf,get hd],rfl,λM i h=>by simp[Src.item,get h],λM h=>by simp[Src.fin,get h]⟩
  |_=>cases hd
 simp only[Res.zy,hs,Res.Dl];obtain⟨ys,M',g,h⟩:=Nx (fin:=s.fin) (item:=s.item) (body:=λd M=>(Res.ofOpt (t.put d (ρ++List.replicate k none)) M).bind fun ρ' M=>(e.den W ρ' M).bind λx M'=>.ok (some x) M') I (n:=ds.length) (λi xs M hlt h=>by
  obtain⟨ρ1,x,M',a,b,c⟩:=step i ds[i] xs M (by simp[hlt]) h;exact⟨ds[i],some x,M',by rw[hi M i (stay i xs M h)];simp[hlt],by rw[a];simp[b],by simpa using c⟩) (λxs M h=>hf M (stay _ xs M h)) ds.length 0 [] M1 (vg _) h0
 refine⟨ys,M',?_,by simpa using h⟩;rw[Al,hl,cu hn,g];rfl
end
end MW
namespace K04
open MW
theorem apx(hm:1<=m)(hd:d∈wj hs k):prog.call m 19 [uh K r hs,.int k,d] M=.ok (.int (endI hs k d)) M:=by
 rcases Rc hd with rfl|⟨i,f,rfl,hf,_⟩
 . rw[aks hm];simp[endI]
 . rw[au7 hm hf,Xe hf]
noncomputable def RS(p K:Nat)(rs:Nat->List D)(M:Store):Prop:=∀i,i<K->M[p+i]?=some (.lst (rs i))
noncomputable def vd(p K:Nat):List D:=(List.range K).map λi=>.ref (p+i)
theorem RS.keep(h:RS p K rs M)(s:St t f M M')(ht:t<p):RS p K rs M':=λi hi=>s.keep _ _ (i_ (b_ ht x_)) (h i hi)
theorem acs(hi:i<K):Bc (.vl (vd p K)) (.int i) M=some (.ref (p+i)):=Fq rfl q_ (by simp[vd,hi])
theorem apy{K:Nat}(hy:y=ρ.length)(he:e.den W ρ M=.ok (.int K) M)(hK:K<=100000) :
 (Ex.comp true 1 (.name y) (.Px e) (.lst .nil)).den W ρ M=.ok (.vl (vd M.length K)) (M++List.replicate K (.lst [])):=by
 subst hy;obtain⟨ys,M',g,h1,h2⟩:=U8 (v:=true) (k:=1) (t:=.name ρ.length) (e:=.lst .nil) he hK (λi xs M'=>xs=vd M.length i/\M'=M++List.replicate i (.lst [])) ⟨rfl,by simp⟩
  (λi xs M' hi hI=>by
   obtain⟨rfl,rfl⟩:=hI;refine⟨_,.ref (M.length+i),M++List.replicate i (MO.lst [])++[MO.lst []],rfl,by simp[MW.new],?_,?_⟩
   . simp[vd,G6]
   . simp[List.replicate_succ'])
 rw[g,h1,h2];rfl
noncomputable def rowsOf(hs:List F)(ad:List (Nat×Nat))(e:Nat):List D:=ad.flatMap λp=>(wT hs p.2 e).map λw=>.tup [.int p.1,.int p.2,w]
theorem Yz(hs:List F)(ad:List (Nat×Nat))(p:Nat×Nat)(e:Nat):rowsOf hs (ad++[p]) e=rowsOf hs ad e++(wT hs p.2 e).map λw=>.tup [.int p.1,.int p.2,w]:=by simp[rowsOf]
section
variable{m t:Nat}{f:Bool}{M:Store}{sz:Nat->Nat}{K r:Nat}{hs:List F}{kvs:List (List Kx×D)}
theorem ava(P:V3 sz K hs kvs)(hk:k<K)(hd:d∈wj hs k):endI hs k d<K:=by
 rcases Rc hd with rfl|⟨i,f,rfl,hf,_⟩
 . simpa[endI] using hk
 . rw[Xe hf];exact P.ae2 f (az hf)
theorem avb(hm:1<=m)(hl:hs.length<=5)(h1:ρ[1]?=some (some (uh K r hs)))(h5:ρ[5]?=some (some (.int k)))(hy:ρ.length=19) :
 Lh.den ⟨prog.call m,prog.cls⟩ ρ M=.ok (.vl ((wj hs k).map λw=>.tup [.int (endI hs k w),w])) M:=by
 unfold Lh;rw[Ao (d:=.vl (wj hs k)) (ds:=wj hs k) (M1:=M) (g:=λw=>.tup [.int (endI hs k w),w]) (by simp[h1,h5,afa hm hl]) rfl (ig (ae9 hl) (by decide)) (λx hx=>by
  refine⟨_,rfl,?_⟩;have e1:(ρ++List.replicate 1 none).set 19 (some x)=ρ++[some x]:=by rw[Dj];simp[hy]
  rw[e1];have g1:(ρ++[some x])[1]?=some (some (uh K r hs)):=by rw[dq (b_ (by decide) (g_ hy))];exact h1
  have g5:(ρ++[some x])[5]?=some (some (.int k)):=by rw[dq (b_ (by decide) (g_ hy))];exact h5
  have g9:(ρ++[some x])[19]?=some (some x):=by rw[<- hy];simp
  simp[g1,g5,g9,apx hm hx])]
 rfl
end
section
variable{m t:Nat}{f:Bool}{M:Store}{sz:Nat->Nat}{K r:Nat}{hs:List F}{kvs:List (List Kx×D)}
noncomputable def Zn(p:Nat)(M M':Store):Prop:=∀(a:Nat)(o:MO),a<p->M[a]?=some o->M'[a]?=some o
theorem Zn.refl(p:Nat)(M:Store):Zn p M M:=λ_ _ _ h=>h
theorem Zn.trans(a:Zn p M M1)(b:Zn p M1 M2):Zn p M M2:=λx o h e=>b x o h (a x o h e)
theorem Zn.set(h:p<=q):Zn p M (M.set q o):=λa u ha e=>by rw[m5 (i_ (b_ ha h))];exact e
noncomputable def trD(n k:Nat)(w:D):D:=.tup [.int n,.int k,w]
theorem awk(n k:Nat)(w:D):D.tup [.int n,.int k,w]=trD n k w:=rfl
noncomputable def acu(hs:List F)(rs:Nat->List D)(n k j:Nat)(e:Nat):List D:=rs e++(((wj hs k).take j).filter λw=>decide (endI hs k w=e)).map (trD n k)
theorem ap0(hs:List F)(rs:Nat->List D)(n k e:Nat):acu hs rs n k (wj hs k).length e=rs e++(wT hs k e).map (trD n k):=by unfold acu wT;rw[Gi]
theorem ap1(hl:hs.length<=5)(h7:(rs e).length<=7):(acu hs rs n k j e).length<=13:=by
 have h1:=za (λw=>decide (endI hs k w=e)) ((wj hs k).take j);have h2:=ae9 (k:=k) hl;have h3:((wj hs k).take j).length<=(wj hs k).length:=by simp;lia
 simp only[acu,qx,fc]
 lia
theorem abt(P:V3 sz K hs kvs){n:Nat}(hk:k<K)(h:RS p K rs M)(h7:∀e,e<K->(rs e).length<=7)(hr:rest.length=10) :
 ∃b7 b8 M',Q5.den W ([a0,a1,a2,some (.vl (vd p K)),some (.int n),some (.int k),some (.vl ((wj hs k).map λw=>.tup [.int (endI hs k w),w])),b7',b8']++rest) M
  = .ok (.next,[a0,a1,a2,some (.vl (vd p K)),some (.int n),some (.int k),some (.vl ((wj hs k).map λw=>.tup [.int (endI hs k w),w])),b7,b8]++rest) M'/\RS p K (λe=>rs e++(wT hs k e).map (trD n k)) M'/\Zn p M M'/\M'.length=M.length:=by
 have hl:=P.len;obtain⟨ρ',M',e,⟨c7,c8,rfl⟩,r1,r2,r3⟩:=Km (W:=W) (t:=.names [7,8]) (b:=Hv) (it:=.var 6) (d:=.vl ((wj hs k).map λw=>.tup [.int (endI hs k w),w])) (ds:=(wj hs k).map λw=>.tup [.int (endI hs k w),w])
  (ρ:=[a0,a1,a2,some (.vl (vd p K)),some (.int n),some (.int k),some (.vl ((wj hs k).map λw=>.tup [.int (endI hs k w),w])),b7',b8']++rest) (M:=M) (M1:=M) (by simp) rfl
  (λj ρ M'=>(∃b7 b8:Option D,ρ=[a0,a1,a2,some (.vl (vd p K)),some (.int n),some (.int k),some (.vl ((wj hs k).map λw=>.tup [.int (endI hs k w),w])),b7,b8]++rest)/\RS p K (acu hs rs n k j) M'/\Zn p M M'/\M'.length=M.length)
  ⟨⟨b7',b8',rfl⟩,λi hi=>by rw[h i hi];simp[acu],Zn.refl _ _,rfl⟩ (λ_ _ _ _=>rfl)
  (λj x ρ M1 hx hI=>by
   obtain⟨⟨c7,c8,rfl⟩,q1,q2,q3⟩:=hI;obtain⟨w,hw,rfl⟩:∃w,(wj hs k)[j]?=some w/\D.tup [.int (endI hs k w),w]=x:=by simpa using hx
   have hwm:=az hw;have he:=ava P hk hwm;have g:=q1 _ he;have ap:=Hl (d:=trD n k w) g (by have:=ap1 (n:=n) (k:=k) (j:=j) hl (h7 _ he);exact c_ this (by decide));refine⟨_,.next,_,M1.set (p+endI hs k w) (.lst (acu hs rs n k j (endI hs k w)++[trD n k w])),Li _ _ _ _ _,?_,.inl rfl,⟨some (.int (endI hs k w)),some w,rfl⟩,?_,q2.trans (Zn.set x_),by simp[q3]⟩
   . show Hv.den W (a0::a1::a2::some (.vl (vd p K))::some (.int n)::some (.int k)::some (.vl ((wj hs k).map λw=>.tup [.int (endI hs k w),w]))::some (.int (endI hs k w))::some w::rest) M1=_
     simp[Hv,acs he,Ik g,awk,ap]
   . intro i hi
     have e1:(wj hs k).take (j+1)=(wj hs k).take j++[w]:=by rw[Hh,hw];rfl
     by_cases z:i=endI hs k w
     . subst z
       rw[qb g];simp[acu,e1,Ia]
     . rw[m5 (by lia),q1 i hi]
       simp[acu,e1,Ia,jz z])
 refine⟨c7,c8,M',e,λi hi=>?_,r2,r3⟩;rw[r1 i hi];simp only[fc];rw[ap0]
end
structure Gs(t:Nat)(f:Bool)(p:Nat)(M M':Store):Prop where
 has:V2 t f M'
 low:∀(a:Nat)(o:MO),a<p->a≠t->M[a]?=some o->M'[a]?=some o
 len:M.length<=M'.length
section
variable{t:Nat}{f:Bool}{p:Nat}{M M1 M2:Store}
theorem Gs.trans(a:Gs t f p M M1)(b:Gs t f p M1 M2):Gs t f p M M2:=⟨b.has,λx o h n e=>b.low x o h n (a.low x o h n e),ig a.len b.len⟩
theorem Gs.aaw(s:St t f M M1):Gs t f p M M1:=⟨s.has,λa o _ n e=>s.keep a o n e,s.len⟩
theorem Zn.has(h:V2 t f M)(l:Zn p M M1)(ht:t<p):V2 t f M1:=by obtain⟨n,e,o⟩:=h;exact⟨n,l _ _ ht e,o⟩
theorem Gs.ag4(h:V2 t f M)(l:Zn p M M1)(ht:t<p)(hl:M.length<=M1.length):Gs t f p M M1:=⟨l.has h ht,λa o x _ e=>l a o x e,hl⟩
theorem Gs.refl(h:V2 t f M):Gs t f p M M:=⟨h,λ_ _ _ _ e=>e,bc _⟩
theorem Gs.st(g:Gs t f M.length M M1):St t f M M1:=⟨g.len,g.has,λa o n e=>g.low a o (v5 e) n e⟩
theorem Gs.app(h:V2 t f M)(hp:p<=M.length)(X:Store):Gs t f p M (M++X):=⟨by obtain⟨n,e,o⟩:=h;exact⟨n,vq e,o⟩,λa o _ _ e=>vq e,by simp⟩
end
section
variable{m t:Nat}{f:Bool}{M:Store}{sz:Nat->Nat}{K r:Nat}{hs:List F}{kvs:List (List Kx×D)}
theorem avc(hy:ρ.length=y)(h3:ρ[3]?=some (some (.vl (vd p K))))(h:RS p K rs M)(hK:K<=3) :
 (Ex.comp true 1 (.name y) (.val (.var 3)) (.blt .len (.cons (.var y) .nil))).den W ρ M=.ok (.vl (((List.range K).map λi=>(rs i).length).map nD)) M:=by
 subst hy;rw[Ao (d:=.vl (vd p K)) (ds:=vd p K) (M1:=M) (g:=λd=>match o6 .len [d] M with|.ok x _=>x|_=>.non) (by simp[h3]) rfl (by simp[vd];exact a_ hK (by decide)) (λd hd=>by
  obtain⟨i,hi,rfl⟩:=bu.mp hd;refine⟨_,rfl,?_⟩;simp[len_list (j6 (h i (jw.mp hi)))])]
 simp only[jq,vd,Ad]
 congr 2
 apply qi;intro i hi;simp[len_list (j6 (h i (jw.mp hi))),nD]
structure Rw(hs:List F)(K p:Nat)(ad:List (Nat×Nat))(M:Store):Prop where
 rs:RS p K (rowsOf hs ad) M
 kd:∀q∈ad,q.2<K
 le:∀e,e<K->(rowsOf hs ad e).length<=7
theorem avd(hm:1<=m)(P:V3 sz K hs kvs)(hh:V2 t f M){n:Nat}(ht:t<p)(h:Rw hs K p ad M)(hr:rest.length=10) :
 ∃c5 c6 c7 c8 ad' M',Fj.den ⟨prog.call m,prog.cls⟩ ([some (.ref t),some (uh K r hs),some (.int 4),some (.vl (vd p K)),some (.int n),b5,b6,b7,b8]++rest) M
  = .ok (.next,[some (.ref t),some (uh K r hs),some (.int 4),some (.vl (vd p K)),some (.int n),c5,c6,c7,c8]++rest) M'/\Rw hs K p ad' M'/\Gs t f p M M'/\M'.length=M.length:=by
 have hl:=P.len;have h3:=P.k3;obtain⟨k,M1,e1,l1,s1,n1⟩:=Dn (many:=K) hm hh (by have:=P.k1;exact m_ this) (m_ (c_ h3 (by decide)));have hk:k<K:=o_ l1
 have r1:=h.rs.keep s1 ht;have c9:=avb (M:=M1) (r:=r) (K:=K) (hs:=hs) (ρ:=[some (.ref t),some (uh K r hs),some (.int 4),some (.vl (vd p K)),some (.int n),some (.int k),b6,b7,b8]++rest) (k:=k) hm hl rfl rfl (by simp[hr]);have c8:=avc (W:=⟨prog.call m,prog.cls⟩) (M:=M1) (ρ:=[some (.ref t),some (uh K r hs),some (.int 4),some (.vl (vd p K)),some (.int n),some (.int k),some (.vl ((wj hs k).map λw=>.tup [.int (endI hs k w),w])),b7,b8]++rest) (y:=19) (by simp[hr]) rfl r1 h3;obtain⟨v,e3,v1,v2⟩:=aps (M:=M1) (xs:=(List.range K).map λi=>(rowsOf hs ad i).length) (by have:=P.k1;intro z;have:=m6 List.length z;simp at this;exact l_ (o_ l1) (a_ (f_ this) (jr _)));generalize hL:(D.vl (((List.range K).map λi=>(rowsOf hs ad i).length).map nD))=L at e3 c8;have hlen:o6 .len [.vl ((wj hs k).map λw=>D.tup [.int (endI hs k w),w])] M1=.ok (.int (wj hs k).length) M1:=by simp[o6,Vf]
 by_cases q:v+(wj hs k).length<8
 . have q':(v:Int)+((wj hs k).length:Int)<8:=by lia
   obtain⟨d7,d8,M2,e4,r2,lo,n2⟩:=abt (W:=⟨prog.call m,prog.cls⟩) (M:=M1) P (n:=n) hk r1 h.le (a0:=some (.ref t)) (a1:=some (uh K r hs)) (a2:=some (.int 4)) (b7':=b7) (b8':=b8) (rest:=rest) hr;refine⟨some (.int k),some (.vl ((wj hs k).map λw=>D.tup [.int (endI hs k w),w])),d7,d8,ad++[(n,k)],M2,?_,⟨λi hi=>?_,λq hq=>?_,λe he=>?_⟩,(Gs.aaw s1).trans (Gs.ag4 s1.has lo ht (g_ n2)),n2.trans n1⟩
   . simp only[Af,Aw] at c9 c8 e4 ⊢
     simp[Fj,Yy,e1,c9,Lg,c8,e3,hlen,q',e4]
   . rw[r2 i hi,Yz];rfl
   . rcases dw.mp hq with z|z
     . exact h.kd q z
     . have:q=(n,k):=by simpa using z
       rw[this];exact hk
   . rw[Yz,qx,fc]
     have a1:=v1 (rowsOf hs ad e).length (bu.mpr ⟨e,jw.mpr he,rfl⟩);have a2:(wT hs k e).length<=(wj hs k).length:=za _ _
     simp only
     lia
 . have q':¬(v:Int)+((wj hs k).length:Int)<8:=by lia
   refine⟨some (.int k),some (.vl ((wj hs k).map λw=>D.tup [.int (endI hs k w),w])),b7,b8,ad,M1,?_,⟨r1,h.kd,h.le⟩,Gs.aaw s1,n1⟩;simp only[Af,Aw] at c9 c8 ⊢;simp[Fj,Yy,e1,c9,Lg,c8,e3,hlen,q']
end
theorem aiy{M:Store}{x:D}:∀{ds:List D},(∀y∈ds,∃b,xx M y x=some b)->∃bs:List Bool,Rq M x ds=some bs/\bs.length=ds.length/\∀(i:Nat)(y:D),ds[i]?=some y->(bs[i]?).map some=some (xx M y x)
 |[],_=>⟨[],rfl,rfl,λi y h=>by simp at h⟩
 |y::l,h=>by
  obtain⟨b,hb⟩:=h y (by simp);obtain⟨bs,h1,h2,h3⟩:=aiy (λz hz=>h z (bh _ hz));refine⟨b::bs,by simp[Rq,hb,h1],by simp[h2],λi z hz=>?_⟩;cases i with
  |zero=>simp at hz;subst hz;simp[hb]|succ i=>simpa using h3 i z (by simpa using hz)
theorem a0c(h:∀y∈ds,∃b,xx M y x=some b)(hx:x∈ds)(he:xx M x x=some true):∃j,Ua M x ds=some j/\j<ds.length:=by
 obtain⟨bs,h1,h2,h3⟩:=aiy h;obtain⟨i,hi,ei⟩:=uc hx;have h4:=h3 i x (by simp[hi,ei]);rw[he] at h4;obtain⟨b,e1,e2⟩:=bx.mp h4;cases e2;rw[Ua,h1,pq];cases q:bs.findIdx? id with
 |some j=>exact⟨j,rfl,by have:=(m8.mp q).1;exact b_ this (f_ h2)⟩
 |none =>
  rw[um] at q;have:=q true (az e1);simp at this
theorem ave(hp:M[p]?=some (.lst ds))(h:∀y∈ds,∃b,xx M y x=some b)(hx:x∈ds)(he:xx M x x=some true):∃j:Nat,Hx .index (.ref p) [x] M=.ok (.int j) M/\j<ds.length:=by obtain⟨j,h1,h2⟩:=a0c h hx he;exact⟨j,by simp[Hx,Jo (j6 hp),h1],h2⟩
theorem avf(hp:M[p]?=some (.lst ds)):Mw .index (.ref p) M=true:=by simp[Mw,j6 hp]
theorem awl(M:Store)(n k n' k':Nat)(a a':Int):xx M (trD n k (.int a)) (trD n' k' (.int a'))=some (decide (n=n')&&(decide (k=k')&&(decide (a=a')&&true))):=by show Ov (Hd M 5) [.int n,.int k,.int a] [.int n',.int k',.int a']=_;rw[Dt (Mi M 4 n n') (Dt (Mi M 4 k k') (Dt (ahr 4 a a') (show Ov (Hd M 5) [] []=some true from rfl)))]
theorem Y0(h:d∈rowsOf hs ad e):∃(n k:Nat)(x:Int),(n,k)∈ad/\.int x∈wT hs k e/\d=trD n k (.int x):=by obtain⟨q,hq,hd⟩:=List.mem_flatMap.mp h;obtain⟨w,hw,rfl⟩:=bu.mp hd;obtain⟨x,rfl⟩:=a0b hw;exact⟨q.1,q.2,x,hq,hw,rfl⟩
theorem akt(h:(n,k)∈ad)(hw:w∈wT hs k e):trD n k w∈rowsOf hs ad e :=
 List.mem_flatMap.mpr ⟨(n,k),h,bu.mpr ⟨w,hw,rfl⟩⟩
section
variable{m t:Nat}{f:Bool}{M:Store}{sz:Nat->Nat}{K r:Nat}{hs:List F}{kvs:List (List Kx×D)}
theorem a0d(hm:1<=m)(P:V3 sz K hs kvs)(hr:M[r]?=some (.dT kvs)){j:Nat}(h:Rw hs K p ad M)(hj:hs[j]?=some g)(hrest:rest.length=6) :
 ∃js:List Nat,Ld.den ⟨prog.call m,prog.cls⟩ ([a0,some (uh K r hs),a2,some (.vl (vd p K)),a4,a5,a6,a7,a8,a9,some (.int j),some (.int g.a),some (.int g.b)]++rest) M=.ok (.vl (js.map nD)) M /\
  js.length=(rowsOf hs ad g.a).length/\∀x∈js,x<(rowsOf hs ad g.b).length:=by
 have hg:=az hj;have ha:=P.ae1 g hg;have hb:=P.ae2 g hg;have ga:=h.rs _ ha;have gb:=h.rs _ hb;unfold Ld;obtain⟨ys,M',e,hI⟩:=Mu (W:=⟨prog.call m,prog.cls⟩) (v:=true) (k:=3) (t:=.names [19,20,21]) (it:=.ix (.var 3) (.var 11)) (e:=.bm .index (.ix (.var 3) (.var 12)) (.cons (.tup (.cons (.var 19) (.cons (.var 20) (.cons (.call 20 (.cons (.var 1) (.cons (.var 21) (.cons (.var 10) .nil)))) .nil)))) .nil))
  (ρ:=[a0,some (uh K r hs),a2,some (.vl (vd p K)),a4,a5,a6,a7,a8,a9,some (.int j),some (.int g.a),some (.int g.b)]++rest) (M:=M) (M1:=M) (d:=.ref (p+g.a)) (ds:=rowsOf hs ad g.a) (by simp[acs ha]) (j6 ga) (by have:=h.le _ ha;exact a_ this (by decide))
  (λi xs M'=>M'=M/\∃js:List Nat,xs=js.map nD/\js.length=i/\∀x∈js,x<(rowsOf hs ad g.b).length) ⟨rfl,[],rfl,rfl,by simp⟩ (λi xs M' h=>by rw[h.1];exact j6 ga)
  (λi y xs M' hy hI=>by
   obtain⟨rfl,js,rfl,q1,q2⟩:=hI;obtain⟨n,k,x,h1,h2,rfl⟩:=Y0 (az hy);obtain⟨x',z,hx,hv,hin⟩:=au9 P hj h2;cases z;obtain⟨jj,e1,e2⟩:=ave (x:=trD n k (.int (bv hs kvs j (.int x)))) gb (λy hy=>by obtain⟨n',k',x'',_,_,rfl⟩:=Y0 hy;exact⟨_,awl _ _ _ _ _ _ _⟩) (akt h1 hin) (by rw[awl];simp);refine⟨_,.int jj,M',rfl,?_,rfl,js++[jj],by simp[nD],by simp[q1],λu hu=>?_⟩
   . have hl:rest.length=6:=hrest
     match rest,hl with
     |[r0,r1,r2,r3,r4,r5],_ =>
      show(Ex.bm .index (.ix (.var 3) (.var 12)) (.cons (.tup (.cons (.var 19) (.cons (.var 20) (.cons (.call 20 (.cons (.var 1) (.cons (.var 21) (.cons (.var 10) .nil)))) .nil)))) .nil)).den _ [a0,some (uh K r hs),a2,some (.vl (vd p K)),a4,a5,a6,a7,a8,a9,some (.int j),some (.int g.a),some (.int g.b),r0,r1,r2,r3,r4,r5,some (.int n),some (.int k),some (.int x)] M'=_;simp[acs hb,avf gb,ag3 hm hr hx (show(-1:Int)<=j by lia) hv,awk,e1]
   . rcases dw.mp hu with q|q
     . exact q2 u q
     . have:u=jj:=by simpa using q
       exact c_ (f_ this) e2)
 obtain⟨rfl,js,rfl,q1,q2⟩:=hI;exact⟨js,by rw[e];rfl,q1,q2⟩
end
noncomputable def up(ms:Nat->List Nat)(i:Nat)(ns:List Nat):Nat->List Nat:=λe=>if e=i then ns else ms e
noncomputable def repl(lo hi:Nat)(l:List Nat):List Nat:=l.map λo=>if o=hi then lo else o
theorem aiz{lo hi:Nat}(h:lo<hi):∀l:List Nat,(repl lo hi l).sum<=l.sum
 |[]=>bc _
 |a::l=>by
  have:=aiz h l;simp only[repl,gq,Fp] at this ⊢;split<;>omega
theorem ai0{lo hi:Nat}(h:lo<hi):∀{l:List Nat},hi∈l->(repl lo hi l).sum<l.sum
 |a::l,hm=>by
  have h1:=aiz h l;simp only[repl,gq,Fp] at h1 ⊢
  by_cases z:a=hi
  . rw[cu z];exact b_ (G_ h) (a_ (v_ (g_ z)) (w_ h1))
  . have:=ai0 h (show hi∈l from by simpa[jz z] using hm)
    simp only[repl] at this;rw[bz z];exact H_ this
noncomputable def tot(K:Nat)(ms:Nat->List Nat):Nat:=((List.range K).map λi=>(ms i).sum).sum
theorem ap2{ms:Nat->List Nat}{b:Nat}{ns:List Nat}(h:ns.sum<(ms b).sum):∀K,tot K (up ms b ns)<=tot K ms/\(b<K->tot K (up ms b ns)<tot K ms)
 |0=>⟨bc _,λz=>absurd z (wy _)⟩
 |K+1=>by
  obtain⟨h1,h2⟩:=ap2 h K;simp only[tot,G6,ud,List.sum_append,gq,Jq,Fp,List.sum_nil] at h1 h2 ⊢
  by_cases z:K=b
  . subst z
    have e:up ms K ns K=ns:=by simp[up]
    rw[e];constructor
    . exact e_ (c_ (v_ h1) (H_ (G_ h)))
    . intro _;exact c_ (v_ h1) (H_ (G_ h))
  . have e:up ms b ns K=ms K:=by simp[up,z]
    rw[e];constructor
    . exact v_ h1
    . intro q;have:=h2 (by lia);exact G_ this
structure Mk(t pm K:Nat)(L:Nat->Nat)(ms:Nat->List Nat)(M:Store):Prop where
 ex:∃mds:List D,M[pm]?=some (.lst mds)/\mds.length=K/\∀i,i<K->∃d,mds[i]?=some d/\asList M d=some ((ms i).map nD)/\∀a,d=.ref a->t<a/\a<pm
 len:∀i,i<K->(ms i).length=L i
 lt:∀i,i<K->∀x∈ms i,x<L i
section
variable{t pm K:Nat}{L:Nat->Nat}{ms:Nat->List Nat}{M M':Store}
theorem Y4(h:asList M d=some ds)(k:∀a o,d=.ref a->M[a]?=some o->M'[a]?=some o):asList M' d=some ds:=by
 cases d with
 |ref a =>
  simp only[asList] at h ⊢;cases e:M[a]? with
  |none=>rw[e] at h;cases h|some o=>rw[e] at h;rw[k a o rfl e];exact h
 |vl xs=>exact h|_=>cases h
theorem Mk.frame(h:Mk t pm K L ms M)(k:∀(a:Nat) (o:MO),t<a->a<=pm->M[a]?=some o->M'[a]?=some o)(ht:t<pm):Mk t pm K L ms M':=by obtain⟨mds,h1,h2,h3⟩:=h.ex;refine⟨⟨mds,k _ _ ht (bc _) h1,h2,λi hi=>?_⟩,h.len,h.lt⟩;obtain⟨d,g1,g2,g3⟩:=h3 i hi;exact⟨d,g1,Y4 g2 λa o e q=>k a o (g3 a e).1 (Ae (g3 a e).2) q,g3⟩
theorem Mk.row(h:Mk t pm K L ms M)(hi:i<K):∃d,Bc (.ref pm) (.int i) M=some d/\asList M d=some ((ms i).map nD):=by obtain⟨mds,h1,h2,h3⟩:=h.ex;obtain⟨d,g1,g2,_⟩:=h3 i hi;exact⟨d,Fq (j6 h1) q_ (by simpa using g1),g2⟩
theorem T3{l:List Nat}(h:asList M d=some (l.map nD))(hx:x<l.length):Bc d (.int x) M=some (.int (l.getD x 0)) :=
 Fq h q_ (by simp[hx,nD])
theorem getD_mem'{l:List Nat}(hx:x<l.length):l.getD x 0∈l:=by rw[dh,cz hx];exact q9 hx
set_option tactic.hygienic true in
theorem Mk.set(h:Mk t pm K L ms M)(hi:i<K)(h1:ns.length=L i)(h2:∀x∈ns,x<L i)(ht:t<pm) :
 ∃o,setOp (.ref pm) (.int i) (.vl (ns.map nD)) M=some (M.set pm o)/\Mk t pm K L (up ms i ns) (M.set pm o):=by
 obtain⟨mds,g1,g2,g3⟩:=h.ex;refine⟨.lst (mds.set i (.vl (ns.map nD))),?_,⟨mds.set i (.vl (ns.map nD)),qb g1,by simp[g2],λe he=>?_⟩,λe he=>?_,λe he x hx=>?_⟩
 . have:=W3 (d:=.vl (ns.map nD)) (i:=i) g1 q_ (m_ (b_ hi (g_ g2)))
   simpa using this
 . by_cases z:e=i
   . subst z
     exact⟨.vl (ns.map nD),by simp[g2,he],by simp[up],λa q=>by cases q⟩
   . obtain⟨d,k1,k2,k3⟩:=g3 e he
     refine⟨d,by rw[uz (jz z)];exact k1,?_,k3⟩;have:up ms i ns e=ms e:=by simp[up,z]
     rw[this];exact Y4 k2 λa o q w=>by rw[m5 (by have:=(k3 a q).2;exact i_ this)];exact w
 . unfold up;split
   . rename_i z;rw[z];exact h1
   . exact h.len e he
 . unfold up at hx;split at hx
   . rename_i z;rw[z];exact h2 x hx
   . exact h.lt e he x hx
end
structure Ac(q:Nat)(hs:List F)(L:Nat->Nat)(as:List (List Nat))(M:Store):Prop where
 at_:M[q]?=some (.lst (as.map λjs=>.vl (js.map nD)))
 len:as.length=hs.length
 ok:∀(j:Nat)(g:F)(js:List Nat),hs[j]?=some g->as[j]?=some js->js.length=L g.a/\∀x∈js,x<L g.b
theorem Ac.get(h:Ac q hs L as M){j:Nat}(hj:hs[j]?=some g):∃js,as[j]?=some js/\Bc (.ref q) (.int j) M=some (.vl (js.map nD))/\js.length=L g.a/\∀x∈js,x<L g.b:=by
 have hl:=(ak.mp hj).1;have hl2:j<as.length:=by rw[h.len];exact hl
 have e:as[j]?=some as[j]:=cz hl2;exact⟨_,e,Fq (j6 h.at_) q_ (by simp[e]),h.ok j g _ hj e⟩
theorem a0e(h:M[n]?=some (.dK kv)):Hx .get (.ref n) [.int k,d] M=.ok ((Bf kv (.inl k)).getD d) M:=by simp[Hx,h]
theorem a6m(h:M[n]?=some (.dK kv)):Mw .get (.ref n) M=true:=by simp[Mw,h]
theorem a0f(h:M[n]?=some (.dK kv))(hl:kv.length<100000):setOp (.ref n) (.int k) d M=some (M.set n (.dK (Ib kv (.inl k) d))):=by simp[setOp,h,hl]
theorem ap4[DecidableEq κ]{kv:List (κ×D)}{k:κ}(h:Bf kv k=some v):∃p∈kv,p.2=v:=by unfold Bf at h;obtain⟨p,h1,h2⟩:=bx.mp h;exact⟨p,Dp h1,h2⟩
theorem avh[DecidableEq κ]{kv:List (κ×D)}{k:κ}{p:κ×D}(h:p∈Ib kv k v):p∈kv\/p.2=v:=by
 unfold Ib at h;split at h
 . obtain⟨q,h1,h2⟩:=bu.mp h
   split at h2
   . rw[<- h2];exact .inr rfl
   . rw[<- h2];exact .inl h1
 . rcases dw.mp h with z|z
   . exact .inl z
   . have:p=(k,v):=by simpa using z
     rw[this];exact .inr rfl
theorem avi[DecidableEq κ](kv:List (κ×D))(k:κ)(v:D):(Ib kv k v).length<=kv.length+1:=by unfold Ib;split<;>simp
theorem acv(M:Store)(a b:Nat):xx M (.int a) (.int b)=some (decide (a=b)):=Cd M a b
noncomputable def Fm(pm n:Nat)(M M':Store):Prop:=∀(a:Nat)(o:MO),a≠pm->a<n->M[a]?=some o->M'[a]?=some o
theorem ai1(M:Store)(a b:Nat):o6 .min [.int a,.int b] M=.ok (.int (min a b:Nat)) M:=by
 show Res.ok (D.int (if(b:Int)<(a:Int) then(b:Int) else(a:Int))) M=_
 by_cases h:b<a
 . rw[cu (m_ h),Gk (e_ h)]
 . rw[bz (by lia),G7 (s_ h)]
theorem acw(M:Store)(a b:Nat):o6 .max [.int a,.int b] M=.ok (.int (max a b:Nat)) M:=by
 show Res.ok (D.int (if(a:Int)<(b:Int) then(b:Int) else(a:Int))) M=_
 by_cases h:a<b
 . rw[cu (m_ h),Nat.max_eq_right (e_ h)]
 . rw[bz (by lia),Nat.max_eq_left (s_ h)]
section
variable{W:Dy}{t pm K q r dd j:Nat}{L:Nat->Nat}{ms:Nat->List Nat}{M:Store}{hs:List F}{as:List (List Nat)}{g:F}
theorem afh{lo hi:Nat}(hx:(Ex.ix (.var v) (.var x)).den W ρ M=.ok d M)(hd:asList M d=some (l.map nD))(hl:l.length<=100000)(hy:y=ρ.length)(h1:ρ[a]?=some (some (.int lo)))(h2:ρ[b]?=some (some (.int hi))) :
 (Ex.comp true 1 (.name y) (.val (.ix (.var v) (.var x))) (.ite (.cmp .eq (.var y) (.var b)) (.var a) (.var y))).den W ρ M=.ok (.vl ((repl lo hi l).map nD)) M:=by
 subst hy;have ha:=(ak.mp h1).1;have hb:=(ak.mp h2).1;rw[Ao (d:=d) (ds:=l.map nD) (M1:=M) (g:=λd=>match d with|.int o=>nD (if o.toNat=hi then lo else o.toNat)|_=>.non) hx hd (by simpa using hl) (λz hz=>by
  obtain⟨o,ho,rfl⟩:=bu.mp hz;refine⟨_,rfl,?_⟩;have e1:(ρ++List.replicate 1 none).set ρ.length (some (nD o))=ρ++[some (.int o)]:=by rw[Dj];simp[nD]
  have g1:(ρ++[some (D.int o)])[a]?=some (some (.int lo)):=by rw[dq ha];exact h1
  have g2:(ρ++[some (D.int o)])[b]?=some (some (.int hi)):=by rw[dq hb];exact h2
  have g3:(ρ++[some (D.int o)])[ρ.length]?=some (some (.int o)):=by simp
  rw[e1]
  by_cases z:o=hi
  . subst z;simp[-eq_int,g1,g2,g3,acv,nD]
  . simp[-eq_int,g1,g2,g3,acv,z,nD])]
 simp[repl,nD]
theorem avj(hx:(Ex.ix (.var 1) (.var x)).den W ρ M=.ok d M)(hd:asList M d=some (l.map nD))(hl:l.length<=100000)(hy:y=ρ.length)(hy1:12<y)(h1:ρ[11]?=some (some (.int lo)))(h2:ρ[12]?=some (some (.int hi))) :
 (Ex.comp true 1 (.name y) (.val (.ix (.var 1) (.var x))) (.ite (.cmp .eq (.var y) (.var 12)) (.var 11) (.var y))).den W ρ M=.ok (.vl ((repl lo hi l).map nD)) M:=afh hx hd hl hy h1 h2
end
section
variable{W:Dy}{t pm K q r dd j:Nat}{L:Nat->Nat}{ms:Nat->List Nat}{M:Store}{hs:List F}{as:List (List Nat)}{g:F}
structure Fd(dd:Nat)(b:List Nat)(n:Nat)(M:Store):Prop where
 ex:∃kv:List (Kx×D),M[dd]?=some (.dK kv)/\kv.length<=n/\∀p∈kv,∃e:Nat,p.2=.int e/\e∈b
theorem ap5(mk:Mk t pm K L ms M)(ac:Ac q hs L as M)(hj:hs[j]?=some g)(ga:g.a<K)(gb:g.b<K)(hd:M[dd]?=some (.dK []))(hpd:pm<dd)(hqd:q<dd)(hqp:q≠pm)(ht:t<pm)(hL:∀e,e<K->L e<=7) :
 ∃ρ' M',Pa.den W [some (uh K r hs),some (.ref pm),some (.ref q),b3,some (.int j),some (.int g.a),some (.int g.b),some (.ref dd),b8,b9,b10,Ru,U9] M=.ok (.next,ρ') M' /\
  ∃c3 c7 c8 c9 c10 c11 c12,ρ'=[some (uh K r hs),some (.ref pm),some (.ref q),c3,some (.int j),some (.int g.a),some (.int g.b),c7,c8,c9,c10,c11,c12]/\Fm pm dd M M'/\M.length<=M'.length /\
   ((c3=b3/\Mk t pm K L ms M')\/(c3=some (.bl true)/\∃Rv,Mk t pm K L Rv M'/\tot K Rv<tot K ms)):=by
 obtain⟨da,fa,la⟩:=mk.row ga;have hla:=mk.len _ ga;have hLa:=hL _ ga;refine afg (W:=W) (t:=.name 8) (b:=Dw) (it:=.blt .len (.cons (.ix (.var 1) (.var 5)) .nil)) (n:=L g.a) (M1:=M) ?_ (a_ hLa (by decide))
  (λi ρ M'=>(∃b8 b9 b10,ρ=[some (uh K r hs),some (.ref pm),some (.ref q),b3,some (.int j),some (.int g.a),some (.int g.b),some (.ref dd),b8,b9,b10,Ru,U9])/\Mk t pm K L ms M'/\Fd dd (ms g.b) i M'/\Zn dd M M'/\M'.length=M.length)
  (fun ρ' M'=>∃c3 c7 c8 c9 c10 c11 c12,ρ'=[some (uh K r hs),some (.ref pm),some (.ref q),c3,some (.int j),some (.int g.a),some (.int g.b),c7,c8,c9,c10,c11,c12]/\Fm pm dd M M'/\M.length<=M'.length /\
   ((c3=b3/\Mk t pm K L ms M')\/(c3=some (.bl true)/\∃Rv,Mk t pm K L Rv M'/\tot K Rv<tot K ms)))
  ⟨⟨b8,b9,b10,rfl⟩,mk,⟨[],hd,bc _,by simp⟩,Zn.refl _ _,rfl⟩ (fun ρ M' h=>?_) (λi ρ M1 hi hI=>?_)
 . have e:=len_list la
   simp only[fc,hla] at e;simp[fa,e]
 . obtain⟨⟨c8,c9,c10,rfl⟩,h1,h2,h3,h4⟩:=h
   exact⟨b3,_,c8,c9,c10,Ru,U9,rfl,λa o _ x e=>h3 a o x e,g_ h4,.inl ⟨rfl,h1⟩⟩
 . obtain⟨⟨c8,c9,c10,rfl⟩,h1,⟨kv,k1,k2,k3⟩,h3,h4⟩:=hI
   obtain⟨da,fa,la⟩:=h1.row ga;obtain⟨db,fb,lb⟩:=h1.row gb;have ac1:Ac q hs L as M1:=⟨h3 _ _ hqd ac.at_,ac.len,ac.ok⟩;obtain⟨js,ej,fj,lj,rj⟩:=ac1.get hj;have fa2:=T3 la (show i<(ms g.a).length by rw[hla];exact hi);have fj2:Bc (.vl (js.map nD)) (.int i) M1=some (.int (js.getD i 0)):=T3 rfl (b_ hi (g_ lj));have hy:js.getD i 0<(ms g.b).length:=by rw[h1.len _ gb];exact rj _ (getD_mem' (b_ hi (g_ lj)))
   generalize hy0:js.getD i 0=y at fj2 hy;have fb2:=T3 lb hy;have hz:=getD_mem' hy;generalize hx0:(ms g.a).getD i 0=x at fa2;generalize hz0:(ms g.b).getD y 0=z at fb2 hz;have gt:=a0e (k:=(x:Int)) (d:=.int z) k1;have ty:=a6m k1;have goOn:((Bf kv (.inl (x:Int))).getD (.int z)=.int z)->∃ρ1 fl ρ' M',(Tg.name 8).put (.int i) [some (uh K r hs),some (.ref pm),some (.ref q),b3,some (.int j),some (.int g.a),some (.int g.b),some (.ref dd),c8,c9,c10,Ru,U9]=some ρ1/\Dw.den W ρ1 M1=.ok (fl,ρ') M' /\
    (((fl=.next\/fl=.cont)/\(∃b8 b9 b10,ρ'=[some (uh K r hs),some (.ref pm),some (.ref q),b3,some (.int j),some (.int g.a),some (.int g.b),some (.ref dd),b8,b9,b10,Ru,U9])/\Mk t pm K L ms M'/\Fd dd (ms g.b) (i+1) M'/\Zn dd M M'/\M'.length=M.length) \/
      (fl=.brk/\∃c3 c7 c8 c9 c10 c11 c12,ρ'=[some (uh K r hs),some (.ref pm),some (.ref q),c3,some (.int j),some (.int g.a),some (.int g.b),c7,c8,c9,c10,c11,c12]/\Fm pm dd M M'/\M.length<=M'.length /\
       ((c3=b3/\Mk t pm K L ms M')\/(c3=some (.bl true)/\∃Rv,Mk t pm K L Rv M'/\tot K Rv<tot K ms)))):=λhg=>by
    rw[hg] at gt;have st:=a0f (k:=(x:Int)) (d:=.int z) k1 (by have:=hL _ ga;exact c_ k2 (b_ hi (a_ hLa (by decide))));refine⟨_,.next,_,M1.set dd (.dK (Ib kv (.inl (x:Int)) (.int z))),rfl,?_,.inl ⟨.inl rfl,⟨some (.int i),some (.int x),some (.int z),rfl⟩,h1.frame (λa o _ ha e=>by rw[m5 (i_ (c_ ha hpd))];exact e) ht,⟨_,qb k1,?_,?_⟩,h3.trans (Zn.set (bc _)),by simp[h4]⟩⟩
    . simp[-eq_int,Dw,fa,fa2,fb,fj,fj2,fb2,ty,gt,acv,st]
    . have:=avi kv (.inl (x:Int)) (.int z);exact a_ this (v_ k2)
    . intro p hp
      rcases avh hp with w|w
      . exact k3 p w
      . exact⟨z,w,hz⟩
   cases hlk:Bf kv (.inl (x:Int)) with
   |none=>exact goOn (by rw[hlk];rfl)
   |some v =>
    obtain⟨p,hp,rfl⟩:=ap4 hlk;obtain⟨e,he,hem⟩:=k3 p hp;rw[he] at hlk
    by_cases hez:e=z
    . exact goOn (by rw[hlk,hez];rfl)
    . rw[hlk] at gt
      have ix:=a3e (b:=.int x) k1 rfl;rw[show(Sum.inl (x:Int):Kx)=.inl (x:Int) from rfl,hlk] at ix;have lh:min e z<max e z:=by lia
      have hm:max e z∈ms g.b:=by
       rcases Jr e z with w|w
       . rw[Nat.max_eq_right w];exact hz
       . rw[Nat.max_eq_left w];exact hem
      have hlo:min e z∈ms g.b:=by
       rcases Jr e z with w|w
       . rw[G7 w];exact hem
       . rw[Gk w];exact hz
      have rp:=avj (W:=W) (M:=M1) (ρ:=[some (uh K r hs),some (.ref pm),some (.ref q),b3,some (.int j),some (.int g.a),some (.int g.b),some (.ref dd),some (.int i),some (.int x),some (.int z),some (.int (min e z:Nat)),some (.int (max e z:Nat))]) (x:=6) (y:=13) (lo:=min e z) (hi:=max e z) (by simp[fb]) lb (by rw[h1.len _ gb];have:=hL _ gb;exact a_ this (by decide)) rfl (by decide) rfl rfl;obtain⟨o,so,mk2⟩:=h1.set gb (ns:=repl (min e z) (max e z) (ms g.b)) (by simp[repl,h1.len _ gb]) (λy hy=>by
       obtain⟨w,hw,rfl⟩:=bu.mp hy;split
       . exact h1.lt _ gb _ hlo
       . exact h1.lt _ gb _ hw) ht
      have ne:¬((e:Nat)=z):=hez;refine⟨_,.brk,_,M1.set pm o++[.dK []],rfl,?_,.inr ⟨rfl,some (.bl true),some (.ref (M1.set pm o).length),some (.int i),some (.int x),some (.int z),some (.int (min e z:Nat)),some (.int (max e z:Nat)),rfl,λa u na ha q=>?_,by simp;exact a_ (g_ h4) x_,.inr ⟨rfl,_,mk2.frame (λa u _ _ q=>vq q) ht,(ap2 (ai0 lh hm) K).2 gb⟩⟩⟩
      . simp only[ym] at gt
        simp[-eq_int,Dw,fa,fa2,fb,fj,fj2,fb2,ty,gt,acv,ne,ix,ai1,acw,O9,rp,so,MW.new]
      . refine vq ?_
        rw[m5 (jz na)];exact h3 a u ha q
end
theorem Fm.trans(a:Fm pm n M M1)(b:Fm pm n M1 M2):Fm pm n M M2:=λx o h l e=>b x o h l (a x o h l e)
theorem Fm.le(a:Fm pm n M M1)(h:n'<=n):Fm pm n' M M1:=λx o q l e=>a x o q (b_ l h) e
theorem ag5:∀{l:List Nat}{c:Nat},(∀x∈l,x<=c)->l.sum<=l.length*c
 |[],_,_=>by simp
 |a::l,c,h=>by
  have h1:=h a (by simp);have h2:=ag5 (λx hx=>h x (bh _ hx));simp only[Fp,gf,Jt]
  lia
section
variable{t pm K q r:Nat}{L:Nat->Nat}{ms:Nat->List Nat}{M:Store}{hs:List F}{as:List (List Nat)}{sz:Nat->Nat}{kvs:List (List Kx×D)}
theorem a0g(mk:Mk t pm K L ms M)(hL:∀e,e<K->L e<=7)(hK:K<=3):tot K ms<=200:=by
 have:∀x∈(List.range K).map λi=>(ms i).sum,x<=49:=λx hx=>by
  obtain⟨i,hi,rfl⟩:=bu.mp hx;have hi:=jw.mp hi;have h1:=ag5 (l:=ms i) (c:=7) (λx hx=>by have:=mk.lt i hi x hx;have:=hL i hi;lia);have h2:=mk.len i hi;have h3:=hL i hi;have h4:(ms i).length*7<=7*7:=Ha 7 (a_ (f_ h2) h3)
  lia
 have h:=ag5 this;simp only[fc,List.length_range] at h;have h5:K*49<=3*49:=Ha 49 hK
 unfold tot
 lia
theorem ap6(P:V3 sz K hs kvs)(mk:Mk t pm K L ms M)(ac:Ac q hs L as M)(hpd:pm<M.length)(hqd:q<M.length)(hqp:q≠pm)(ht:t<pm)(hL:∀e,e<K->L e<=7) :
 ∃ρ' M',Pb.den W [some (uh K r hs),some (.ref pm),some (.ref q),b3,b4,b5,b6,b7,b8,b9,b10,Ru,U9] M=.ok (.next,ρ') M' /\
  ∃c3 c4 c5 c6 c7 c8 c9 c10 c11 c12 Rv,ρ'=[some (uh K r hs),some (.ref pm),some (.ref q),c3,c4,c5,c6,c7,c8,c9,c10,c11,c12]/\Fm pm M.length M M'/\M.length<=M'.length/\Mk t pm K L Rv M'/\tot K Rv<=tot K ms/\(c3=b3\/(c3=some (.bl true)/\tot K Rv<tot K ms)):=by
 have hl:=P.len;refine xj (W:=W) (t:=.name 4) (b:=G3) (it:=.blt .len (.cons (.ix (.var 0) (.cst (.int 1))) .nil)) (n:=hs.length) (M1:=M) (by simp[Pn,Rb]) (a_ hl (by decide))
  (λ_ ρ' M'=>∃c3 c4 c5 c6 c7 c8 c9 c10 c11 c12 Rv,ρ'=[some (uh K r hs),some (.ref pm),some (.ref q),c3,c4,c5,c6,c7,c8,c9,c10,c11,c12]/\Fm pm M.length M M'/\M.length<=M'.length/\Mk t pm K L Rv M'/\tot K Rv<=tot K ms/\(c3=b3\/(c3=some (.bl true)/\tot K Rv<tot K ms)))
  ⟨b3,b4,b5,b6,b7,b8,b9,b10,Ru,U9,ms,rfl,λ_ _ _ _ e=>e,bc _,mk,bc _,.inl rfl⟩ (λj ρ M1 hj hI=>?_)
 obtain⟨c3,c4,c5,c6,c7,c8,c9,c10,c11,c12,m1,rfl,f1,l1,k1,t1,o1⟩:=hI;have hjg:hs[j]?=some hs[j]:=by simp[hj]
 have hg:=az hjg;have k2:Mk t pm K L m1 (M1++[.dK []]):=k1.frame (λa o _ _ e=>vq e) ht;have ac2:Ac q hs L as (M1++[.dK []]):=⟨vq (f1 _ _ hqp hqd ac.at_),ac.len,ac.ok⟩;obtain⟨ρ2,M2,e2,d3,d7,d8,d9,d10,d11,d12,rfl,f2,l2,o2⟩:=ap5 (W:=W) (r:=r) (dd:=M1.length) (b3:=c3) (b8:=c8) (b9:=c9) (b10:=c10) (Ru:=c11) (U9:=c12) k2 ac2 hjg (P.ae1 _ hg) (P.ae2 _ hg) (by simp) (b_ hpd l1) (b_ hqd l1) hqp ht hL;have f3:Fm pm M.length M M2:=λa o na ha e=>f2 a o na (b_ ha l1) (vq (f1 a o na ha e))
 have l3:M.length<=M2.length:=by simp at l2;lia
 have pe:∀ρ,(Tg.names [5,6]).put (eD hs[j]) ρ=some ((ρ.set 5 (some (.int hs[j].a))).set 6 (some (.int hs[j].b))):=λ_=>rfl
 have run:G3.den W [some (uh K r hs),some (.ref pm),some (.ref q),c3,some (.int j),c5,c6,c7,c8,c9,c10,c11,c12] M1=.ok (.next,[some (uh K r hs),some (.ref pm),some (.ref q),d3,some (.int j),some (.int hs[j].a),some (.int hs[j].b),d7,d8,d9,d10,d11,d12]) M2:=by simp[G3,Pn,U7 hjg,pe,MW.new,e2]
 refine⟨_,.next,_,M2,rfl,run,.inl rfl,?_⟩;rcases o2 with⟨rfl,k3⟩|⟨rfl,m2,k3,t3⟩
 . exact⟨_,_,_,_,_,_,_,_,_,_,m1,rfl,f3,l3,k3,t1,o1⟩
 . exact⟨_,_,_,_,_,_,_,_,_,_,m2,rfl,f3,l3,k3,e_ (b_ t3 t1),.inr ⟨rfl,b_ t3 t1⟩⟩
theorem aku(hm:1<=m)(P:V3 sz K hs kvs)(mk:Mk t pm K L ms M)(ac:Ac q hs L as M)(hpd:pm<M.length)(hqd:q<M.length)(hqp:q≠pm)(ht:t<pm)(hL:∀e,e<K->L e<=7) :
 ∃Rv M',prog.call m 26 [uh K r hs,.ref pm,.ref q] M=.ok (.ref pm) M'/\Mk t pm K L Rv M'/\Fm pm M.length M M'/\M.length<=M'.length:=by
 rw[call_of hm rfl];obtain⟨ρ',M',e,Rv,k1,f1,l1,c,hρ⟩:∃ρ' M',J8.den ⟨prog.call (m-1),prog.cls⟩ [some (uh K r hs),some (.ref pm),some (.ref q),some (.bl true),none,none,none,none,none,none,none,none,none] M=.ok (.next,ρ') M' /\
  ∃Rv,Mk t pm K L Rv M'/\Fm pm M.length M M'/\M.length<=M'.length/\∃c:Env,ρ'=[some (uh K r hs),some (.ref pm)]++c:=by
  unfold J8;rw[abm];refine Rj (λm ρ M'=>∃(Rv:Nat->List Nat)(b:Bool)(c:Env),ρ=[some (uh K r hs),some (.ref pm),some (.ref q),some (.bl b)]++c/\c.length=9/\Mk t pm K L Rv M'/\Fm pm M.length M M'/\M.length<=M'.length/\m=(if b then tot K Rv+1 else 0))
   (fun ρ' M'=>∃Rv,Mk t pm K L Rv M'/\Fm pm M.length M M'/\M.length<=M'.length/\∃c:Env,ρ'=[some (uh K r hs),some (.ref pm)]++c) (λn ρ M1 hI=>?_) af9 (tot K ms+1) _ M (by have:=a0g mk hL P.k3;show tot K ms+1<1000000;lia)
   ⟨ms,true,[none,none,none,none,none,none,none,none,none],rfl,rfl,mk,λ_ _ _ _ e=>e,bc _,rfl⟩
  obtain⟨m1,b,c,rfl,hc,k1,f1,l1,rfl⟩:=hI
  match c,hc with
  |[c4,c5,c6,c7,c8,c9,c10,c11,c12],_ =>
  cases b with
  |false=>exact .inl ⟨M1,rfl,m1,k1,f1,l1,_,rfl⟩
  |true =>
   right
   obtain⟨ρ2,M2,e2,d3,d4,d5,d6,d7,d8,d9,d10,d11,d12,m2,rfl,f2,l2,k2,t2,o2⟩:=ap6 (W:=⟨prog.call (m-1),prog.cls⟩) (r:=r) P k1 (⟨f1 _ _ hqp hqd ac.at_,ac.len,ac.ok⟩:Ac q hs L as M1) (b_ hpd l1) (b_ hqd l1) hqp ht hL (b3:=some (.bl false)) (b4:=c4) (b5:=c5) (b6:=c6) (b7:=c7) (b8:=c8) (b9:=c9) (b10:=c10) (Ru:=c11) (U9:=c12);have f3:Fm pm M.length M M2:=f1.trans (f2.le l1);have run:J7.den ⟨prog.call (m-1),prog.cls⟩ [some (uh K r hs),some (.ref pm),some (.ref q),some (.bl true),c4,c5,c6,c7,c8,c9,c10,c11,c12] M1=.ok (.next,[some (uh K r hs),some (.ref pm),some (.ref q),d3,d4,d5,d6,d7,d8,d9,d10,d11,d12]) M2:=by simp[J7,e2]
   rcases o2 with rfl|⟨rfl,t3⟩
   . exact⟨M1,.next,_,M2,0,rfl,run,.inl rfl,by simp,m2,false,[d4,d5,d6,d7,d8,d9,d10,d11,d12],rfl,rfl,k2,f3,a_ l1 l2,rfl⟩
   . exact⟨M1,.next,_,M2,tot K m2+1,rfl,run,.inl rfl,by simp;exact t3,m2,true,[d4,d5,d6,d7,d8,d9,d10,d11,d12],rfl,rfl,k2,f3,a_ l1 l2,rfl⟩
 subst hρ;refine⟨Rv,M',?_,k1,f1,l1⟩;simp only[Af,Aw] at e;simp[Fn.run,Sh,Sg,e]
end
theorem afi{x y:Int}:∀{l:List Int},x∈insI y l↔x=y\/x∈l
 |[]=>by simp[insI]
 |a::l=>by
  unfold insI;split
  . simp
  . simp only[bw,afi]
    constructor
    . rintro(h|h|h)
      . exact .inr (.inl h)
      . exact .inl h
      . exact .inr (.inr h)
    . rintro(h|h|h)
      . exact .inr (.inl h)
      . exact .inl h
      . exact .inr (.inr h)
theorem Rn{x:Int}:∀{l:List Int},x∈sortI l↔x∈l
 |[]=>by simp[sortI]
 |a::l=>by
  have h:=Rn (x:=x) (l:=l);show x∈insI a (sortI l)↔_;rw[afi,h];simp
set_option tactic.hygienic true in
theorem Ro{x:Int}:∀{l:List Int},x∈Bb l↔x∈l
 |[]=>by simp[Bb]
 |a::l=>by
  have h:=Ro (x:=x) (l:=l);unfold Bb;split
  . rename_i z
    rw[h];simp only[bw];exact⟨.inr,λq=>q.elim (λe=>e▸z) id⟩
  . simp only[bw,h]
theorem afj(y:Int):∀l:List Int,(insI y l).length=l.length+1
 |[]=>rfl|a::l=>by unfold insI;split<;>simp[afj y l]
theorem aax:∀l:List Int,(sortI l).length=l.length
 |[]=>rfl|a::l=>by show(insI a (sortI l)).length=_;rw[afj,aax l];rfl
theorem aay:∀l:List Int,(Bb l).length<=l.length
 |[]=>bc _|a::l=>by have:=aay l;unfold Bb;split<;>simp<;>omega
theorem acz:∀l:List Nat,Ww (l.map nD)=some (l.map λ(x:Nat)=>(x:Int))
 |[]=>rfl|a::l=>by show(Ww (l.map nD)).map _=_;rw[acz l];rfl
theorem ag6{l:List Nat}(h:asList M d=some (l.map nD))(hz:l.length<31):∃hl:List Nat,o6 .Jj [d] M=.ok (.vl (hl.map nD)) M/\hl.length<=l.length/\∀x,x∈hl↔x∈l:=by
 refine⟨(sortI (Bb (l.map λ(x:Nat)=>(x:Int)))).map Int.toNat,?_,?_,λx=>?_⟩
 . show Res.ofOpt (((asList M d).bind Ww).bind λis=>if is.length<31 then some (D.vl ((sortI (Bb is)).map D.int)) else none) M=_
   rw[h,pq,acz,pq,cu (by simpa using hz)];have:((sortI (Bb (l.map λ(x:Nat)=>(x:Int)))).map Int.toNat).map nD=(sortI (Bb (l.map λ(x:Nat)=>(x:Int)))).map D.int:=by rw[Ad];apply qi;intro y hy;rw[Rn,Ro] at hy;obtain⟨z,_,rfl⟩:=bu.mp hy;simp[nD]
   rw[this];rfl
 . rw[fc,aax]
   have:=aay (l.map λ(x:Nat)=>(x:Int));simpa using this
 . constructor
   . intro h
     obtain⟨y,hy,rfl⟩:=bu.mp h;rw[Rn,Ro] at hy;obtain⟨z,hz,rfl⟩:=bu.mp hy;simpa using hz
   . intro h
     refine bu.mpr ⟨(x:Int),?_,by simp⟩;rw[Rn,Ro];exact bu.mpr ⟨x,h,rfl⟩
section
variable{W:Dy}{t p K:Nat}{L:Nat->Nat}{M:Store}
theorem akv(hρ:ρ.length=19)(h3:ρ[3]?=some (some (.vl (vd p K))))(h:RS p K rs M)(hK:K<=3)(h7:∀e,e<K->(rs e).length<=7)(ht:t<M.length) :
 ∃M',Lb.den W ρ M=.ok (.ref (M.length+K)) M'/\Mk t (M.length+K) K (λe=>(rs e).length) (λe=>List.range (rs e).length) M'/\Bd M M'/\M'.length=M.length+K+1:=by
 unfold Lb;obtain⟨ys,M1,e,r1,r2,r3,r4⟩:=Mu (W:=W) (v:=false) (k:=1) (t:=.name 19) (it:=.var 3) (e:=.abg (.blt .len (.cons (.var 19) .nil))) (ρ:=ρ) (M:=M) (M1:=M) (d:=.vl (vd p K)) (ds:=vd p K) (by simp[h3]) rfl (by simp[vd];exact a_ hK (by decide))
  (λi xs M'=>xs=vd M.length i/\(∀e,e<i->M'[M.length+e]?=some (.lst ((List.range (rs e).length).map nD)))/\Bd M M'/\M'.length=M.length+i) ⟨rfl,λe he=>absurd he (wy _),Bd.refl M,rfl⟩ (λ_ _ _ _=>rfl)
  (λi y xs M' hy hI=>by
   obtain⟨rfl,q1,q2,q3⟩:=hI;have hi:i<K:=by have:=(ak.mp hy).1;simpa[vd] using this
   obtain rfl:D.ref (p+i)=y:=by simpa[vd,hi] using hy
   have ln:=len_list (j6 (q2 _ _ (h i hi)));have e1:(ρ++List.replicate 1 none).set 19 (some (.ref (p+i)))=ρ++[some (.ref (p+i))]:=by rw[Dj];simp[hρ]
   have g9:(ρ++[some (D.ref (p+i))])[19]?=some (some (.ref (p+i))):=by rw[<- hρ];simp
   refine⟨_,.ref M'.length,M'++[.lst ((List.range (rs i).length).map nD)],rfl,?_,?_,λe he=>?_,q2.trans (Bd.app _ _),by simp[q3];exact rfl⟩
   . have h8:=h7 i hi
     have h9:(rs i).length<=100000:=a_ h8 (by decide)
     rw[e1];simp[g9,ln,h9,MW.new,nD]
   . simp[vd,G6,q3]
   . by_cases z:e=i
     . subst z;rw[<- q3];simp
     . exact vq (q1 e (by lia)))
 have hlr:(vd p K).length=K:=by simp[vd]
 rw[hlr] at r1 r2 r4;refine⟨M1++[.lst ys],by rw[e];simp[MW.new,r4],⟨⟨ys,by rw[<- r4];simp,by rw[r1];simp[vd],λi hi=>?_⟩,λi hi=>by simp,λi hi x hx=>jw.mp hx⟩,r3.trans (Bd.app _ _),by simp[r4]⟩;refine⟨.ref (M.length+i),by rw[r1];simp[vd,hi],j6 (vq (r2 i hi)),λa q=>?_⟩;cases q;exact⟨b_ ht x_,H_ hi⟩
end
section
variable{m t:Nat}{f:Bool}{M:Store}{sz:Nat->Nat}{K r p pm q:Nat}{hs:List F}{kvs:List (List Kx×D)}{L:Nat->Nat}{ms:Nat->List Nat}{as:List (List Nat)}
theorem Mk.st(h:Mk t pm K L ms M)(s:St t f M M')(ht:t<pm):Mk t pm K L ms M':=h.frame (λa o ha _ e=>s.keep a o (i_ ha) e) ht
theorem Ac.of(h:Ac q hs L as M)(k:∀o,M[q]?=some o->M'[q]?=some o):Ac q hs L as M':=⟨k _ h.at_,h.len,h.ok⟩
theorem avn(hm:1<=m)(P:V3 sz K hs kvs)(hh:V2 t f M)(mk:Mk t pm K L ms M)(ac:Ac q hs L as M)(htp:t<p)(hp:p<=pm)(hpd:pm<M.length)(hq:p<=q)(hqp:q≠pm)(hqd:q<M.length)(hL:∀e,e<K->L e<=7) :
 ∃c5 c11 c12 c14 c15 Rv M',Fi.den ⟨prog.call m,prog.cls⟩ [some (.ref t),some (uh K r hs),a2,a3,b4,b5,b6,b7,b8,some (.ref q),b10,Ru,U9,some (.ref pm),b14,b15,n16,n17,n18] M =
  .ok (.next,[some (.ref t),some (uh K r hs),a2,a3,b4,c5,b6,b7,b8,some (.ref q),b10,c11,c12,some (.ref pm),c14,c15,n16,n17,n18]) M'/\Mk t pm K L Rv M'/\Ac q hs L as M'/\Gs t f p M M':=by
 have h3:=P.k3;obtain⟨k,M1,e1,l1,s1,n1⟩:=Dn (many:=K) hm hh (by have:=P.k1;exact m_ this) (m_ (c_ h3 (by decide)));obtain⟨x,M2,e2,l2,s2,n2⟩:=Dn (many:=7) hm s1.has (by decide) (by decide);obtain⟨y,M3,e3,l3,s3,n3⟩:=Dn (many:=7) hm s2.has (by decide) (by decide);have hk:k<K:=o_ l1
 have s:=s1.trans (s2.trans s3);have mk3:=mk.st s (b_ htp hp);have ac3:Ac q hs L as M3:=ac.of λo e=>s.keep _ _ (i_ (b_ htp hq)) e
 obtain⟨dk,fk,lk⟩:=mk3.row hk;have hlk:=mk3.len _ hk;have ln:=len_list lk;simp only[fc,hlk] at ln;have mx:=acw M3 x y
 by_cases c:max x y<L k
 . have c':((max x y:Nat):Int)<(L k:Int):=m_ c
   have hx:x<(ms k).length:=by lia
   have hy:y<(ms k).length:=by lia
   have ix:=T3 lk hx;have iy:=T3 lk hy;have hxm:=getD_mem' hx;have hym:=getD_mem' hy;generalize hx0:(ms k).getD x 0=u at ix hxm;generalize hy0:(ms k).getD y 0=w at iy hym;have hlo:min u w∈ms k:=by
    rcases Jr u w with z|z
    . rw[G7 z];exact hxm
    . rw[Gk z];exact hym
   have rp:=afh (W:=⟨prog.call m,prog.cls⟩) (M:=M3) (ρ:=[some (.ref t),some (uh K r hs),a2,a3,b4,some (.int k),b6,b7,b8,some (.ref q),b10,some (.int x),some (.int y),some (.ref pm),some (.int (min u w:Nat)),some (.int (max u w:Nat)),n16,n17,n18]) (v:=13) (x:=5) (y:=19) (a:=14) (b:=15) (lo:=min u w) (hi:=max u w) (by simp[fk]) lk (by have:=hL _ hk;exact a_ (f_ hlk) (a_ this (by decide))) rfl rfl rfl;obtain⟨o,so,mk4⟩:=mk3.set hk (ns:=repl (min u w) (max u w) (ms k)) (by simp[repl,hlk]) (λz hz=>by
    obtain⟨v,hv,rfl⟩:=bu.mp hz;split
    . exact mk3.lt _ hk _ hlo
    . exact mk3.lt _ hk _ hv) (b_ htp hp)
   have ac4:Ac q hs L as (M3.set pm o):=ac3.of λo e=>by rw[m5 (jz hqp)];exact e
   have hl3:M3.length=M.length:=u_ (a_ (f_ n3) (a_ (f_ n2) (f_ n1))) (a_ (g_ n1) (a_ (g_ n2) (g_ n3)));obtain⟨Rv,M5,e5,mk5,f5,l5⟩:=aku (r:=r) (M:=M3.set pm o) hm P mk4 ac4 (by simp;exact b_ hpd (g_ hl3)) (by simp;exact b_ hqd (g_ hl3)) hqp (b_ htp hp) hL;have ac5:Ac q hs L as M5:=ac4.of λo e=>f5 _ _ hqp (by simp;exact b_ hqd (g_ hl3)) e
   refine⟨some (.int k),some (.int x),some (.int y),some (.int (min u w:Nat)),some (.int (max u w:Nat)),Rv,M5,?_,mk5,ac5,⟨?_,λa v ha na e=>?_,by simp at l5;exact a_ (g_ hl3) l5⟩⟩
   . simp[Fi,Yy,e1,e2,e3,mx,fk,ln,c',ix,iy,ai1,acw,Q0,rp,so,e5]
   . obtain⟨n,hn,ho⟩:=s.has
     exact⟨n,f5 _ _ (h_ (b_ htp hp)) (by have:=v5 hn;simp;exact this) (by rw[m5 (i_ (b_ htp hp))];exact hn),ho⟩
   . refine f5 _ _ (h_ (b_ ha hp)) (by have:=v5 e;simp;exact b_ this (g_ hl3)) ?_
     rw[m5 (i_ (b_ ha hp))];exact s.keep a v na e
 . have c':¬((max x y:Nat):Int)<(L k:Int):=by lia
   refine⟨some (.int k),some (.int x),some (.int y),b14,b15,ms,M3,?_,mk3,ac3,Gs.aaw s⟩;simp[Fi,Yy,e1,e2,e3,mx,fk,ln,c']
end
noncomputable def ug(sizes:List Nat)(acts:List (List Nat)):D:=.tup [.tup (sizes.map nD),.tup (acts.map λjs=>.tup (js.map nD))]
structure WOk(K:Nat)(hs:List F)(sizes:List Nat)(acts:List (List Nat)):Prop where
 ls:sizes.length=K
 la:acts.length=hs.length
 sm:∀x∈sizes,x<=7
 ok:∀(j:Nat)(g:F)(js:List Nat),hs[j]?=some g->acts[j]?=some js->js.length=sizes.getD g.a 0/\∀x∈js,x<sizes.getD g.b 0
theorem ap8(h:.int v∈ds):ixI v ds<ds.length:=by
 unfold ixI;cases q:ds.findIdx? (λd=>match d with|.int i=>decide (i=v)|_=>false) with
 |some j=>exact(m8.mp q).1
 |none =>
  rw[um] at q;have:=q _ h;simp at this
noncomputable def V4(l:List Nat):D:=.vl (l.map nD)
section
variable{W:Dy}{t:Nat}{M:Store}{K pm q:Nat}{hs:List F}{L:Nat->Nat}{ms:Nat->List Nat}{as hl:List (List Nat)}
theorem ap9(hρ:ρ.length=19)(h13:ρ[13]?=some (some (.ref pm)))(mk:Mk t pm K L ms M)(hK:K<=3)(h7:∀i,i<K->L i<=7) :
 ∃hl:List (List Nat),La.den W ρ M=.ok (.vl (hl.map V4)) M/\hl.length=K/\∀e l,hl[e]?=some l->l.length<=L e/\∀x,x∈l↔x∈ms e:=by
 obtain⟨mds,h1,h2,h3⟩:=mk.ex;unfold La;obtain⟨ys,M',e,rfl,hl,r1,r2,r3⟩:=Mu (W:=W) (v:=true) (k:=1) (t:=.name 19) (it:=.var 13) (e:=.blt .Jj (.cons (.var 19) .nil)) (ρ:=ρ) (M:=M) (M1:=M) (d:=.ref pm) (ds:=mds) (by simp[h13]) (j6 h1) (a_ (f_ h2) (a_ hK (by decide)))
  (λi xs M'=>M'=M/\∃hl:List (List Nat),xs=hl.map V4/\hl.length=i/\∀e l,hl[e]?=some l->l.length<=L e/\∀x,x∈l↔x∈ms e) ⟨rfl,[],rfl,rfl,by simp⟩ (λi xs M' h=>by rw[h.1];exact j6 h1)
  (λi y xs M' hy hI=>by
   obtain⟨rfl,hl,rfl,q1,q2⟩:=hI;have hi:i<K:=by have:=(ak.mp hy).1;exact b_ this (f_ h2)
   obtain⟨d,g1,g2,_⟩:=h3 i hi;rw[hy] at g1;cases g1;obtain⟨l,k1,k2,k3⟩:=ag6 g2 (by have:=h7 i hi;have:=mk.len i hi;lia);have e1:(ρ++List.replicate 1 none).set 19 (some y)=ρ++[some y]:=by rw[Dj];simp[hρ]
   have g9:(ρ++[some y])[19]?=some (some y):=by rw[<- hρ];simp
   refine⟨_,V4 l,M',rfl,by rw[e1];simp[g9,k1,V4],rfl,hl++[l],by simp,by simp[q1],λe l' he=>?_⟩
   by_cases z:e<hl.length
   . rw[dq z] at he;exact q2 e l' he
   . have ze:e=i:=by have:=(ak.mp he).1;simp at this;lia
     subst ze;rw[je (s_ z),q1] at he;simp at he;subst he;rw[<- mk.len e hi];exact⟨k2,k3⟩)
 refine⟨hl,by rw[e,r1];rfl,r2.trans h2,r3⟩
theorem aqa{i:Nat}(h:hl[i]?=some l):Bc (.vl (hl.map V4)) (.int i) M=some (V4 l):=Fq rfl q_ (by simp[h])
theorem akx(mk:Mk t pm K L ms M)(ac:Ac q hs L as M){j w r:Nat}{g:F}{js la lb:List Nat}{td:List D}(hj:hs[j]?=some g)(ga:g.a<K)(gb:g.b<K)(h1:hl[g.a]?=some la)(h2:hl[g.b]?=some lb)(hma:∀x,x∈la↔x∈ms g.a)(hmb:∀x,x∈lb↔x∈ms g.b)(h7:la.length<=7)
 (hw:M[w]?=some (.lst td)) (htd:td.length<100000) {a0 a2 a3 b4 b5 b6 b7 b8 Ru U9 b14 b15 b18:Option D} :
 ∃(c18:Option D)(zs:List Nat),Hu.den W [a0,some (uh K r hs),a2,a3,b4,b5,b6,b7,b8,some (.ref q),some (.int j),Ru,U9,some (.ref pm),b14,b15,some (.vl (hl.map V4)),some (.ref w),b18] M =
  .ok (.next,[a0,some (uh K r hs),a2,a3,b4,b5,b6,b7,b8,some (.ref q),some (.int j),some (.int g.a),some (.int g.b),some (.ref pm),b14,b15,some (.vl (hl.map V4)),some (.ref w),c18]) (M.set w (.lst (td++[.tup (zs.map nD)])))/\zs.length=la.length/\∀x∈zs,x<lb.length:=by
 obtain⟨js,ej,fj,lj,rj⟩:=ac.get hj;obtain⟨db,fb,lbm⟩:=mk.row gb;have hz:∀th∈la,js.getD th 0<(ms g.b).length/\th<js.length:=λth h=>by
  have h3:=mk.lt _ ga th ((hma th).mp h);have h4:th<js.length:=b_ h3 (g_ lj)
  exact⟨by rw[mk.len _ gb];exact rj _ (getD_mem' h4),h4⟩
 have c3:K9.den W [a0,some (uh K r hs),a2,a3,b4,b5,b6,b7,b8,some (.ref q),some (.int j),some (.int g.a),some (.int g.b),some (.ref pm),b14,b15,some (.vl (hl.map V4)),some (.ref w),b18] M=.ok (V4 (la.map λth=>(ms g.b).getD (js.getD th 0) 0)) M:=by
  unfold K9;rw[Ao (d:=V4 la) (ds:=la.map nD) (M1:=M) (g:=λd=>match d with|.int o=>nD ((ms g.b).getD (js.getD o.toNat 0) 0)|_=>.non) (by simp[aqa h1]) rfl (by simp;exact a_ h7 (by decide)) (λz hz'=>by
   obtain⟨th,hth,rfl⟩:=bu.mp hz';obtain⟨k1,k2⟩:=hz th hth;refine⟨_,rfl,?_⟩;have i1:Bc (.vl (js.map nD)) (.int th) M=some (.int (js.getD th 0)):=T3 rfl k2;have i2:=T3 lbm k1;show(Ex.ix (.ix (.var 13) (.var 12)) (.ix (.ix (.var 9) (.var 10)) (.var 19))).den W [a0,some (uh K r hs),a2,a3,b4,b5,b6,b7,b8,some (.ref q),some (.int j),some (.int g.a),some (.int g.b),some (.ref pm),b14,b15,some (.vl (hl.map V4)),some (.ref w),b18,some (.int th)] M=.ok (nD ((ms g.b).getD (js.getD (th:Int).toNat 0) 0)) M;rw[qg];generalize js.getD th 0=yy at i1 i2;generalize(ms g.b).getD yy 0=zz at i2;simp[fb,fj,i1,i2,nD])]
  simp[V4,nD]
 have hin:∀z∈la.map (λth=>(ms g.b).getD (js.getD th 0) 0),.int (z:Int)∈lb.map nD:=λz h=>by obtain⟨th,hth,rfl⟩:=bu.mp h;exact bu.mpr ⟨_,(hmb _).mpr (getD_mem' (hz th hth).1),rfl⟩
 generalize hrow:la.map (λth=>(ms g.b).getD (js.getD th 0) 0)=row at c3 hin;have hrl:row.length=la.length:=by rw[<- hrow];simp
 have c2:K8.den W [a0,some (uh K r hs),a2,a3,b4,b5,b6,b7,b8,some (.ref q),some (.int j),some (.int g.a),some (.int g.b),some (.ref pm),b14,b15,some (.vl (hl.map V4)),some (.ref w),some (V4 row)] M=.ok (.vl ((row.map λ(z:Nat)=>ixI (z:Int) (lb.map nD)).map nD)) M:=by
  unfold K8;rw[Ao (d:=V4 row) (ds:=row.map nD) (M1:=M) (g:=λd=>match d with|.int o=>nD (ixI o (lb.map nD))|_=>.non) (by simp) rfl (by simp;exact a_ (f_ hrl) (a_ h7 (by decide))) (λz hz'=>by
   obtain⟨o,ho,rfl⟩:=bu.mp hz';refine⟨_,rfl,?_⟩;have i1:=afe (M:=M) (ds:=lb.map nD) (v:=(o:Int)) (λd hd=>by obtain⟨x,_,rfl⟩:=bu.mp hd;exact⟨_,rfl⟩) (hin o ho);show(Ex.bm .index (.ix (.var 16) (.var 12)) (.cons (.var 19) .nil)).den W [a0,some (uh K r hs),a2,a3,b4,b5,b6,b7,b8,some (.ref q),some (.int j),some (.int g.a),some (.int g.b),some (.ref pm),b14,b15,some (.vl (hl.map V4)),some (.ref w),some (V4 row),some (.int o)] M=_;simp[aqa h2,V4,Mw,i1,nD])]
  simp[nD]
 refine⟨some (V4 row),row.map λ(z:Nat)=>ixI (z:Int) (lb.map nD),?_,by simp[hrl],λx hx=>?_⟩
 . have pe:∀ρ,(Tg.names [11,12]).put (eD g) ρ=some ((ρ.set 11 (some (.int g.a))).set 12 (some (.int g.b))):=λ_=>rfl
   have ap:=Hl (d:=.tup ((row.map λ(z:Nat)=>ixI (z:Int) (lb.map nD)).map nD)) hw htd;simp only[Ad] at c2 ap ⊢;simp[-Ad,Hu,Pn,U7 hj,pe,c3,c2,Ik hw,Yu,ap]
 . obtain⟨z,hz',rfl⟩:=bu.mp hx
   have:=ap8 (hin z hz');simpa using this
end
section
variable{m t:Nat}{f:Bool}{M:Store}{sz:Nat->Nat}{K r:Nat}{hs:List F}{kvs:List (List Kx×D)}
theorem aqb(hm:2<=m)(P:V3 sz K hs kvs)(hh:V2 t f M)(hr:M[r]?=some (.dT kvs))(hrt:r≠t) :
 ∃sizes acts M',prog.call m 27 [.ref t,uh K r hs,.int 4] M=.ok (ug sizes acts) M'/\WOk K hs sizes acts/\St t f M M':=by
 rw[call_of (a_ (by decide) hm) rfl];have h3:=P.k3;have hl:=P.len;have ht:t<M.length:=by obtain⟨n,h,_⟩:=hh;exact v5 h
 have hrl:=v5 hr;have r0:=apy (W:=⟨prog.call (m-1),prog.cls⟩) (M:=M) (K:=K) (y:=19) (e:=.ix (.var 1) (.cst (.int 0))) (ρ:=[some (.ref t),some (uh K r hs),some (.int 4),none,none,none,none,none,none,none,none,none,none,none,none,none,none,none,none]) rfl (by simp[Yy]) (a_ h3 (by decide));have g0:Gs t f M.length M (M++List.replicate K (.lst [])):=Gs.app hh (bc _) _;have w0:Rw hs K M.length [] (M++List.replicate K (.lst [])):=⟨λi hi=>by
  rw[je x_];simp[rowsOf,hi],by simp,by simp[rowsOf]⟩
 obtain⟨v,M1,e1,l1,s1,n1⟩:=Dn (many:=5) (m:=m-1) (r_ hm) g0.has (by decide) (by decide);obtain⟨ρ2,M2,e2,⟨b4,b5,b6,b7,b8,rfl⟩,ad,w2,g2,n2⟩:=xj (W:=⟨prog.call (m-1),prog.cls⟩) (t:=.name 4) (b:=Fj) (it:=.call 14 (.cons (.var 0) (.cons (.bin .add (.var 2) (.cst (.int 1))) .nil))) (n:=v)
  (ρ:=[some (.ref t),some (uh K r hs),some (.int 4),some (.vl (vd M.length K)),none,none,none,none,none]++[none,none,none,none,none,none,none,none,none,none]) (M:=M++List.replicate K (.lst [])) (M1:=M1) (by simp[e1]) (e_ (b_ (o_ l1) (by decide)))
  (λ_ ρ M'=>(∃b4 b5 b6 b7 b8:Option D,ρ=[some (.ref t),some (uh K r hs),some (.int 4),some (.vl (vd M.length K)),b4,b5,b6,b7,b8]++[none,none,none,none,none,none,none,none,none,none])/\∃ad,Rw hs K M.length ad M'/\Gs t f M.length M M'/\M'.length=M.length+K)
  ⟨⟨none,none,none,none,none,rfl⟩,[],⟨w0.rs.keep s1 ht,w0.kd,w0.le⟩,g0.trans (Gs.aaw s1),by simp at n1;exact n1⟩
  (λi ρ M2 hi hI=>by
   obtain⟨⟨b4,b5,b6,b7,b8,rfl⟩,ad,q1,q2,q3⟩:=hI;obtain⟨c5,c6,c7,c8,ad',M3,e3,k1,k2,k3⟩:=avd (m:=m-1) (r:=r) (n:=i) (r_ hm) P q2.has ht q1 (b5:=b5) (b6:=b6) (b7:=b7) (b8:=b8) (rest:=[none,none,none,none,none,none,none,none,none,none]) rfl;exact⟨_,.next,_,M3,rfl,e3,.inl rfl,⟨some (.int i),c5,c6,c7,c8,rfl⟩,ad',k1,q2.trans k2,k3.trans q3⟩)
 have hM2:=n2;obtain⟨ρ3,M3,e3,⟨b10,Ru,U9,rfl⟩,as,a3,a4,a5,w3,g3,n3⟩:=xj (W:=⟨prog.call (m-1),prog.cls⟩) (t:=.name 10) (b:=Lf) (it:=.blt .len (.cons (.ix (.var 1) (.cst (.int 1))) .nil)) (n:=hs.length)
  (ρ:=[some (.ref t),some (uh K r hs),some (.int 4),some (.vl (vd M.length K)),b4,b5,b6,b7,b8,some (.ref M2.length),none,none,none,none,none,none,none,none,none]) (M:=M2++[.lst []]) (M1:=M2++[.lst []]) (by simp[Pn,Rb]) (a_ hl (by decide))
  (λj ρ M'=>(∃b10 Ru U9:Option D,ρ=[some (.ref t),some (uh K r hs),some (.int 4),some (.vl (vd M.length K)),b4,b5,b6,b7,b8,some (.ref M2.length),b10,Ru,U9,none,none,none,none,none,none]) /\
   ∃as:List (List Nat),M'[M2.length]?=some (.lst (as.map λjs=>.vl (js.map nD)))/\as.length=j/\(∀(j:Nat)(g:F)(js:List Nat),hs[j]?=some g->as[j]?=some js->js.length=(rowsOf hs ad g.a).length/\∀x∈js,x<(rowsOf hs ad g.b).length)/\Rw hs K M.length ad M'/\Gs t f M.length M M'/\M'.length=M2.length+1)
  ⟨⟨none,none,none,rfl⟩,[],by simp,rfl,by simp,⟨λi hi=>vq (w2.rs i hi),w2.kd,w2.le⟩,g2.trans (Gs.app g2.has (by lia) _),by simp⟩
  (λj ρ M3 hj hI=>by
   obtain⟨⟨b10,Ru,U9,rfl⟩,as,q1,q2,q3,q4,q5,q6⟩:=hI;have hjg:hs[j]?=some hs[j]:=by simp[hj]
   obtain⟨js,c7,k1,k2⟩:=a0d (m:=m-1) (M:=M3) (r:=r) (r_ hm) P (q5.low _ _ hrl hrt hr) q4 hjg (a0:=some (.ref t)) (a2:=some (.int 4)) (a4:=b4) (a5:=b5) (a6:=b6) (a7:=b7) (a8:=b8) (a9:=some (.ref M2.length)) (rest:=[none,none,none,none,none,none]) rfl;have ap:=Hl (d:=.vl (js.map nD)) q1 (by simp;exact c_ (f_ q2) (b_ hj (a_ hl (by decide))));have pe:∀ρ,(Tg.names [11,12]).put (eD hs[j]) ρ=some ((ρ.set 11 (some (.int hs[j].a))).set 12 (some (.int hs[j].b))):=λ_=>rfl
   simp only[Af,Aw] at c7;refine⟨_,.next,_,M3.set M2.length (.lst ((as.map λjs=>.vl (js.map nD))++[.vl (js.map nD)])),rfl,by simp[Lf,Pn,U7 hjg,pe,Ik q1,c7,ap],.inl rfl,⟨some (.int j),some (.int hs[j].a),some (.int hs[j].b),rfl⟩,as++[js],by rw[qb q1];simp,by simp[q2],λj' g js' hg hjs=>?_,⟨λi hi=>?_,q4.kd,q4.le⟩,q5.trans (Gs.ag4 q5.has (Zn.set (by lia)) ht (by simp)),by simp[q6]⟩
   . by_cases z:j'<as.length
     . rw[dq z] at hjs;exact q3 j' g js' hg hjs
     . have ze:j'=j:=by have:=(ak.mp hjs).1;simp at this;lia
       subst ze;rw[je (s_ z),q2] at hjs;simp at hjs;subst hjs;rw[hjg] at hg;cases hg;exact⟨k1,k2⟩
   . rw[m5 (by lia)];exact q4.rs i hi)
 obtain⟨M4,e4,mk4,kp4,n4⟩:=akv (W:=⟨prog.call (m-1),prog.cls⟩) (t:=t) (M:=M3) (ρ:=[some (.ref t),some (uh K r hs),some (.int 4),some (.vl (vd M.length K)),b4,b5,b6,b7,b8,some (.ref M2.length),b10,Ru,U9,none,none,none,none,none,none]) rfl rfl w3.rs h3 w3.le (by lia);have g4:Gs t f M.length M M4:=g3.trans ⟨by obtain⟨n,h,o⟩:=g3.has;exact⟨n,kp4 _ _ h,o⟩,λa o _ _ e=>kp4 a o e,by lia⟩;have ac4:Ac M2.length hs (λe=>(rowsOf hs ad e).length) as M4:=⟨kp4 _ _ a3,a4,a5⟩;obtain⟨u,M5,e5,l5,s5,n5⟩:=Dn (many:=4) (m:=m-1) (r_ hm) g4.has (by decide) (by decide);obtain⟨ρ6,M6,e6,⟨d5,d10,d11,d12,d14,d15,rfl⟩,ms,mk6,ac6,g6,n6⟩:=xj (W:=⟨prog.call (m-1),prog.cls⟩) (t:=.name 10) (b:=Fi) (it:=.call 14 (.cons (.var 0) (.cons (.cst (.int 4)) .nil))) (n:=u)
  (ρ:=[some (.ref t),some (uh K r hs),some (.int 4),some (.vl (vd M.length K)),b4,b5,b6,b7,b8,some (.ref M2.length),b10,Ru,U9,some (.ref (M3.length+K)),none,none,none,none,none]) (M:=M4) (M1:=M5) (by simp[e5]) (e_ (b_ (o_ l5) (by decide)))
  (λ_ ρ M'=>(∃b5 b10 Ru U9 b14 b15:Option D,ρ=[some (.ref t),some (uh K r hs),some (.int 4),some (.vl (vd M.length K)),b4,b5,b6,b7,b8,some (.ref M2.length),b10,Ru,U9,some (.ref (M3.length+K)),b14,b15,none,none,none]) /\
   ∃ms,Mk t (M3.length+K) K (λe=>(rowsOf hs ad e).length) ms M'/\Ac M2.length hs (λe=>(rowsOf hs ad e).length) as M'/\Gs t f M.length M M'/\M3.length+K<M'.length)
  ⟨⟨b5,b10,Ru,U9,none,none,rfl⟩,_,mk4.st s5 (by lia),ac4.of λo e=>s5.keep _ _ (by lia) e,g4.trans (Gs.aaw s5),by lia⟩
  (λi ρ M6 hi hI=>by
   obtain⟨⟨b5,b10,Ru,U9,b14,b15,rfl⟩,ms,q1,q2,q3,q4⟩:=hI;obtain⟨c5,c11,c12,c14,c15,Rv,M7,e7,k1,k2,k3⟩:=avn (m:=m-1) (r:=r) (p:=M.length) (r_ hm) P q3.has q1 q2 ht (by lia) q4 (by lia) (by lia) (by lia) w3.le (a2:=some (.int 4)) (a3:=some (.vl (vd M.length K))) (b4:=b4) (b5:=b5) (b6:=b6) (b7:=b7) (b8:=b8) (b10:=some (.int i)) (Ru:=Ru) (U9:=U9) (b14:=b14) (b15:=b15) (n16:=none) (n17:=none) (n18:=none);exact⟨_,.next,_,M7,rfl,e7,.inl rfl,⟨c5,some (.int i),c11,c12,c14,c15,rfl⟩,Rv,k1,k2,q3.trans k3,by have:=k3.len;exact b_ q4 this⟩)
 obtain⟨hd,e7,hd1,hd2⟩:=ap9 (W:=⟨prog.call (m-1),prog.cls⟩) (M:=M6) (ρ:=[some (.ref t),some (uh K r hs),some (.int 4),some (.vl (vd M.length K)),b4,d5,b6,b7,b8,some (.ref M2.length),d10,d11,d12,some (.ref (M3.length+K)),d14,d15,none,none,none]) rfl rfl mk6 h3 w3.le;have hdl:∀e,e<K->∃l,hd[e]?=some l/\l.length<=7/\∀x,x∈l↔x∈ms e:=λe he=>by have z:hd[e]?=some hd[e]:=cz (b_ he (g_ hd1));obtain⟨y1,y2⟩:=hd2 e _ z;have:=w3.le e he;exact⟨_,z,a_ y1 this,y2⟩
 obtain⟨ρ8,M8,e8,⟨f10,f11,f12,f18,rfl⟩,td,t1,t2,t3,g8,n8⟩:=xj (W:=⟨prog.call (m-1),prog.cls⟩) (t:=.name 10) (b:=Hu) (it:=.blt .len (.cons (.ix (.var 1) (.cst (.int 1))) .nil)) (n:=hs.length)
  (ρ:=[some (.ref t),some (uh K r hs),some (.int 4),some (.vl (vd M.length K)),b4,d5,b6,b7,b8,some (.ref M2.length),d10,d11,d12,some (.ref (M3.length+K)),d14,d15,some (.vl (hd.map V4)),some (.ref M6.length),none]) (M:=M6++[.lst []]) (M1:=M6++[.lst []]) (by simp[Pn,Rb]) (a_ hl (by decide))
  (λj ρ M'=>(∃b10 Ru U9 b18:Option D,ρ=[some (.ref t),some (uh K r hs),some (.int 4),some (.vl (vd M.length K)),b4,d5,b6,b7,b8,some (.ref M2.length),b10,Ru,U9,some (.ref (M3.length+K)),d14,d15,some (.vl (hd.map V4)),some (.ref M6.length),b18]) /\
   ∃td:List (List Nat),M'[M6.length]?=some (.lst (td.map λjs=>.tup (js.map nD)))/\td.length=j/\(∀(j:Nat)(g:F)(js:List Nat),hs[j]?=some g->td[j]?=some js->js.length=(hd.map List.length).getD g.a 0/\∀x∈js,x<(hd.map List.length).getD g.b 0)/\Bd M6 M'/\M'.length=M6.length+1)
  ⟨⟨d10,d11,d12,none,rfl⟩,[],by simp,rfl,by simp,Bd.app _ _,by simp⟩
  (λj ρ M7 hj hI=>by
   obtain⟨⟨b10,Ru,U9,b18,rfl⟩,td,q1,q2,q3,q4,q5⟩:=hI;have hjg:hs[j]?=some hs[j]:=by simp[hj]
   have hg:=az hjg;obtain⟨la,x1,x2,x3⟩:=hdl _ (P.ae1 _ hg);obtain⟨lb,y1,y2,y3⟩:=hdl _ (P.ae2 _ hg);have mk7:=mk6.frame (M':=M7) (λa o _ _ e=>q4 a o e) (by lia);have ac7:=ac6.of (M':=M7) λo e=>q4 _ _ e
   obtain⟨c18,zs,e9,k1,k2⟩:=akx (W:=⟨prog.call (m-1),prog.cls⟩) (r:=r) mk7 ac7 (hl:=hd) hjg (P.ae1 _ hg) (P.ae2 _ hg) x1 y1 x3 y3 x2 q1 (by simp;exact c_ (f_ q2) (b_ hj (a_ hl (by decide)))) (js:=[]) (a0:=some (.ref t)) (a2:=some (.int 4)) (a3:=some (.vl (vd M.length K))) (b4:=b4) (b5:=d5) (b6:=b6) (b7:=b7) (b8:=b8) (Ru:=Ru) (U9:=U9) (b14:=d14) (b15:=d15) (b18:=b18);refine⟨_,.next,_,_,rfl,e9,.inl rfl,⟨some (.int j),some (.int hs[j].a),some (.int hs[j].b),c18,rfl⟩,td++[zs],by rw[qb q1];simp,by simp[q2],λj' g js' hg' hjs=>?_,λa o e=>?_,by simp[q5]⟩
   . by_cases z:j'<td.length
     . rw[dq z] at hjs;exact q3 j' g js' hg' hjs
     . have ze:j'=j:=by have:=(ak.mp hjs).1;simp at this;lia
       subst ze;rw[je (s_ z),q2] at hjs;simp at hjs;subst hjs;rw[hjg] at hg';cases hg';have u1:(hd.map List.length).getD hs[j'].a 0=la.length:=by simp[dh,x1]
       have u2:(hd.map List.length).getD hs[j'].b 0=lb.length:=by simp[dh,y1]
       rw[u1,u2];exact⟨k1,k2⟩
   . rw[m5 (by have:=v5 e;exact i_ this)];exact q4 a o e)
 have c1:K7.den ⟨prog.call (m-1),prog.cls⟩ [some (.ref t),some (uh K r hs),some (.int 4),some (.vl (vd M.length K)),b4,d5,b6,b7,b8,some (.ref M2.length),f10,f11,f12,some (.ref (M3.length+K)),d14,d15,some (.vl (hd.map V4)),some (.ref M6.length),f18] M8=.ok (.vl ((hd.map List.length).map nD)) M8:=by
  unfold K7;rw[Ao (d:=.vl (hd.map V4)) (ds:=hd.map V4) (M1:=M8) (g:=λd=>match d with|.vl l=>.int l.length|_=>.non) (by simp) rfl (by simp;exact a_ (f_ hd1) (a_ h3 (by decide))) (λz hz=>by
   obtain⟨l,hl',rfl⟩:=bu.mp hz;refine⟨_,rfl,?_⟩;simp[V4,o6,Vf])]
  simp[V4,nD]
 refine⟨hd.map List.length,td,M8,?_,⟨by simp[hd1],t2,λx hx=>?_,t3⟩,?_⟩
 . simp only[Af,Aw] at e2
   have s3':Q6.den ⟨prog.call (m-1),prog.cls⟩ _ _=_:=e2;have s2':Q4.den ⟨prog.call (m-1),prog.cls⟩ _ _=_:=e3;have s1':Q3.den ⟨prog.call (m-1),prog.cls⟩ _ _=_:=e6;have s0':Qz.den ⟨prog.call (m-1),prog.cls⟩ _ _=_:=e8;have r0':Pg.den ⟨prog.call (m-1),prog.cls⟩ _ _=_:=r0;simp[-Ad,Fn.run,U0,Uz,r0',s3',MW.new,s2',e4,s1',e7,s0',c1,Yu,o6,Jo (j6 t1),ug]
 . obtain⟨l,hl',rfl⟩:=bu.mp hx
   obtain⟨i,hi,rfl⟩:=uc hl';obtain⟨l2,y1,y2,_⟩:=hdl i (b_ hi (f_ hd1));rw[cz hi] at y1;cases y1;exact y2
 . have:Gs t f M.length M M8:=g6.trans ⟨by obtain⟨n,h,o⟩:=g6.has;exact⟨n,g8 _ _ h,o⟩,λa o _ _ e=>g8 a o e,by lia⟩
   exact this.st
end
end K04
namespace MW
section
variable{W:Dy}{ρ:Env}{M:Store}
theorem Y5(hit:it.den W ρ M=.ok (.tup ds) M1)(hl:ds.length<=100000)(h:∀x∈ds,∃ρ1,t.put x (ρ++List.replicate k none)=some ρ1/\c.den W ρ1 M1=.ok (.bl (q x)) M1/\(q x=true->e.den W ρ1 M1=.ok (g x) M1)) :
 (Ex.Gm v k t (.val it) c e).den W ρ M=if v then .ok (.vl ((ds.filter q).map g)) M1 else new (.lst ((ds.filter q).map g)) M1:=by
 rw[Wq,Oa,hit];simp only[Res.zy,srcOf,Res.Dl];rw[Yt (ds:=ds) (g:=λx=>if q x then some (g x) else none) hl (λx hx=>by
  obtain⟨ρ1,a,b,c⟩:=h x hx;rw[a,Res.Dl,Res.zy,b,Res.zy];cases e:q x with
  | true=>simp[c e]|false=>simp)]
 have:ds.filterMap (λx=>if q x then some (g x) else none)=(ds.filter q).map g:=by
  clear h hl hit
  induction ds with
  |nil=>rfl|cons a l ih=>by_cases e:q a=true<;>simp[e,ih]
 rw[this];rfl
end
end MW
namespace K04
open MW
theorem aaz{α β:Type}(f:α->β):∀(l:List α)(i:Nat),(l.map f).eraseIdx i=(l.eraseIdx i).map f
 |[],_=>by simp|a::l,0=>rfl|a::l,i+1=>by simp[List.eraseIdx,aaz f l i]
theorem Kv:∀(l:List Nat)(i:Nat)(h:i<l.length),(l[i]::l.eraseIdx i).Perm l
 |a::l,0,_=>by simp
 |a::l,i+1,h=>by
  have:=Kv l i (by simpa using h);simp only[Fy,Et];exact(List.Perm.swap _ _ _).trans (this.cons a)
theorem a0h{l:List Nat}(h:M[n]?=some (.lst (l.map nD)))(hi:i<l.length):Hx .pop (.ref n) [.int i] M=.ok (.int (l.getD i 0)) (M.set n (.lst ((l.eraseIdx i).map nD))):=by
 have e:Rr (l.map nD).length (i:Int)=some i:=by simp[Rr,hi]
 simp[Hx,h,Rr,hi,aaz];rfl
theorem a0i(h:M[n]?=some (.lst ds)):Mw .pop (.ref n) M=true:=by simp[Mw,h]
section
variable{m t:Nat}{f:Bool}{M:Store}
theorem aqc(hm:1<=m)(hh:V2 t f M){n:Nat}(hn:n<=7)(hl:M[lf]?=some (.lst ((List.range n).map nD)))(htl:t<lf) :
 ∃(o:List Nat)(M':Store),J9.den ⟨prog.call m,prog.cls⟩ [some (.ref t),a1,a2,some (.int n),some (.ref lf)] M=.ok (.vl (o.map nD)) M'/\o.Perm (List.range n)/\Gs t f lf M M'/\M'.length=M.length:=by
 unfold J9;obtain⟨ys,M',e,o,lt,r1,r2,r3,r4,r5,r6⟩:=U8 (W:=⟨prog.call m,prog.cls⟩) (v:=true) (k:=1) (t:=.name 5) (it:=.var 3) (e:=.bm .pop (.var 4) (.cons (.call 14 (.cons (.var 0) (.cons (.blt .len (.cons (.var 4) .nil)) .nil))) .nil)) (ρ:=[some (.ref t),a1,a2,some (.int n),some (.ref lf)]) (M:=M) (M1:=M) (n:=n) (by simp) (a_ hn (by decide))
  (λi xs M'=>∃(o lt:List Nat),xs=o.map nD/\o.length=i/\M'[lf]?=some (.lst (lt.map nD))/\(o++lt).Perm (List.range n)/\Gs t f lf M M'/\M'.length=M.length) ⟨[],List.range n,rfl,rfl,hl,by simp,Gs.refl hh,rfl⟩
  (λi xs M1 hi hI=>by
   obtain⟨o,lt,rfl,q1,q2,q3,q4,q5⟩:=hI;have hlen:o.length+lt.length=n:=by have:=q3.length_eq;simpa using this
   have ln:=len_list (j6 q2);simp only[fc] at ln;obtain⟨v,M2,e1,l1,s1,n1⟩:=Dn (many:=lt.length) hm q4.has (by lia) (by lia);have hv:v<lt.length:=o_ l1
   have g2:=s1.keep _ _ (i_ htl) q2;have po:=a0h g2 hv;refine⟨_,.int (lt.getD v 0),M2.set lf (.lst ((lt.eraseIdx v).map nD)),rfl,?_,o++[lt.getD v 0],lt.eraseIdx v,by simp[nD],by simp[q1],qb g2,?_,q4.trans ((Gs.aaw s1).trans (Gs.ag4 s1.has (Zn.set (bc _)) htl (by simp))),by simp;exact n1.trans q5⟩
   . show(Ex.bm .pop (.var 4) (.cons (.call 14 (.cons (.var 0) (.cons (.blt .len (.cons (.var 4) .nil)) .nil))) .nil)).den _ [some (.ref t),a1,a2,some (.int n),some (.ref lf),some (.int i)] M1=_
     simp[-dh,a0i q2,ln,e1,po]
   . have e2:lt.getD v 0=lt[v]:=by simp[dh,hv]
     rw[e2,w6];refine List.Perm.trans (Gr o ?_) q3;exact Kv lt v hv)
 refine⟨o,M',by rw[e,r1];rfl,?_,r5,r6⟩;have hlen:o.length+lt.length=n:=by have:=r4.length_eq;simpa using this
 have:lt=[]:=List.eq_nil_of_length_eq_zero (by lia);rw[this,wk] at r4;exact r4
noncomputable def Ln(os:List (List Nat)):D:=.tup (os.map λo=>.tup (o.map nD))
theorem aky(hm:2<=m)(hh:V2 t f M)(hs7:∀x∈sizes,x<=7)(hsl:sizes.length<=3) :
 ∃(os:List (List Nat))(M':Store),prog.call m 29 [.ref t,ug sizes acts] M=.ok (Ln os) M'/\os.length=sizes.length/\(∀(i:Nat)(o:List Nat),os[i]?=some o->o.Perm (List.range (sizes.getD i 0)))/\St t f M M':=by
 rw[call_of (a_ (by decide) hm) rfl];have ht:t<M.length:=by obtain⟨n,h,_⟩:=hh;exact v5 h
 obtain⟨ρ',M',e,⟨b3,b4,rfl⟩,os,r1,r2,r3,r4⟩:=Wr (W:=⟨prog.call (m-1),prog.cls⟩) (t:=.name 3) (b:=G4) (it:=.ix (.var 1) (.cst (.int 0))) (ds:=sizes.map nD) (ρ:=[some (.ref t),some (ug sizes acts),some (.ref M.length),none,none]) (M:=M++[.lst []]) (M1:=M++[.lst []]) (by simp[ug])
  (λi ρ M'=>(∃b3 b4:Option D,ρ=[some (.ref t),some (ug sizes acts),some (.ref M.length),b3,b4])/\∃os:List (List Nat),M'[M.length]?=some (.lst (os.map λo=>.tup (o.map nD)))/\os.length=i/\(∀(i:Nat)(o:List Nat),os[i]?=some o->o.Perm (List.range (sizes.getD i 0)))/\Gs t f M.length M M')
  ⟨⟨none,none,rfl⟩,[],by simp,rfl,by simp,Gs.app hh (bc _) _⟩
  (λi x ρ M1 hx hI=>by
   obtain⟨⟨b3,b4,rfl⟩,os,q1,q2,q3,q4⟩:=hI;obtain⟨n,hn,rfl⟩:∃n,sizes[i]?=some n/\nD n=x:=by simpa using hx
   have hn7:=hs7 n (az hn);have hl1:=v5 q1;have h2:V2 t f (M1++[.lst ((List.range n).map nD)]):=by obtain⟨k,h,o⟩:=q4.has;exact⟨k,vq h,o⟩
   obtain⟨o,M2,e2,p2,g2,n2⟩:=aqc (m:=m-1) (M:=M1++[.lst ((List.range n).map nD)]) (n:=n) (lf:=M1.length) (r_ hm) h2 hn7 (by simp) (d_ ht hl1) (a1:=some (ug sizes acts)) (a2:=some (.ref M.length));have f2:M2[M.length]?=some (.lst (os.map λo=>.tup (o.map nD))):=g2.low _ _ hl1 (i_ ht) (vq q1);have hil:i<sizes.length:=(ak.mp hn).1
   have ap:=Hl (d:=.tup (o.map nD)) f2 (by simp;exact c_ (f_ q2) (b_ hil (a_ hsl (by decide))));have n9:n<=100000:=a_ hn7 (by decide)
   refine⟨_,.next,_,M2.set M.length (.lst ((os.map λo=>.tup (o.map nD))++[.tup (o.map nD)])),rfl,?_,.inl rfl,⟨some (nD n),some (.ref M1.length),rfl⟩,os++[o],by rw[qb f2];simp,by simp[q2],λi' o' ho=>?_,q4.trans ⟨?_,λa u ha na e=>?_,?_⟩⟩
   . have e2':=e2
     have rg:(List.range n).map (λ(k:Nat)=>D.int (k:Int))=(List.range n).map nD:=rfl;have q1':=vq (X:=[.lst ((List.range n).map nD)]) q1;show G4.den ⟨prog.call (m-1),prog.cls⟩ [some (.ref t),some (ug sizes acts),some (.ref M.length),some (.int n),b4] M1=_;have run:(Ex.abg (.var 3)).den ⟨prog.call (m-1),prog.cls⟩ [some (.ref t),some (ug sizes acts),some (.ref M.length),some (.int n),b4] M1=.ok (.ref M1.length) (M1++[.lst ((List.range n).map nD)]):=by simp[n9,MW.new];intro a _;rfl
     simp[-adt,G4,run,Ik q1',e2,Yu,ap];rfl
   . by_cases z:i'<os.length
     . rw[dq z] at ho;exact q3 i' o' ho
     . have ze:i'=i:=by have:=(ak.mp ho).1;simp at this;lia
       subst ze;rw[je (s_ z),q2] at ho;simp at ho;subst ho;simpa[dh,hn] using p2
   . obtain⟨k,h,o⟩:=g2.has
     exact⟨k,by rw[m5 (i_ ht)];exact h,o⟩
   . rw[m5 (i_ ha)]
     exact g2.low a u (d_ ha hl1) na (vq e)
   . simp at n2 ⊢;lia)
 have hl:(sizes.map nD).length=sizes.length:=by simp
 rw[hl] at r2;refine⟨os,M',?_,r2,r3,r4.st⟩;have e':Ph.den ⟨prog.call (m-1),prog.cls⟩ _ _=_:=e;simp[Fn.run,Ss,Sq,MW.new,e',o6,Jo (j6 r1),Ln]
end
end K04
namespace K04
open MW
noncomputable def xm(l:List Nat):D:=.tup (l.map nD)
theorem Y6(s:List Nat)(a:List (List Nat))(M:Store):Bc (ug s a) (.int 0) M=some (xm s):=rfl
theorem aa0(s:List Nat)(a:List (List Nat))(M:Store):Bc (ug s a) (.int 1) M=some (.tup (a.map xm)):=rfl
theorem Y7{l:List Nat}(h:i<l.length):Bc (xm l) (.int i) M=some (.int (l.getD i 0)):=N7 q_ (by simp[h,nD])
theorem Y8{a:List (List Nat)}{j:Nat}(h:a[j]?=some js):Bc (.tup (a.map xm)) (.int j) M=some (xm js):=N7 q_ (by simp[h])
theorem avo:∀{ds:List D},(∀d∈ds,∃i:Int,d=.int i)->.int v∈ds->ds[ixI v ds]?=some (.int v):=fun{ds} hi h=>by
 unfold ixI;cases q:ds.findIdx? (λd=>match d with|.int i=>decide (i=v)|_=>false) with
 |some j =>
  obtain⟨h1,h2,_⟩:=m8.mp q;obtain⟨i,ei⟩:=hi ds[j] (q9 h1);rw[ei] at h2;have:i=v:=by simpa using h2
  simp[h1,ei,this]
 |none =>
  rw[um] at q;have:=q _ h;simp at this
theorem afk(l:List Nat):∀d∈l.map nD,∃i:Int,d=.int i:=λd hd=>by obtain⟨x,_,rfl⟩:=bu.mp hd;exact⟨_,rfl⟩
theorem ag7{l:List Nat}(h:x∈l):.int (x:Int)∈l.map nD:=bu.mpr ⟨x,h,rfl⟩
noncomputable def ixo(l:List Nat)(x:Nat):Nat:=ixI (x:Int) (l.map nD)
theorem ag8(h:x∈l):ixo l x<l.length:=by have:=ap8 (ag7 h);simpa[ixo] using this
theorem avp{l:List Nat}(h:x∈l):l.getD (ixo l x) 0=x:=by have h1:=avo (afk l) (ag7 h);have h2:=ag8 h;unfold ixo at h2 ⊢;rw[jk,cz h2] at h1;simp[nD] at h1;rw[dh,cz h2];simp only[ym];exact D_ h1
noncomputable def Ny(act here there:List Nat):List Nat:=(List.range act.length).map λp=>there.getD (act.getD (ixo here p) 0) 0
theorem aqd{l:List Nat}:(l.set i v).getD j 0=if i=j/\j<l.length then v else l.getD j 0:=by
 simp only[dh,List.getElem?_set]
 by_cases h:i=j
 . subst h
   by_cases z:i<l.length<;>simp[z]
 . simp[h]
section
variable{m:Nat}{M:Store}
theorem ak0(hm:1<=m)(hp:here.Perm (List.range act.length))(hb:∀x∈act,x<there.length)(hl:act.length<=7) :
 ∃M',prog.call m 25 [xm act,xm here,xm there] M=.ok (xm (Ny act here there)) M'/\Bd M M'/\M.length<=M'.length:=by
 rw[call_of hm rfl];have hhl:here.length=act.length:=by have:=hp.length_eq;simpa using this
 have nd:here.Nodup:=hp.nodup_iff.mpr List.nodup_range;obtain⟨ρ',M',e,⟨b4,b5,rfl⟩,fr,r1,r2,r3,r4,r5⟩:=Ra (W:=⟨prog.call (m-1),prog.cls⟩) (t:=.names [4,5]) (b:=Dm) (it:=.var 0) (ds:=act.map nD) (ρ:=[some (xm act),some (xm here),some (xm there),some (.ref M.length),none,none]) (M:=M++[.lst (act.map nD)]) (M1:=M++[.lst (act.map nD)]) (by simp[xm])
  (λi ρ M'=>(∃b4 b5:Option D,ρ=[some (xm act),some (xm here),some (xm there),some (.ref M.length),b4,b5])/\∃fr:List Nat,M'[M.length]?=some (.lst (fr.map nD))/\fr.length=act.length/\(∀i',i'<i->fr.getD (here.getD i' 0) 0=there.getD (act.getD i' 0) 0)/\Bd M M'/\M.length<=M'.length)
  ⟨⟨none,none,rfl⟩,act,by simp,rfl,λi' h=>absurd h (wy _),Bd.app _ _,by simp⟩
  (λi x ρ M1 hx hI=>by
   obtain⟨⟨b4,b5,rfl⟩,fr,q1,q2,q3,q4,q5⟩:=hI;obtain⟨y,hy,rfl⟩:∃y,act[i]?=some y/\nD y=x:=by simpa using hx
   have hil:=(ak.mp hy).1;have hyl:=hb y (az hy);have hh:here.getD i 0∈here:=getD_mem' (b_ hil (g_ hhl));have hhn:here.getD i 0<act.length:=by have:=hp.mem_iff.mp hh;simpa using this
   have i1:=Y7 (M:=M1) (l:=here) (i:=i) (b_ hil (g_ hhl));have i2:=Y7 (M:=M1) (l:=there) (i:=y) hyl;have ay:act.getD i 0=y:=by simp[dh,hy]
   have hinj:∀i',i'<i->here.getD i' 0≠here.getD i 0:=λi' hi' z=>by simp only[dh,cz (show i'<here.length by exact d_ hi' (b_ hil (g_ hhl))),cz (show i<here.length by exact b_ hil (g_ hhl)),ym] at z;have:=(qz nd).mp z;exact l_ hi' (g_ this)
   generalize hk:here.getD i 0=k at i1 hhn hinj;generalize hv:there.getD y 0=v at i2;have st:=W3 (i:=(k:Int)) (d:=.int v) q1 q_ (by simp;exact b_ hhn (g_ q2));have em:(fr.map nD).set k (D.int (v:Int))=(fr.set k v).map nD:=by rw[List.map_set];rfl
   rw[qg,em] at st;refine⟨_,.next,_,M1.set M.length (.lst ((fr.set k v).map nD)),Li _ _ _ _ _,?_,.inl rfl,⟨some (.int i),some (nD y),rfl⟩,fr.set k v,qb q1,by simp[q2],λi' hi'=>?_,λa o e=>?_,by simp[q5]⟩
   . show Dm.den ⟨prog.call (m-1),prog.cls⟩ [some (xm act),some (xm here),some (xm there),some (.ref M.length),some (.int i),some (.int y)] M1=_
     simp[Dm,i1,i2,st];rfl
   . rw[aqd]
     by_cases z:i'=i
     . subst z
       rw[hk,cu ⟨rfl,b_ hhn (g_ q2)⟩,ay,hv]
     . have:=hinj i' (by lia)
       rw[bz (λw=>this w.1.symm)];exact q3 i' (by lia)
   . rw[m5 (by have:=v5 e;exact i_ this)];exact q4 a o e)
 have hfr:fr=Ny act here there:=by
  apply List.ext_getElem
  . simp[Ny,r2]
  . intro p h1 h2
    have hpl:p<act.length:=b_ h1 (f_ r2)
    have hm:p∈here:=hp.mem_iff.mpr (jw.mpr hpl);have hi:=ag8 hm;have:=r3 (ixo here p) (by simp;exact b_ hi (f_ hhl));rw[avp hm,dh,cz h1] at this;simp[Ny] at this ⊢;exact this
 rw[hfr] at r1;refine⟨M',?_,r4,r5⟩;have e':K6.den ⟨prog.call (m-1),prog.cls⟩ _ _=_:=e;have ls:o6 .list [xm act] M=.ok (.ref M.length) (M++[.lst (act.map nD)]):=rfl;have tp:o6 .tuple [.ref M.length] M'=.ok (xm (Ny act here there)) M':=by simp[o6,Jo (j6 r1),xm]
 simp[Fn.run,Nv,Nu,ls,e',tp]
end
noncomputable def Nz(hs:List F)(acts os:List (List Nat)):List (List Nat):=(hs.zip acts).map λp=>Ny p.2 (os.getD p.1.a []) (os.getD p.1.b [])
structure Od(sizes:List Nat)(os:List (List Nat)):Prop where
 len:os.length=sizes.length
 pm:∀(i:Nat)(o:List Nat),os[i]?=some o->o.Perm (List.range (sizes.getD i 0))
theorem Od.get(h:Od sizes os)(hi:i<sizes.length):∃o,os[i]?=some o/\os.getD i []=o/\o.Perm (List.range (sizes.getD i 0))/\o.length=sizes.getD i 0:=by
 have hl:i<os.length:=by rw[h.len];exact hi
 have e:os[i]?=some os[i]:=cz hl;have p:=h.pm i _ e;exact⟨_,e,by simp[dh,e],p,by have:=p.length_eq;simpa using this⟩
theorem aqe(os:List (List Nat)):Ln os=.tup (os.map xm):=rfl
theorem afl(h:acts.length=hs.length):(Nz hs acts os).length=hs.length:=by simp[Nz,h]
theorem afm{i:Nat}(h1:hs[i]?=some g)(h2:acts[i]?=some js):(Nz hs acts os)[i]?=some (Ny js (os.getD g.a []) (os.getD g.b [])):=by unfold Nz;have e:(hs.zip acts)[i]?=some (g,js):=Ab.mpr ⟨h1,h2⟩;rw[jk,e];rfl
theorem take_one{α:Type}{l:List α}{x:α}(h:l[i]?=some x):l.take (i+1)=l.take i++[x]:=by rw[Hh,h];rfl
theorem ak1{l:List Nat}(h:x∈l):Hx .N8 (xm l) [.int x] M=.ok (.int (ixo l x)) M:=by have:=afe (M:=M) (afk l) (ag7 h);unfold xm ixo;simpa[Hx] using this
section
variable{m:Nat}{M:Store}{sz:Nat->Nat}{K n r r':Nat}{hs:List F}{kvs:List (List Kx×D)}{sizes:List Nat}{acts os:List (List Nat)}
theorem Zo(hm:2<=m)(P:V3 sz K hs kvs)(h:Made n r' K hs kvs M)(w:WOk K hs sizes acts)(o:Od sizes os) :
 ∃M',prog.call m 24 [.ref n,ug sizes acts,Ln os] M=.ok (ug sizes (Nz hs acts os)) M'/\Bd M M'/\M.length<=M'.length:=by
 rw[call_of (a_ (by decide) hm) rfl];have h0:=h.keep (Bd.app M [.lst []]);have hl:=P.len;have hd:=(au8 (M:=M++[.lst []]) (W:=⟨prog.call (m-1),prog.cls⟩) (n:=n) (ρ:=[some (.ref n),some (ug sizes acts),some (Ln os),some (.ref M.length),none,none]) (o:=.var 0) (mm:=1) (es:=.nil) (ds:=[]) (fi:=2) (by simp) (by simp) h0.1 rfl).trans (akr (r_ hm) h0);obtain⟨ρ',M',e,⟨b4,b5,rfl⟩,r1,r2,r3⟩:=afb (W:=⟨prog.call (m-1),prog.cls⟩) (t:=.names [4,5]) (bd:=Ht) (a:=.ix (.var 1) (.cst (.int 1))) (b:=.meth (.var 0) 1 .nil) (x:=.tup (acts.map xm)) (y:=Lp hs) (ds:=acts.map xm) (es:=hs.map eD)
  (ρ:=[some (.ref n),some (ug sizes acts),some (Ln os),some (.ref M.length),none,none]) (M:=M++[.lst []]) (M1:=M++[.lst []]) (M2:=M++[.lst []]) (by simp[aa0]) hd rfl rfl
  (λi ρ M'=>(∃b4 b5:Option D,ρ=[some (.ref n),some (ug sizes acts),some (Ln os),some (.ref M.length),b4,b5])/\M'[M.length]?=some (.lst (((Nz hs acts os).take i).map xm))/\Bd M M'/\M.length<=M'.length) ⟨⟨none,none,rfl⟩,by simp,Bd.app _ _,by simp⟩
  (λi p ρ M1 hp hI=>by
   obtain⟨⟨b4,b5,rfl⟩,q1,q2,q3⟩:=hI;obtain⟨⟨a1,a2⟩,hz,rfl⟩:∃q:D×D,((acts.map xm).zip (hs.map eD))[i]?=some q/\D.tup [q.1,q.2]=p:=by simpa using hp
   obtain⟨z1,z2⟩:=Ab.mp hz;obtain⟨js,hj,e1⟩:∃js,acts[i]?=some js/\xm js=a1:=by simpa using z1
   obtain⟨g,hg,e2⟩:∃g,hs[i]?=some g/\eD g=a2:=by simpa using z2
   subst e1 e2;have hgm:=az hg;obtain⟨k1,k2⟩:=w.ok i g js hg hj;obtain⟨oa,o1,o2,o3,o4⟩:=o.get (i:=g.a) (by rw[w.ls];exact P.ae1 g hgm);obtain⟨ob,p1,p2,p3,p4⟩:=o.get (i:=g.b) (by rw[w.ls];exact P.ae2 g hgm);have h7:sizes.getD g.a 0<=7:=w.sm _ (getD_mem' (by rw[w.ls];exact P.ae1 g hgm))
   obtain⟨M2,e3,kp,le⟩:=ak0 (m:=m-1) (M:=M1) (r_ hm) (act:=js) (here:=oa) (there:=ob) (by rw[k1];exact o3) (λx hx=>by rw[p4];exact k2 x hx) (a_ (f_ k1) h7);have f2:=kp _ _ q1;have hil:=(ak.mp hg).1;have ap:=Hl (d:=xm (Ny js oa ob)) f2 (by simp;lia);refine⟨_,.next,_,M2.set M.length (.lst (((Nz hs acts os).take i).map xm++[xm (Ny js oa ob)])),Li _ _ _ _ _,?_,.inl rfl,⟨some (xm js),some (eD g),rfl⟩,?_,λa u q=>?_,by simp;exact a_ q3 le⟩
   . show Ht.den ⟨prog.call (m-1),prog.cls⟩ [some (.ref n),some (ug sizes acts),some (Ln os),some (.ref M.length),some (xm js),some (eD g)] M1=_
     simp[Ht,Ik q1,aau,aav,aqe,Y8 o1,Y8 p1,e3,ap]
   . rw[qb f2,take_one (afm (os:=os) hg hj),o2,p2];simp
   . rw[m5 (by have:=v5 q;exact i_ this)];exact kp _ _ (q2 a u q))
 have el:(((acts.map xm).zip (hs.map eD)).map λp=>D.tup [p.1,p.2]).length=(Nz hs acts os).length:=by simp[Nz,w.la]
 rw[el,Gi] at r1;refine⟨M',?_,r2,r3⟩;have e':Qy.den ⟨prog.call (m-1),prog.cls⟩ _ _=_:=e;have tp:o6 .tuple [.ref M.length] M'=.ok (.tup ((Nz hs acts os).map xm)) M':=by simp[o6,Jo (j6 r1)]
 simp[Fn.run,Uy,Ux,MW.new,e',Y6,tp];rfl
theorem ak2(hm:1<=m)(P:V3 sz K hs kvs)(w:WOk K hs sizes acts)(o:Od sizes os) :
 ∃M',prog.call m 30 [uh K r hs,ug sizes acts,Ln os] M=.ok (ug sizes (Nz hs acts os)) M'/\Bd M M'/\M.length<=M'.length:=by
 rw[call_of hm rfl];have hl:=P.len;obtain⟨ρ',M',e,⟨b4,b5,b6,b7,b8,b9,rfl⟩,r1,r2,r3⟩:=xj (W:=⟨prog.call (m-1),prog.cls⟩) (t:=.name 4) (b:=Kc) (it:=.blt .len (.cons (.ix (.var 0) (.cst (.int 1))) .nil)) (n:=hs.length)
  (ρ:=[some (uh K r hs),some (ug sizes acts),some (Ln os),some (.ref M.length),none,none,none,none,none,none]) (M:=M++[.lst []]) (M1:=M++[.lst []]) (by simp[Pn,Rb]) (a_ hl (by decide))
  (λi ρ M'=>(∃b4 b5 b6 b7 b8 b9:Option D,ρ=[some (uh K r hs),some (ug sizes acts),some (Ln os),some (.ref M.length),b4,b5,b6,b7,b8,b9])/\M'[M.length]?=some (.lst (((Nz hs acts os).take i).map xm))/\Bd M M'/\M.length<M'.length) ⟨⟨none,none,none,none,none,none,rfl⟩,by simp,Bd.app _ _,by simp⟩
  (λi ρ M1 hi hI=>by
   obtain⟨⟨b4,b5,b6,b7,b8,b9,rfl⟩,q1,q2,q3⟩:=hI;have hg:hs[i]?=some hs[i]:=by simp[hi]
   have hgm:=az hg;have hj:acts[i]?=some (acts[i]'(by rw[w.la];exact hi)):=cz _;generalize acts[i]'(by rw[w.la];exact hi)=js at hj;obtain⟨k1,k2⟩:=w.ok i _ js hg hj;have ha:=P.ae1 _ hgm;obtain⟨oa,o1,o2,o3,o4⟩:=o.get (i:=hs[i].a) (by rw[w.ls];exact ha);obtain⟨ob,p1,p2,p3,p4⟩:=o.get (i:=hs[i].b) (by rw[w.ls];exact P.ae2 _ hgm);have h7:sizes.getD hs[i].a 0<=7:=w.sm _ (getD_mem' (by rw[w.ls];exact ha))
   have isz:=Y7 (M:=M1++[.lst []]) (l:=sizes) (i:=hs[i].a) (by rw[w.ls];exact ha);obtain⟨ρ2,M2,e2,⟨c8,c9,rfl⟩,s1,s2,s3⟩:=xj (W:=⟨prog.call (m-1),prog.cls⟩) (t:=.name 8) (b:=Ka) (it:=.ix (.ix (.var 1) (.cst (.int 0))) (.var 5)) (n:=js.length)
    (ρ:=[some (uh K r hs),some (ug sizes acts),some (Ln os),some (.ref M.length),some (.int i),some (.int hs[i].a),some (.int hs[i].b),some (.ref M1.length),b8,b9]) (M:=M1++[.lst []]) (M1:=M1++[.lst []]) (by simp[-dh,Y6,isz,k1]) (a_ (f_ k1) (a_ h7 (by decide)))
    (λt ρ M'=>(∃b8 b9:Option D,ρ=[some (uh K r hs),some (ug sizes acts),some (Ln os),some (.ref M.length),some (.int i),some (.int hs[i].a),some (.int hs[i].b),some (.ref M1.length),b8,b9])/\M'[M1.length]?=some (.lst (((Ny js oa ob).take t).map nD))/\Bd M1 M'/\M'.length=M1.length+1) ⟨⟨b8,b9,rfl⟩,by simp,Bd.app _ _,by simp⟩
    (λth ρ M2 hth hI=>by
     obtain⟨⟨c8,c9,rfl⟩,t1,t2,t3⟩:=hI;have hmo:th∈oa:=o3.mem_iff.mpr (jw.mpr (b_ hth (f_ k1)));have hio:=ag8 hmo;have i1:=ak1 (M:=M2) hmo;have i2:=Y7 (M:=M2) (l:=js) (i:=ixo oa th) (b_ hio (a_ (f_ o4) (g_ k1)));have hy:js.getD (ixo oa th) 0<ob.length:=by rw[p4];exact k2 _ (getD_mem' (b_ hio (a_ (f_ o4) (g_ k1))))
     have i3:=Y7 (M:=M2) (l:=ob) (i:=js.getD (ixo oa th) 0) hy;have er:(Ny js oa ob)[th]?=some (ob.getD (js.getD (ixo oa th) 0) 0):=by simp[Ny,hth]
     generalize ixo oa th=x at i1 i2 i3 er;generalize js.getD x 0=y at i2 i3 er;generalize ob.getD y 0=z at i3 er;have ap:=Hl (d:=.int z) t1 (by simp[Ny];lia);refine⟨_,.next,_,M2.set M1.length (.lst (((Ny js oa ob).take th).map nD++[.int z])),rfl,?_,.inl rfl,⟨some (.int th),some (.int x),rfl⟩,?_,λa u q=>?_,by simp[t3]⟩
     . have bt:Mw .N8 (xm oa) M2=true:=rfl
       simp[Ka,aqe,Y8 o1,bt,i1,Ik t1,Y8 p1,aa0,Y8 hj,i2,i3,ap]
     . rw[qb t1,take_one er];simp[nD]
     . rw[m5 (by have:=v5 q;exact i_ this)];exact t2 a u q)
   have er:(Ny js oa ob).take js.length=Ny js oa ob:=by rw[vz];simp[Ny]
   rw[er] at s1;have f2:=s2 _ _ q1;have ap:=Hl (d:=xm (Ny js oa ob)) f2 (by simp;lia);have tp:o6 .tuple [.ref M1.length] M2=.ok (xm (Ny js oa ob)) M2:=by simp[o6,Jo (j6 s1),xm]
   have pe:∀ρ,(Tg.names [5,6]).put (eD hs[i]) ρ=some ((ρ.set 5 (some (.int hs[i].a))).set 6 (some (.int hs[i].b))):=λ_=>rfl
   have e2':Pj.den ⟨prog.call (m-1),prog.cls⟩ _ _=_:=e2;refine⟨_,.next,_,M2.set M.length (.lst (((Nz hs acts os).take i).map xm++[xm (Ny js oa ob)])),rfl,?_,.inl rfl,⟨some (.int i),some (.int hs[i].a),some (.int hs[i].b),some (.ref M1.length),c8,c9,rfl⟩,?_,λa u q=>?_,by simp;lia⟩
   . simp[Kc,Pn,U7 hg,pe,MW.new,e2',Ik f2,tp,ap]
   . rw[qb f2,take_one (afm (os:=os) hg hj),o2,p2];simp
   . rw[m5 (by have:=v5 q;exact i_ this)];exact s2 _ _ (q2 a u q))
 have el:hs.length=(Nz hs acts os).length:=by rw[afl w.la]
 rw[el,Gi] at r1;refine⟨M',?_,r2,e_ r3⟩;have e':Pk.den ⟨prog.call (m-1),prog.cls⟩ _ _=_:=e;have tp:o6 .tuple [.ref M.length] M'=.ok (.tup ((Nz hs acts os).map xm)) M':=by simp[o6,Jo (j6 r1)]
 simp[Fn.run,Sv,Su,MW.new,e',Y6,tp];rfl
end
theorem aqf(l:List Nat)(M:Store):o6 .sum [xm l] M=.ok (.int (l.map λ(x:Nat)=>(x:Int)).sum) M:=by show Res.ofOpt (((yq M (xm l)).bind Ww).map λis=>D.int is.sum) M=_;have:yq M (xm l)=some (l.map nD):=rfl;rw[this,pq,acz];rfl
section
variable{m:Nat}{M:Store}{sz:Nat->Nat}{K n r:Nat}{hs:List F}{kvs:List (List Kx×D)}{sizes:List Nat}{acts:List (List Nat)}
theorem ak3(hm:1<=m):prog.call m 23 [ug sizes acts] M=.ok (.int (sizes.map λ(x:Nat)=>(x:Int)).sum) M:=by rw[call_of hm rfl];simp[Fn.run,aex,aew,Y6,aqf]
theorem aqg(hm:1<=m)(i:Int):prog.call m 31 [.int i] M=.ok (.bl true) M:=by rw[call_of hm rfl];simp[Fn.run,U4,U3,o6,isB]
theorem a0j(hm:1<=m)(w:WOk K hs sizes acts)(hd:d∈wj hs k)(hth:th<sizes.getD k 0) :
 ∃x:Nat,prog.call m 22 [ug sizes acts,.int th,d] M=.ok (.int x) M/\prog.call m 28 [ug sizes acts,.int th,d] M=.ok (.int x) M:=by
 rw[call_of hm rfl,call_of hm rfl];rcases Rc hd with rfl|⟨i,g,rfl,hg,rfl⟩
 . exact⟨th,by simp[Fn.run,apb,apa],by simp[Fn.run,Tu,Tt]⟩
 . have hil:=(ak.mp hg).1
   have hj:acts[i]?=some (acts[i]'(by rw[w.la];exact hil)):=cz _;generalize acts[i]'(by rw[w.la];exact hil)=js at hj;obtain⟨k1,k2⟩:=w.ok i g js hg hj;have i1:=Y7 (M:=M) (l:=js) (i:=th) (b_ hth (g_ k1));have ni:¬((i:Int)=-1):=by lia
   have nn:¬((i:Int)<0):=by lia
   generalize js.getD th 0=x at i1;exact⟨x,by simp[Fn.run,apb,apa,ni,aa0,Y8 hj,i1],by simp[Fn.run,Tu,Tt,nn,aa0,Y8 hj,i1]⟩
theorem avq(hm:2<=m)(P:V3 sz K hs kvs)(w:WOk K hs sizes acts):prog.call m 32 [.ref n,uh K r hs,ug sizes acts] M=.ok (.bl true) M:=by
 rw[call_of (a_ (by decide) hm) rfl];have hl:=P.len;have h3:=P.k3;generalize hS:(sizes.map λ(x:Nat)=>(x:Int)).sum=S;have tg:=ak3 (m:=m-1) (M:=M) (sizes:=sizes) (acts:=acts) (r_ hm);have sm:=aqf sizes M;rw[hS] at tg sm;obtain⟨ρ',M',e,⟨b4,b5,b6,rfl⟩,rfl⟩:=xj (W:=⟨prog.call (m-1),prog.cls⟩) (t:=.name 4) (b:=Ms) (it:=.ix (.var 1) (.cst (.int 0))) (n:=K) (ρ:=[some (.ref n),some (uh K r hs),some (ug sizes acts),some (.int S),none,none,none]) (M:=M) (M1:=M) (by simp[Yy]) (a_ h3 (by decide))
  (λ_ ρ M'=>(∃b4 b5 b6:Option D,ρ=[some (.ref n),some (uh K r hs),some (ug sizes acts),some (.int S),b4,b5,b6])/\M'=M) ⟨⟨none,none,none,rfl⟩,rfl⟩
  (λk ρ M1 hk hI=>by
   obtain⟨⟨b4,b5,b6,rfl⟩,rfl⟩:=hI;have hkl:k<sizes.length:=by rw[w.ls];exact hk
   have isz:=Y7 (M:=M1) (l:=sizes) (i:=k) hkl;have h7:sizes.getD k 0<=7:=w.sm _ (getD_mem' hkl)
   obtain⟨ρ2,M2,e2,⟨c5,c6,rfl⟩,rfl⟩:=Km (W:=⟨prog.call (m-1),prog.cls⟩) (t:=.name 5) (b:=Mr) (it:=.call 18 (.cons (.var 1) (.cons (.var 4) .nil))) (d:=.vl (wj hs k)) (ds:=wj hs k) (ρ:=[some (.ref n),some (uh K r hs),some (ug sizes acts),some (.int S),some (.int k),b5,b6]) (M:=M1) (M1:=M1) (by simp[afa (show 1<=m-1 by exact r_ hm) hl]) rfl
    (λ_ ρ M'=>(∃b5 b6:Option D,ρ=[some (.ref n),some (uh K r hs),some (ug sizes acts),some (.int S),some (.int k),b5,b6])/\M'=M1) ⟨⟨b5,b6,rfl⟩,rfl⟩ (λ_ _ _ _=>rfl)
    (λi x ρ M2 hx hI=>by
     obtain⟨⟨b5,b6,rfl⟩,rfl⟩:=hI;have hxm:=az hx;obtain⟨ρ3,M3,e3,⟨c6,rfl⟩,rfl⟩:=xj (W:=⟨prog.call (m-1),prog.cls⟩) (t:=.name 6) (b:=Mq) (it:=.ix (.ix (.var 2) (.cst (.int 0))) (.var 4)) (n:=sizes.getD k 0) (ρ:=[some (.ref n),some (uh K r hs),some (ug sizes acts),some (.int S),some (.int k),some x,b6]) (M:=M2) (M1:=M2) (by simp[-dh,Y6,isz]) (a_ h7 (by decide))
      (λ_ ρ M'=>(∃b6:Option D,ρ=[some (.ref n),some (uh K r hs),some (ug sizes acts),some (.int S),some (.int k),some x,b6])/\M'=M2) ⟨⟨b6,rfl⟩,rfl⟩
      (λth ρ M3 hth hI=>by
       obtain⟨⟨b6,rfl⟩,rfl⟩:=hI;obtain⟨y,l1,l2⟩:=a0j (m:=m-1) (M:=M3) (r_ hm) w hxm hth;refine⟨_,.next,_,M3,rfl,?_,.inl rfl,⟨some (.int th),rfl⟩,rfl⟩;simp[Mq,l1,l2])
     refine⟨_,.next,_,M3,rfl,?_,.inl rfl,⟨some x,c6,rfl⟩,rfl⟩;have e3':Sw.den ⟨prog.call (m-1),prog.cls⟩ _ _=_:=e3;simp[Mr,e3'])
   refine⟨_,.next,_,M2,rfl,?_,.inl rfl,⟨some (.int k),c5,c6,rfl⟩,rfl⟩;have e2':Sx.den ⟨prog.call (m-1),prog.cls⟩ _ _=_:=e2;simp[Ms,e2'])
 have e':Sy.den ⟨prog.call (m-1),prog.cls⟩ _ _=_:=e;simp[Fn.run,Wm,Wl,tg,aqg (show 1<=m-1 by exact r_ hm),Y6,sm,e']
theorem afn(h:∀d∈l,Hd M k d d=some true):Ov (Hd M k) l l=some true:=by
 induction l with
 |nil=>rfl
 |cons a l ih =>
  rw[Dt (h a (by simp)) (ih λd hd=>h d (bh _ hd))];rfl
theorem ai4(M:Store)(k:Nat)(l:List Nat):Hd M (k+2) (xm l) (xm l)=some true:=by
 show Ov (Hd M (k+1)) (l.map nD) (l.map nD)=some true;refine afn λd hd=>?_
 obtain⟨x,_,rfl⟩:=bu.mp hd;rw[show nD x=D.int (x:Int) from rfl,Mi];simp
theorem aqh(M:Store)(s:List Nat)(a:List (List Nat)):xx M (ug s a) (ug s a)=some true:=by
 show Ov (Hd M 5) [xm s,.tup (a.map xm)] [xm s,.tup (a.map xm)]=some true;have h2:Hd M 5 (.tup (a.map xm)) (.tup (a.map xm))=some true:=by
  show Ov (Hd M 4) (a.map xm) (a.map xm)=some true;refine afn λd hd=>?_
  obtain⟨x,_,rfl⟩:=bu.mp hd;exact ai4 M 2 x
 rw[Dt (ai4 M 3 s) (Dt h2 (show Ov (Hd M 5) [] []=some true from rfl))];rfl
end
theorem a0k{ns:List Int}(hm:5<=m):∃M',prog.call m 33 [.fz (ns.map D.int)] M=.ok (.bl true) M':=by
 rw[call_of (a_ (by decide) hm) rfl];obtain⟨n0,f0,s0,o0⟩:=aph (m:=m-1) (k:=0) (ns:=ns) (M:=M) (r_ (a_ (by decide) hm));have hh0:V2 M.length f0 (M++[.lst [.int n0,.bl f0]]):=⟨n0,by simp,o0⟩;obtain⟨K,r,sz,hs,kvs,M1,e0,p0,lr,P,t0⟩:=ag2 (m:=m-1) (r_ (a_ (by decide) hm)) hh0;have e0':prog.call (m-1) 17 [.ref M.length] (M++[.lst [.int n0,.bl f0]])=.ok (uh K r hs) M1:=e0;have hrt:r≠M.length:=by have:=lr;simp at this;lia
 have nn:(M1++[.ins 2 []])[M1.length]?=some (.ins 2 []):=by simp
 obtain⟨M2,a0,i0,md,la,lb,k0⟩:=au6 (M:=M1++[.ins 2 []]) (m:=m-1) (r:=r) (n:=M1.length) (r_ (a_ (by decide) hm)) P (vq p0) nn;have k0':Bd M1 M2:=λa o h=>k0 a o (by have:=v5 h;exact h_ this) (vq h)
 have mk:(Ex.make 2 (.cons (.ix (.var 2) (.cst (.int 0))) (.cons (.ix (.var 2) (.cst (.int 1))) (.cons (.ix (.var 2) (.cst (.int 2))) .nil)))).den ⟨prog.call (m-1),prog.cls⟩ [some (.fz (ns.map D.int)),some (.ref M.length),some (uh K r hs),none,none,none,none,none] M1=.ok (.ref M1.length) M2:=by have cl:(prog.cls)[2]?=some ⟨0,[(0,1),(1,2),(2,3),(3,4),(4,5)]⟩:=rfl;simp[Yy,Pn,awi,cl,i0]
 have hh2:V2 M.length f0 M2:=by obtain⟨k,h,o⟩:=t0.has;exact⟨k,k0' _ _ h,o⟩
 have hM1:M.length<M1.length:=by obtain⟨k,h,o⟩:=t0.has;exact v5 h
 obtain⟨ρ',M',e,_⟩:=xj (W:=⟨prog.call (m-1),prog.cls⟩) (t:=.name 4) (b:=ace) (it:=.cst (.int 2)) (n:=2) (ρ:=[some (.fz (ns.map D.int)),some (.ref M.length),some (uh K r hs),some (.ref M1.length),none,none,none,none]) (M:=M2) (M1:=M2) (by simp) (by decide)
  (λ_ ρ M'=>(∃b4 b5 b6 b7:Option D,ρ=[some (.fz (ns.map D.int)),some (.ref M.length),some (uh K r hs),some (.ref M1.length),b4,b5,b6,b7])/\V2 M.length f0 M'/\M'[r]?=some (.dT kvs)/\Made M1.length a0 K hs kvs M') ⟨⟨none,none,none,none,rfl⟩,hh2,k0' _ _ p0,md⟩
  (λi ρ M3 hi hI=>by
   obtain⟨⟨b4,b5,b6,b7,rfl⟩,q1,q2,q3⟩:=hI;obtain⟨sizes,acts,M4,e4,w4,s4⟩:=aqb (m:=m-1) (r:=r) (r_ (a_ (by decide) hm)) P q1 q2 hrt;obtain⟨os,M5,e5,l5,p5,s5⟩:=aky (m:=m-1) (sizes:=sizes) (acts:=acts) (r_ (a_ (by decide) hm)) s4.has w4.sm (by rw[w4.ls];exact P.k3);have od:Od sizes os:=⟨l5,p5⟩;have s35:=s4.trans s5;have md5:Made M1.length a0 K hs kvs M5:=⟨s35.keep _ _ (i_ hM1) q3.1,s35.keep _ _ (by have:=lb;have:=la;simp at this;lia) q3.2⟩;obtain⟨M6,e6,k6,l6⟩:=Zo (m:=m-1) (M:=M5) (r_ (a_ (by decide) hm)) P md5 w4 od;obtain⟨M7,e7,k7,l7⟩:=ak2 (m:=m-1) (M:=M6) (r:=r) (r_ (a_ (by decide) hm)) P w4 od;have tl:=avq (m:=m-1) (n:=M1.length) (r:=r) (M:=M5) (r_ (a_ (by decide) hm)) P w4;have eq:=aqh M7 sizes (Nz hs acts os);have cf:acd.den ⟨prog.call (m-1),prog.cls⟩ [some (.fz (ns.map D.int)),some (.ref M.length),some (uh K r hs),some (.ref M1.length),some (.int i),some (ug sizes acts),some (Ln os),some (ug sizes (Nz hs acts os))] M7=.ok (.vl []) M7:=by
    unfold acd;rw[Y5 (ds:=(Nz hs acts os).map xm) (q:=λ_=>false) (g:=id) (M1:=M7) (by simp[aa0]) (by simp[afl w4.la];have:=P.len;exact a_ this (by decide)) (λx hx=>by
     obtain⟨l,_,rfl⟩:=bu.mp hx;refine⟨_,rfl,?_,λz=>by cases z⟩;have it:o6 .isTuple [xm l] M7=.ok (.bl true) M7:=rfl;simp[it])]
    simp
   have k57:=k6.trans k7;refine⟨_,.next,_,M7,rfl,?_,.inl rfl,⟨some (.int i),some (ug sizes acts),some (Ln os),some (ug sizes (Nz hs acts os)),rfl⟩,?_,k57 _ _ (s35.keep _ _ hrt q2),md5.keep k57⟩
   . have i1:o6 .isTuple [xm sizes] M7=.ok (.bl true) M7:=rfl
     have i2:o6 .isTuple [.tup ((Nz hs acts os).map xm)] M7=.ok (.bl true) M7:=rfl;have ee:xx M7 (.vl []) (.vl [])=some true:=rfl;simp[ace,e4,e5,tl,e6,e7,eq,Y6,i1,aa0,i2,cf,ee]
   . obtain⟨k,h,o⟩:=s5.has;exact⟨k,k57 _ _ h,o⟩)
 have e':aio.den ⟨prog.call (m-1),prog.cls⟩ _ _=_:=e;refine⟨M',?_⟩;simp at s0;simp[-adq,Fn.run,apc,awg,s0,e0',mk,e']
open PySem L2
open PySem.W
set_option maxHeartbeats 0 in
theorem all_mk{l:OpenLaw}{K:Frag}{h:Heap}(X:K.In h)(G:h.Ns mainGlobals mg)(hfa:mg "law" = some (.ref fa))
 (aC2:nsIn K mainGlobals "Pattern" = some (some (.ref C2)))
 (a0:findIn K (.ref C2) "__init__" = some (some (.ref f0)))
 (i0:isFn K (.ref f0)=true)
 (l0:Ck.Lk K f0 "__init__" "Pattern.__init__" (inClass (top 8) 0) oc0 od0 kV0 dc0 pm0 an0 cd0 ct0 sl0)
 (a1:findIn K (.ref C2) "kinds" = some (some (.ref f1)))
 (i1:isFn K (.ref f1)=true)
 (l1:Ck.Lk K f1 "kinds" "Pattern.kinds" (inClass (top 8) 1) oc1 od1 kV1 dc1 pm1 an1 cd1 ct1 sl1)
 (a2:findIn K (.ref C2) "doings" = some (some (.ref f2)))
 (i2:isFn K (.ref f2)=true)
 (l2:Ck.Lk K f2 "doings" "Pattern.doings" (inClass (top 8) 2) oc2 od2 kV2 dc2 pm2 an2 cd2 ct2 sl2)
 (a3:findIn K (.ref C2) "behind" = some (some (.ref f3)))
 (i3:isFn K (.ref f3)=true)
 (l3:Ck.Lk K f3 "behind" "Pattern.behind" (inClass (top 8) 3) oc3 od3 kV3 dc3 pm3 an3 cd3 ct3 sl3)
 (a4:findIn K (.ref C2) "ways" = some (some (.ref f4)))
 (i4:isFn K (.ref f4)=true)
 (l4:Ck.Lk K f4 "ways" "Pattern.ways" (inClass (top 8) 4) oc4 od4 kV4 dc4 pm4 an4 cd4 ct4 sl4)
 (a5:findIn K (.ref C2) "end" = some (some (.ref f5)))
 (i5:isFn K (.ref f5)=true)
 (l5:Ck.Lk K f5 "end" "Pattern.end" (inClass (top 8) 5) oc5 od5 kV5 dc5 pm5 an5 cd5 ct5 sl5)
 (a6:nsIn K mainGlobals "both_ways" = some (some (.ref f6)))
 (l6:Ck.Lk K f6 "both_ways" "both_ways" (top 9) oc6 od6 kV6 dc6 pm6 an6 cd6 ct6 sl6)
 (a7:nsIn K mainGlobals "meeting_pairs" = some (some (.ref f7)))
 (l7:Ck.Lk K f7 "meeting_pairs" "meeting_pairs" (top 10) oc7 od7 kV7 dc7 pm7 an7 cd7 ct7 sl7)
 (a8:nsIn K mainGlobals "is_way_between" = some (some (.ref f8)))
 (l8:Ck.Lk K f8 "is_way_between" "is_way_between" (top 11) oc8 od8 kV8 dc8 pm8 an8 cd8 ct8 sl8)
 (a9:nsIn K mainGlobals "check_doings" = some (some (.ref f9)))
 (l9:Ck.Lk K f9 "check_doings" "check_doings" (top 12) oc9 od9 kV9 dc9 pm9 an9 cd9 ct9 sl9)
 (a10:nsIn K mainGlobals "check_table" = some (some (.ref f10)))
 (l10:Ck.Lk K f10 "check_table" "check_table" (top 13) bf5 bf6 bf7 bf8 bf9 bga bgb bgc bgd)
 (a11:nsIn K mainGlobals "check_threes" = some (some (.ref f11)))
 (l11:Ck.Lk K f11 "check_threes" "check_threes" (top 14) bgf bgg bgh bgi bgj bgk bgl bgm bgn)
 (a12:nsIn K mainGlobals "_law_cell_at" = some (some (.ref f12)))
 (l12:Ck.Lk K f12 "_law_cell_at" "_law_cell_at" (top 21) bgp bgq bgr bgs bgt bgu bgv bgw bgx)
 (a13:nsIn K mainGlobals "_law_state" = some (some (.ref f13)))
 (l13:Ck.Lk K f13 "_law_state" "_law_state" (top 22) bgz bg0 bg1 bg2 bg3 bg4 bg5 bg6 bg7)
 (a14:nsIn K mainGlobals "_law_take" = some (some (.ref f14)))
 (l14:Ck.Lk K f14 "_law_take" "_law_take" (top 23) bg9 bha bhb bhc bhd bhe bhf bhg bhh)
 (a15:nsIn K mainGlobals "_law_begun" = some (some (.ref f15)))
 (l15:Ck.Lk K f15 "_law_begun" "_law_begun" (top 24) bhj bhk bhl bhm bhn bho bhp bhq bhr)
 (a16:nsIn K mainGlobals "_law_closed" = some (some (.ref f16)))
 (l16:Ck.Lk K f16 "_law_closed" "_law_closed" (top 25) bht bhu bhv bhw bhx bhy bhz bh0 bh1)
 (a17:nsIn K mainGlobals "_law_pattern" = some (some (.ref f17)))
 (l17:Ck.Lk K f17 "_law_pattern" "_law_pattern" (top 26) bh3 bh4 bh5 bh6 bh7 bh8 bh9 bia bib)
 (a18:nsIn K mainGlobals "_law_ways" = some (some (.ref f18)))
 (l18:Ck.Lk K f18 "_law_ways" "_law_ways" (top 27) bid bie bih bii bij bik bil bim bio)
 (a19:nsIn K mainGlobals "_law_end" = some (some (.ref f19)))
 (l19:Ck.Lk K f19 "_law_end" "_law_end" (top 28) biq bir bis biu biv biw bix biy biz)
 (a20:nsIn K mainGlobals "_law_behind" = some (some (.ref f20)))
 (l20:Ck.Lk K f20 "_law_behind" "_law_behind" (top 29) bi1 bi2 bi3 bi4 bi5 bi6 bi7 bi8 bi9)
 (a21:nsIn K mainGlobals "_wall" = some (some (.ref f21)))
 (l21:Ck.Lk K f21 "_wall" "_wall" (top 0) bjb bjc bjd bje bjf bjg bjh bji bjj)
 (a22:nsIn K mainGlobals "led" = some (some (.ref f22)))
 (l22:Ck.Lk K f22 "led" "led" (top 16) bjl bjm bjn bjo bjp bjq bjr bjs bjt)
 (a23:nsIn K mainGlobals "things" = some (some (.ref f23)))
 (l23:Ck.Lk K f23 "things" "things" (top 17) bjv bjw bjx bjy bjz bj0 bj1 bj2 bj3)
 (a24:nsIn K mainGlobals "renumbered" = some (some (.ref f24)))
 (l24:Ck.Lk K f24 "renumbered" "renumbered" (top 18) bj5 bj6 bj7 bj8 bj9 bka bkb bkc bkd)
 (a25:nsIn K mainGlobals "renumbered_act" = some (some (.ref f25)))
 (l25:Ck.Lk K f25 "renumbered_act" "renumbered_act" (top 19) bkf bkg bkh bki bkj bkk bkl bkm bkn)
 (a26:nsIn K mainGlobals "_law_merged" = some (some (.ref f26)))
 (l26:Ck.Lk K f26 "_law_merged" "_law_merged" (top 30) bkp bkq bkr bks bkt bku bkv bkw bkx)
 (a27:nsIn K mainGlobals "_law_world" = some (some (.ref f27)))
 (l27:Ck.Lk K f27 "_law_world" "_law_world" (top 31) bkz bk0 bk1 bk2 bk3 bk4 bk5 bk6 bk7)
 (a28:nsIn K mainGlobals "_law_led" = some (some (.ref f28)))
 (l28:Ck.Lk K f28 "_law_led" "_law_led" (top 32) bk9 bla blb blc bld blf blg blh bli)
 (a29:nsIn K mainGlobals "_law_orders" = some (some (.ref f29)))
 (l29:Ck.Lk K f29 "_law_orders" "_law_orders" (top 33) bll blm bln blo blp blq blr bls blu)
 (a30:nsIn K mainGlobals "_law_turned" = some (some (.ref f30)))
 (l30:Ck.Lk K f30 "_law_turned" "_law_turned" (top 34) blw blx bly blz bl0 bl3 bl4 bl5 bl6)
 (a31:nsIn K mainGlobals "_law_whole" = some (some (.ref f31)))
 (l31:Ck.Lk K f31 "_law_whole" "_law_whole" (top 35) bl8 bl9 bma bmb bmc bmd bme bmf bmg)
 (a32:nsIn K mainGlobals "_law_told" = some (some (.ref f32)))
 (l32:Ck.Lk K f32 "_law_told" "_law_told" (top 36) bmi bmj bmk bml bmm bmn bmo bmp bmq)
 (a33:nsIn K mainGlobals "law" = some (some (.ref f33)))
 (l33:Ck.Lk K f33 "law" "law" (top 37) bmt bmu bbv bbw bbx bby bbz bb0 bmv)
 (pg2:plainGet K C2 Str.empty=true)
 (hd2:hasDictIn K C2=true)
 (po2:plainOver K C2=true)
 (sa2:findIn K (.ref C2) "__setattr__" = some (some (.builtin "object.__setattr__")))
 (mk2:makesIn K C2=true)
 (kc2:keepIn K (.ref C2)=true)
 (bb1:findIn K (.ref C2) "together" = some none)
 (bb2:findIn K (.ref C2) "doing_ends" = some none)
 (bb3:findIn K (.ref C2) "kind_count" = some none)
 (v0:nsIn K mainGlobals "STAYING" = some (some (.int (-1) tk0)))
 (v1:nsIn K mainGlobals "MOST_KINDS" = some (some (.int (3) tk1)))
 (v2:nsIn K mainGlobals "MOST_DOINGS" = some (some (.int (5) tk2)))
 (z0:nsIn K mainGlobals "len" = some none)
 (z1:nsIn K mainGlobals "tuple" = some none)
 (z2:nsIn K mainGlobals "list" = some none)
 (z3:nsIn K mainGlobals "dict" = some none)
 (z4:nsIn K mainGlobals "max" = some none)
 (z5:nsIn K mainGlobals "min" = some none)
 (z6:nsIn K mainGlobals "isinstance" = some none)
 (z7:nsIn K mainGlobals "range" = some none)
 (z8:nsIn K mainGlobals "enumerate" = some none)
 (z9:nsIn K mainGlobals "set" = some none)
 (z10:nsIn K mainGlobals "zip" = some none)
 (z11:nsIn K mainGlobals "all" = some none)
 (z12:nsIn K mainGlobals "bool" = some none)
 (z13:nsIn K mainGlobals "int" = some none)
 (z14:nsIn K mainGlobals "sum" = some none)
 (z15:nsIn K mainGlobals "sorted" = some none)
 : ∃fd:FuncData,(∀(s:Shared)(v:Value),BindsTo s fd ⟨[v],[]⟩ [("script",v)])/\∀base:Heap,K.In base->base.Ns mainGlobals mg->Ij l.prog w K mg base CX0 170 fa fd ["script"] (Ck.aim K):=by
 have e:=(dz X G a33).symm.trans hfa;cases e;have aF:Ck.ab9 K Ds sts [f0,f1,f2,f3,f4,f5,f6,f7,f8,f9,f10,f11,f12,f13,f14,f15,f16,f17,f18,f19,f20,f21,f22,f23,f24,f25,f26,f27,f28,f29,f30,f31,f32,fa] [_,_,_,_,_,_,_,_,_,_,_,_,_,_,_,_,_,_,_,_,_,_,_,_,_,_,_,_,_,_,_,_,_,_]:=(Ck.fE l0 (Ck.fE l1 (Ck.fE l2 (Ck.fE l3 (Ck.fE l4 (Ck.fE l5 (Ck.fE l6 (Ck.fE l7 (Ck.fE l8 (Ck.fE l9 (Ck.fE l10 (Ck.fE l11 (Ck.fE l12 (Ck.fE l13 (Ck.fE l14 (Ck.fE l15 (Ck.fE l16 (Ck.fE l17 (Ck.fE l18 (Ck.fE l19 (Ck.fE l20 (Ck.fE l21 (Ck.fE l22 (Ck.fE l23 (Ck.fE l24 (Ck.fE l25 (Ck.fE l26 (Ck.fE l27 (Ck.fE l28 (Ck.fE l29 (Ck.fE l30 (Ck.fE l31 (Ck.fE l32 (Ck.fE l33 Ck.fN))))))))))))))))))))))))))))))))));have aG:Ck.Vw mg tab.fns [f0,f1,f2,f3,f4,f5,f6,f7,f8,f9,f10,f11,f12,f13,f14,f15,f16,f17,f18,f19,f20,f21,f22,f23,f24,f25,f26,f27,f28,f29,f30,f31,f32,fa]:=(Ck.gO (Ck.gO (Ck.gO (Ck.gO (Ck.gO (Ck.gO (Ck.gS (dz X G a6) (Ck.gS (dz X G a7) (Ck.gS (dz X G a8) (Ck.gS (dz X G a9) (Ck.gS (dz X G a10) (Ck.gS (dz X G a11) (Ck.gS (dz X G a12) (Ck.gS (dz X G a13) (Ck.gS (dz X G a14) (Ck.gS (dz X G a15) (Ck.gS (dz X G a16) (Ck.gS (dz X G a17) (Ck.gS (dz X G a18) (Ck.gS (dz X G a19) (Ck.gS (dz X G a20) (Ck.gS (dz X G a21) (Ck.gS (dz X G a22) (Ck.gS (dz X G a23) (Ck.gS (dz X G a24) (Ck.gS (dz X G a25) (Ck.gS (dz X G a26) (Ck.gS (dz X G a27) (Ck.gS (dz X G a28) (Ck.gS (dz X G a29) (Ck.gS (dz X G a30) (Ck.gS (dz X G a31) (Ck.gS (dz X G a32) (Ck.gS (dz X G a33) Ck.gN))))))))))))))))))))))))))))))))));have aC:Ck.Qo K mg tab [f0,f1,f2,f3,f4,f5,f6,f7,f8,f9,f10,f11,f12,f13,f14,f15,f16,f17,f18,f19,f20,f21,f22,f23,f24,f25,f26,f27,f28,f29,f30,f31,f32,fa] tab.cls [none,none,some C2] prog.cls:=(Ck.cO (Ck.cO (Ck.cS ⟨dz X G aC2,⟨pg2,hd2,po2,sa2⟩,⟨_,rfl,⟨mk2,a0,i0,kc2⟩⟩,(Ck.mC rfl rfl ⟨a1,i1,l1.2.2⟩ (Ck.mC rfl rfl ⟨a2,i2,l2.2.2⟩ (Ck.mC rfl rfl ⟨a3,i3,l3.2.2⟩ (Ck.mC rfl rfl ⟨a4,i4,l4.2.2⟩ (Ck.mC rfl rfl ⟨a5,i5,l5.2.2⟩ Ck.mN))))),(Ck.nC bb1 (Ck.nC bb2 (Ck.nC bb3 Ck.nN)))⟩ Ck.cN)));have aV:Ck.acb mg tab.aub:=(Ck.vC (dz X G v0) (Ck.vC (dz X G v1) (Ck.vC (dz X G v2) Ck.vN)));have aB:Ck.AllB mg Ck.Qn:=(Ck.bC (jh X G z0) (Ck.bC (jh X G z1) (Ck.bC (jh X G z2) (Ck.bC (jh X G z3) (Ck.bC (jh X G z4) (Ck.bC (jh X G z5) (Ck.bC (jh X G z6) (Ck.bC (jh X G z7) (Ck.bC (jh X G z8) (Ck.bC (jh X G z9) (Ck.bC (jh X G z10) (Ck.bC (jh X G z11) (Ck.bC (jh X G z12) (Ck.bC (jh X G z13) (Ck.bC (jh X G z14) (Ck.bC (jh X G z15) Ck.bN))))))))))))))));refine⟨fnOf "law" "law" (Lr (top 37)) (Ji (top 37)) (Ba (top 37)) .none bbv bbw bbx bby bbz bb0,λs v=>.of_eq rfl,λbase _ _=>?_⟩;obtain⟨d,a,f,g1,g2,g3,g4,g5⟩:=Ck.az2 (P:=l.prog) (w:=w) (base:=base) (n:=10) (i:=33) (F:=apc) ba3 chk ba4 ba5 ba6 aF aG aC aV aB rfl;cases g1;cases g2;cases g3;exact g5.imp λvs H Q E hh=>Ck.auv (λns hl=>a0k (by decide)) hh
end K04
open PySem PySem.W PyProof.Rows
namespace PySem.W.Fast
def tw4879380101299294266:=Nat
def tw11265807063114336050:=Nat
def tw16374591980445277727:=Nat
def tw2827714666587054047:=Nat
def tw17248284486903605294:=Nat
def tw12927013642432252992:=Nat
def tw8719129075500711836:=Nat
def tw10169186261429064314:=Nat
def tw14529512097101274746:=Nat
def tw1704646904945304502:=Nat
def tw2187398243120818437:=Nat
def tw13694214104541463606:=Nat
def tw10289787717574758396:=Nat
def tw1939644827700406176:=Nat
def tw3534163454884427270:=Nat
def tw4541022267641312992:=Nat
def tw3085457857311241888:=Nat
def tw11389781403813550598:=Nat
def tw16118016647494008598:=Nat
def tw12042979394343537750:=Nat
def tw5065976416752475951:=Nat
def tw3992607894882215598:=Nat
def tw14253121954350229014:=Nat
def tw4941871803226139054:=Nat
def tw5952889764159585566:=Nat
def tw9058976025270797572:=Nat
def tw2458745992158764002:=Nat
def tw2869588818887053150:=Nat
def tw5316313904648015494:=Nat
def tw3202127707427243899:=Nat
def tw2374540646987736529:=Nat
def tw3504897054884930888:=Nat
def tw2329384336417462131:=Nat
def tw8085818592603252020:=Nat
def tw13751159502782916561:=Nat
def tw496763614727882353:=Nat
def tw3617991232649980051:=Nat
def tw6813403667809471308:=Nat
def tw17758029792196679289:=Nat
def tw4371498271103589859:=Nat
def tw2102142319224833228:=Nat
def tw13561408242633295229:=Nat
def tw17511629118074473293:=Nat
def tw1567279745752433870:=Nat
def tw8504261836874375498:=Nat
def tw8307050157049362999:=Nat
def tw10412324382286592719:=Nat
def tw1338428091785443787:=Nat
def tw3098722077059827949:=Nat
def tw11322990511743828146:=Nat
def tw1472226497834063204:=Nat
def tw17170385268223669385:=Nat
def tw8866268297493530084:=Nat
def tw13238120015685992154:=Nat
def tw9868146976168041227:=Nat
def tw2191000436597909890:=Nat
def tw7935735169131972716:=Nat
def tw4773564194339836569:=Nat
def tw6390084504473953214:=Nat
def tw1288328352425066031:=Nat
def tw2392265262684594734:=Nat
def tw10164918443816935671:=Nat
def tw15042049029424017322:=Nat
def tw9638761265364602159:=Nat
def tw17431618108576837302:=Nat
def tw8170613566354952366:=Nat
def tw14092699357427040676:=Nat
def tw143338184362653751:=Nat
def tw6095354275084234218:=Nat
def tw4375595067033895203:=Nat
def tw6656566820390150704:=Nat
def tw2691532913914475494:=Nat
def tw3833325928001926293:=Nat
def tw13961647328548091325:=Nat
def tw1222603327983290631:=Nat
def tw3199081731553935013:=Nat
def tw9277209580461736768:=Nat
def tw16014528866623138066:=Nat
def tw8886568058012715301:=Nat
def tw17280792105360708475:=Nat
def tw6639778957694082934:=Nat
def tw13635035745941044319:=Nat
def tw13330290518056745737:=Nat
def tw4817940870299871727:=Nat
def tw6354930806474796015:=Nat
def tw15527854010646661411:=Nat
def tw8846368829248695050:=Nat
def tw7474038706720338047:=Nat
def tw16995001490701917506:=Nat
def tw13449582399299346899:=Nat
def tw8300699272933741241:=Nat
def tw10989291238775035852:=Nat
def tw8531704936345704089:=Nat
def tw2955735468743346965:=Nat
def tw9056916606114106730:=Nat
def tw3529222791908318196:=Nat
def tw6689513756018734222:=Nat
def tw17284890307135553912:=Nat
def tw11682998399031869038:=Nat
def tw13388608587118149138:=Nat
def tw11233568600443775235:=Nat
def tw7511921761999124919:=Nat
def tw7378643475524193470:=Nat
def tw10282747286848566631:=Nat
def tw6142937574029827550:=Nat
def tw3861269899362126854:=Nat
def tw5458484295154632341:=Nat
def tw4805072648116755971:=Nat
def tw11461362191531726447:=Nat
def tw4625539033721434729:=Nat
def tw14890558614510048012:=Nat
def tw7906578131600097544:=Nat
def tw6636281377022474147:=Nat
def tw5783543107115073876:=Nat
def tw6475351608455555015:=Nat
def tw3494663202173164795:=Nat
def tw14161070839923609382:=Nat
def tw9266208323991892234:=Nat
def tw6280530726927012870:=Nat
def tw1439765348864689616:=Nat
def tw7521546749593575355:=Nat
def tw9290995190560409977:=Nat
def tw3373562373535638973:=Nat
def tw2948817457731484582:=Nat
def tw7170874623706467268:=Nat
def tw16466480796716595410:=Nat
def tw1394684159555678005:=Nat
def tw10404894805803017820:=Nat
def tw16463492782251143176:=Nat
def tw1541861996432541468:=Nat
def tw11311090738572805201:=Nat
def tw7321087707966429487:=Nat
def tw265479563585187133:=Nat
def tw9096946159018691661:=Nat
def tw10859267267817034761:=Nat
def tw15823043575731823079:=Nat
def tw17086439971172808303:=Nat
def tw16340534920629017022:=Nat
def tw11540990682227272450:=Nat
def tw17804610427249017373:=Nat
def tw7174620108784181353:=Nat
def tw6586195170287425316:=Nat
def tw3067794304687904285:=Nat
def tw11408446777316121088:=Nat
def tw5212412695040775662:=Nat
def tw3796881533527119238:=Nat
def tw19068204675608202:=Nat
def tw4140862319973925412:=Nat
def tw7801004681935475874:=Nat
def tw2931724041201492649:=Nat
def tw10448146096713110486:=Nat
def tw17791872141639004335:=Nat
def tw14314754281704391554:=Nat
def tw13339027428570441378:=Nat
def tw8022548169239738672:=Nat
def tw17891509264086810008:=Nat
def tw8221263515286074209:=Nat
def tw12690305132465113036:=Nat
def tw1201860440922217554:=Nat
def tw18371563948287045512:=Nat
def tw5140416419110724855:=Nat
def tw9542566833211707625:=Nat
def tw15144044666577654390:=Nat
def tw1857601192121210648:=Nat
def tw10551107118325680524:=Nat
def tw4515490454801288016:=Nat
def tw55423141870697831:=Nat
def tw18074472170069175866:=Nat
def tw6014869937193032688:=Nat
def tw8423055958990695029:=Nat
def tw6885622590571138092:=Nat
def tw17982816202460007812:=Nat
def tw16464364587373170184:=Nat
def tw11983500737596010254:=Nat
def tw8125029459228819884:=Nat
def tw14379818522110533481:=Nat
def tw135221065213364663:=Nat
def tw11790634020742538537:=Nat
def tw8420213005010420947:=Nat
def tw5280357149330196565:=Nat
def tw3944385765908288614:=Nat
def tw14961686026937775802:=Nat
def tw3847236539629655943:=Nat
def tw8610340361855558268:=Nat
def tw5119976393992821591:=Nat
def tw2237106902393080354:=Nat
def tw9721127050413528337:=Nat
def tw9573828499222463922:=Nat
def tw9481831882275198613:=Nat
def tw9350670081468328790:=Nat
def tw9078980346450642781:=Nat
def tw8727620396692160602:=Nat
def tw8697880065391917162:=Nat
def tw8652013387036326156:=Nat
def tw8452485098282396488:=Nat
def tw8352598494285408704:=Nat
def tw7674727860274490851:=Nat
def tw7002334442169216409:=Nat
def tw6844500524249805054:=Nat
end PySem.W.Fast
set_option maxRecDepth 100000 in
set_option maxHeartbeats 0 in
theorem PySem.Challenge.cw_mapwright_k04_things_led_and_renumbered_holds : PySem.Challenge.rw_mapwright_k04_things_led_and_renumbered.Holds := by
 w_on;o_law;k_head;(case hw=>w_witness2)
 k_fill
 refine Ck.walk (l:=PySem.Challenge.rw_mapwright_k04_things_led_and_renumbered) rfl rfl (λw h Y=>PySem.W.kIn_of Y) ?F
 case F =>
  intro w mg fa h KX G hmg;apply K04.all_mk KX G hmg<;>(try refine⟨?_,?_,?_⟩)<;>k_is
